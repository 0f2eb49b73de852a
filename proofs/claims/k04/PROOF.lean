import PyProof.Rows.All
import Wide.All
import OpenK.AllK
import Wide.FinOn
import Lean
import PyProof.EqAt
import PyProof.EqKinds
import PyProof.TupleCall
import PySem.Challenge.RW_hatsight_k04_first_fault
set_option Elab.async false
set_option linter.all false
set_option maxRecDepth 100000
namespace L2
open PySem PySem.Spec PyProof.Rows
noncomputable abbrev Key := Sum Int Str
noncomputable def keyIs : Key → Value → Bool
  | .inl k, v => Value.isInt k v
  | .inr x, v => Value.isStrOf x v
noncomputable def keyH (w : World) : Key → Int
  | .inl k => hashInt k
  | .inr x => hashStr w x
theorem keyIs_shape : ∀ {k : Key} {v : Value}, keyIs k v = true → (∃ i t, k = Sum.inl i ∧ v = Value.int i t) ∨ (∃ x t, k = Sum.inr x ∧ v = Value.str x t)
  | .inl i, v, h => by
    obtain ⟨t, e⟩ := Value.isInt_shape (k := i) (v := v) h
    exact .inl ⟨i, t, rfl, e⟩
  | .inr x, v, h => by
    obtain ⟨t, e⟩ := Value.isStrOf_shape (x := x) (v := v) h
    exact .inr ⟨x, t, rfl, e⟩
theorem keyIs_int (i : Int) (t : Tok) : keyIs (.inl i) (.int i t) = true := by simp [keyIs, Value.isInt]
theorem keyIs_str (x : Str) (t : Tok) : keyIs (.inr x) (.str x t) = true := by simp [keyIs, Value.isStrOf]
theorem key_ll (a b : Int) : decide ((Sum.inl a : Key) = Sum.inl b) = (a == b) := by
  by_cases e : a = b
  · subst e; simp
  · have h : ¬ (Sum.inl a : Key) = Sum.inl b := fun q => e (Sum.inl.inj q)
    rw [decide_eq_false h]
    exact (beq_eq_false_iff_ne.mpr e).symm
theorem key_rr (a b : Str) : decide ((Sum.inr a : Key) = Sum.inr b) = decide (a = b) := by
  by_cases e : a = b
  · subst e; simp
  · have h : ¬ (Sum.inr a : Key) = Sum.inr b := fun q => e (Sum.inr.inj q)
    rw [decide_eq_false h, decide_eq_false e]
theorem key_lr (a : Int) (b : Str) : decide ((Sum.inl a : Key) = Sum.inr b) = false := decide_eq_false (fun q => nomatch q)
theorem key_rl (a : Str) (b : Int) : decide ((Sum.inr a : Key) = Sum.inl b) = false := decide_eq_false (fun q => nomatch q)
noncomputable def mixKind (prog : Program) (w : World) : PySem.KeyKind prog w Key where
  is := keyIs
  hash := keyH w
  inj := fun v a b ha hb => by
    rcases keyIs_shape ha with ⟨i, t, rfl, rfl⟩ | ⟨x, t, rfl, rfl⟩
    · rcases keyIs_shape hb with ⟨j, u, rfl, e⟩ | ⟨y, u, rfl, e⟩
      · injection e with e1 _; rw [e1]
      · exact nomatch e
    · rcases keyIs_shape hb with ⟨j, u, rfl, e⟩ | ⟨y, u, rfl, e⟩
      · exact nomatch e
      · injection e with e1 _; rw [e1]
  byValue := fun k v h => by
    rcases keyIs_shape h with ⟨i, t, rfl, rfl⟩ | ⟨x, t, rfl, rfl⟩ <;> rfl
  pyHash := fun hv h => by
    rcases keyIs_shape hv with ⟨i, t, rfl, rfl⟩ | ⟨x, t, rfl, rfl⟩
    · exact wpAny_pyHash_int h
    · exact wpAny_pyHash_str h
  eqBool := fun hu hv h => by
    rcases keyIs_shape hu with ⟨i, t, rfl, rfl⟩ | ⟨x, t, rfl, rfl⟩
    · rcases keyIs_shape hv with ⟨j, u, rfl, rfl⟩ | ⟨y, u, rfl, rfl⟩
      · rw [key_ll] at h; exact wpAny_eqBool_int h
      · rw [key_lr] at h; exact SeqAt.EqAt.int_str i t y u _ _ _ _ h
    · rcases keyIs_shape hv with ⟨j, u, rfl, rfl⟩ | ⟨y, u, rfl, rfl⟩
      · rw [key_rl] at h; exact SeqAt.EqAt.str_int x t j u _ _ _ _ h
      · rw [key_rr] at h; exact wpAny_eqBool_str h
  «strs» := fun k x t v h => by
    rcases keyIs_shape h with ⟨i, u, rfl, e⟩ | ⟨y, u, rfl, e⟩
    · exact nomatch e
    · injection e with e1 _
      subst e1
      cases v <;> rfl
theorem mixKind_int (prog : Program) (w : World) (i : Int) (t : Tok) : (mixKind prog w).is (.inl i) (.int i t) = true := keyIs_int i t
theorem mixKind_str (prog : Program) (w : World) (x : Str) (t : Tok) : (mixKind prog w).is (.inr x) (.str x t) = true := keyIs_str x t
end L2
namespace L2
open PySem PySem.Spec PyProof.Rows
inductive V where
  | non | bl (b : Bool) | int (i : Int) | str (x : Str) | byt (b : Array UInt8) | flt (b : UInt64) | ref (a : Addr) | ty (n : String)
  deriving DecidableEq
noncomputable def RelV : V → Value → Prop
  | .non, u => u = Value.none
  | .bl b, u => u = Value.bool b
  | .int i, u => ∃ t, u = Value.int i t
  | .str x, u => ∃ t, u = Value.str x t
  | .byt b, u => ∃ t, u = Value.bytes b t
  | .flt b, u => ∃ t, u = Value.float b t
  | .ref a, u => u = Value.ref a
  | .ty n, u => u = Value.type n
noncomputable abbrev Vals : List V → List Value → Prop := Paired RelV
theorem Vals.length {xs : List V} {us : List Value} (r : Vals xs us) : xs.length = us.length := Paired.length r
theorem Vals.get : ∀ {xs : List V} {us : List Value} {i : Nat} {x : V}, Vals xs us → xs[i]? = some x → ∃ u, us[i]? = some u ∧ RelV x u
  | _, _, _, _, .nil, e => by simp at e
  | _, _, 0, _, .cons r _, e => by simp at e; subst e; exact ⟨_, rfl, r⟩
  | _, _, i + 1, x, .cons _ t, e => by
    obtain ⟨u, h1, h2⟩ := Vals.get (i := i) (x := x) t (by simpa using e)
    exact ⟨u, by simpa using h1, h2⟩
theorem Vals.set {x : V} {u : Value} (r : RelV x u) : ∀ {xs : List V} {us : List Value} (i : Nat), Vals xs us → Vals (xs.set i x) (us.set i u)
  | _, _, _, .nil => .nil
  | _, _, 0, .cons _ t => .cons r t
  | _, _, i + 1, .cons q t => .cons q (Vals.set r i t)
theorem Vals.append : ∀ {xs ys : List V} {us ws : List Value}, Vals xs us → Vals ys ws → Vals (xs ++ ys) (us ++ ws)
  | _, _, _, _, .nil, s => s
  | _, _, _, _, .cons r t, s => .cons r (Vals.append t s)
theorem Vals.take : ∀ {xs : List V} {us : List Value} (n : Nat), Vals xs us → Vals (xs.take n) (us.take n)
  | _, _, 0, _ => .nil
  | _, _, _ + 1, .nil => .nil
  | _, _, n + 1, .cons r t => .cons r (Vals.take n t)
theorem Vals.drop : ∀ {xs : List V} {us : List Value} (n : Nat), Vals xs us → Vals (xs.drop n) (us.drop n)
  | _, _, 0, r => r
  | _, _, _ + 1, .nil => .nil
  | _, _, n + 1, .cons _ t => Vals.drop n t
noncomputable def RelO : Option V → Option Value → Prop
  | some v, some u => RelV v u
  | none, none => True
  | _, _ => False
noncomputable def KV {κ : Type} : List (κ × V) → List (κ × Value) → Prop := Paired fun (p : κ × V) (q : κ × Value) => p.1 = q.1 ∧ RelV p.2 q.2
noncomputable def kV : Key → V
  | .inl i => .int i
  | .inr x => .str x
inductive HO where
  /-- a list -/
  | lst (xs : List V)
  /-- a tuple (never changes) -/
  | tup (xs : List V)
  /-- a dict whose keys are ints and texts; one whose keys are tuples of ints and texts (the empty one is both) -/
  | dK (kvs : List (Key × V)) | dT (kvs : List (List Key × V))
  /-- a set of ints: its members, its size -/
  | set (S : Int → Bool) (n : Nat)
  /-- an instance of the class at C, its dict at dx, its attributes -/
  | ins (C dx : Addr) (fs : List (Str × V))
  /-- the dict of the instance at x -/
  | own (x : Addr)
  /-- the dict of an exception -/
  | xd (fs : List (Str × V))
  /-- a bound method, f of x -/
  | met (f x : Addr)
  /-- a range object lo, lo + 1, .. below hi -/
  | rng (lo hi : Int)
  /-- a thing that is known to the object (the script; a dict while a loop walks it): read, never written while it is so -/
  | frz (o : Obj) (u : HO)
  /-- a code object's table -/
  | tbl (ps : Array Value)
  /-- any other thing, by what is true of its one object (a def of one's own: SetO a S n := HO.ext fun h => ..) -/
  | ext (φ : Heap → Prop)
noncomputable abbrev Hp := Addr → Option HO
noncomputable def upd (H : Hp) (a : Addr) (o : HO) : Hp := fun b => if b = a then some o else H b
theorem upd_same {H : Hp} {a : Addr} {o : HO} : upd H a o a = some o := by unfold upd; rw [if_pos rfl]
theorem upd_ne {H : Hp} {a b : Addr} {o : HO} (h : b ≠ a) : upd H a o b = H b := by unfold upd; rw [if_neg h]
theorem upd_upd {H : Hp} {a : Addr} {o u : HO} : upd (upd H a o) a u = upd H a u := by
  funext b; unfold upd; split <;> rfl
theorem ne_of {H : Hp} {a b : Addr} {o u : HO} (h : H a = some o) (h' : H b = some u) (d : o ≠ u) : a ≠ b := by
  intro e; subst e; rw [h] at h'; exact d (Option.some.inj h')
theorem ne_of_none {H : Hp} {a b : Addr} {o : HO} (h : H a = some o) (h' : H b = none) : a ≠ b := by
  intro e; subst e; rw [h] at h'; cases h'
section
variable (P : Program) (w : World)
noncomputable def ObjOk (H : Hp) (h : Heap) (a : Addr) : HO → Prop
  | .lst xs => xs.length ≤ sizeLine ∧ ∃ (its : List Value) (n : Nat), Vals xs its ∧ h.get? a = some { cls := .type "list", data := .seq its.toArray n }
  | .tup xs => xs.length ≤ sizeLine ∧ ∃ its : List Value, Vals xs its ∧ IsTup h a its.toArray
  | .dK kvs => kvs.length ≤ sizeLine ∧ (a == sysModules) = false ∧ ∃ vs, KV kvs vs ∧ h.DictOf (mixKind P w) a vs
  | .dT kvs => kvs.length ≤ sizeLine ∧ (a == sysModules) = false ∧ ∃ xs : List (List Key × Addr × Value),
      Paired (fun (p : List Key × V) (q : List Key × Addr × Value) => p.1 = q.1 ∧ H q.2.1 = some (.tup (p.1.map kV)) ∧ RelV p.2 q.2.2) kvs xs ∧
      ∃ o es ep, h.get? a = some o ∧ o.ExactDict ∧ o.data = .dict es ep ∧ es.toList = xs.map (entryOfKey (tupleKind (mixKind P w))) ∧ (xs.map (·.1)).Nodup
  | .set S n => h.SetOf (intKind P w) a S n
  | .ins C dx fs => H dx = some (.own a) ∧ fs.length ≤ 1000 ∧ dx ≠ a ∧ h.get? a = some (PySem.W.instObj C dx) ∧
      ∃ mA, h.Ns1 dx mA ∧ (∀ f, RelO (fs.lookup f) (mA f)) ∧ PySem.Within mA (fs.map (·.1))
  | .own _ => ∃ o, h.get? a = some o
  | .xd fs => ∃ mA, h.Ns1 a mA ∧ ∀ f, RelO (fs.lookup f) (mA f)
  | .rng lo hi => ∃ t u v, h.get? a = some { cls := .type "range", data := .fields #[.int lo t, .int hi u, .int 1 v] }
  | .frz o u => h.get? a = some o ∧ ObjOk H h a u
  | .tbl ps => h.get? a = some { cls := .none, data := .fields ps }
  | .met f x => h.get? a = some (PySem.W.methodObj (.ref f) (.ref x))
  | .ext φ => φ h ∧ (∃ o, h.get? a = some o) ∧ ∀ h1 h2 : Heap, φ h1 → (∀ o, h1.get? a = some o → h2.get? a = some o) → φ h2
noncomputable def HOk (H : Hp) (h : Heap) : Prop := ∀ a o, H a = some o → ObjOk P w H h a o
end
section
variable {P : Program} {w : World} {H H' : Hp} {h h' : Heap} {a : Addr} {o : HO}
theorem ObjOk.lt (x : ObjOk P w H h a o) : a < h.objs.size := by
  cases o with
  | lst xs => obtain ⟨_, _, _, _, e⟩ := x; exact Heap.lt_size e
  | tup xs => obtain ⟨_, _, _, p⟩ := x; exact p.lt
  | dK kvs => obtain ⟨_, _, _, _, o, _, _, e, _⟩ := x; exact Heap.lt_size e
  | dT kvs => obtain ⟨_, _, _, _, o, _, _, e, _⟩ := x; exact Heap.lt_size e
  | set S n => obtain ⟨o, _, _, _, e, _⟩ := x; exact Heap.lt_size e
  | ins C dx fs => obtain ⟨_, _, _, e, _⟩ := x; exact Heap.lt_size e
  | own y => obtain ⟨_, e⟩ := x; exact Heap.lt_size e
  | xd fs => obtain ⟨_, ⟨_, _, _, e, _⟩, _⟩ := x; exact Heap.lt_size e
  | rng lo hi => obtain ⟨_, _, _, e⟩ := x; exact Heap.lt_size e
  | frz ob u => obtain ⟨e, _⟩ := x; exact Heap.lt_size e
  | tbl ps => exact Heap.lt_size (show h.get? a = some _ from x)
  | met f y => exact Heap.lt_size (show h.get? a = some _ from x)
  | ext φ => obtain ⟨_, ⟨_, e⟩, _⟩ := x; exact Heap.lt_size e
theorem Paired.mapP {α β : Type} {F G : α → β → Prop} : ∀ {l₁ : List α} {l₂ : List β}, Paired F l₁ l₂ → (∀ a b, F a b → G a b) → Paired G l₁ l₂
  | _, _, .nil, _ => .nil
  | _, _, .cons r t, f => .cons (f _ _ r) (Paired.mapP t f)
theorem ObjOk.stay (x : ObjOk P w H h a o) (k : ∀ b u, (b = a ∨ H b = some (.own a)) → h.get? b = some u → h'.get? b = some u)
    (ho : ∀ b, H b = some (.own a) → H' b = some (.own a)) (ht : ∀ b xs, H b = some (.tup xs) → H' b = some (.tup xs)) : ObjOk P w H' h' a o := by
  induction o with
  | lst xs => obtain ⟨z, its, n, r, e⟩ := x; exact ⟨z, its, n, r, k _ _ (.inl rfl) e⟩
  | tup xs => obtain ⟨z, its, r, ob, e, c⟩ := x; exact ⟨z, its, r, ob, k _ _ (.inl rfl) e, c⟩
  | dK kvs => obtain ⟨z, y, vs, r, ob, es, ep, e, c⟩ := x; exact ⟨z, y, vs, r, ob, es, ep, k _ _ (.inl rfl) e, c⟩
  | dT kvs =>
    obtain ⟨z, y, xs, r, ob, es, ep, e, c⟩ := x
    exact ⟨z, y, xs, Paired.mapP r fun p q z => ⟨z.1, ht _ _ z.2.1, z.2.2⟩, ob, es, ep, k _ _ (.inl rfl) e, c⟩
  | set S n => obtain ⟨ob, es, ep, t, e, c⟩ := x; exact ⟨ob, es, ep, t, k _ _ (.inl rfl) e, c⟩
  | ins C dx fs =>
    obtain ⟨d, z, ne, e, mA, ⟨od, es, ep, e2, c⟩, r⟩ := x
    exact ⟨ho _ d, z, ne, k _ _ (.inl rfl) e, mA, ⟨od, es, ep, k _ _ (.inr d) e2, c⟩, r⟩
  | own y => obtain ⟨ob, e⟩ := x; exact ⟨ob, k _ _ (.inl rfl) e⟩
  | xd fs => obtain ⟨mA, ⟨od, es, ep, e, c⟩, r⟩ := x; exact ⟨mA, ⟨od, es, ep, k _ _ (.inl rfl) e, c⟩, r⟩
  | rng lo hi => obtain ⟨t, u, v, e⟩ := x; exact ⟨t, u, v, k _ _ (.inl rfl) e⟩
  | frz ob u ih => obtain ⟨e, q⟩ := x; exact ⟨k _ _ (.inl rfl) e, ih q⟩
  | tbl ps =>
    have e : h.get? a = some { cls := .none, data := .fields ps } := x
    show h'.get? a = some { cls := .none, data := .fields ps }
    exact k a _ (.inl rfl) e
  | met f y =>
    have e : h.get? a = some (PySem.W.methodObj (.ref f) (.ref y)) := x
    show h'.get? a = some (PySem.W.methodObj (.ref f) (.ref y))
    exact k a _ (.inl rfl) e
  | ext φ => obtain ⟨p, ⟨o, e⟩, st⟩ := x; exact ⟨st _ _ p fun o q => k _ _ (.inl rfl) q, ⟨o, k _ _ (.inl rfl) e⟩, st⟩
theorem HOk.lt (x : HOk P w H h) (e : H a = some o) : a < h.objs.size := (x a o e).lt
theorem HOk.fresh (x : HOk P w H h) (e : h.objs.size ≤ a) : H a = none := by
  cases q : H a with
  | none => rfl
  | some u => exact absurd (Nat.lt_of_lt_of_le (x.lt q) e) (Nat.lt_irrefl _)
theorem HOk.kept (x : HOk P w H h) (k : ∀ b u, h.get? b = some u → h'.get? b = some u) : HOk P w H h' := fun a o e =>
  (x a o e).stay (fun b u _ q => k b u q) (fun _ q => q) fun _ _ q => q
theorem HOk.laid (x : HOk P w H h) (k : ∀ b u, h.get? b = some u → h'.get? b = some u) (hp : h.objs.size ≤ a) (new : ObjOk P w (upd H a o) h' a o) : HOk P w (upd H a o) h' := fun b u e => by
  have hn := x.fresh hp
  by_cases hb : b = a
  · subst hb; rw [upd_same] at e; cases e; exact new
  · rw [upd_ne hb] at e
    exact (x b u e).stay (fun c v _ q => k c v q) (fun c q => by rw [upd_ne (ne_of_none q hn)]; exact q) fun c xs q => by rw [upd_ne (ne_of_none q hn)]; exact q
end
noncomputable def Rd (H : Hp) (a : Addr) (u : HO) : Prop := H a = some u ∨ ∃ o, H a = some (.frz o u)
theorem Rd.ok {P : Program} {w : World} {H : Hp} {h : Heap} {a : Addr} {u : HO} (r : Rd H a u) (x : HOk P w H h) : ObjOk P w H h a u := by
  rcases r with r | ⟨o, r⟩
  · exact x a u r
  · obtain ⟨_, q⟩ := x a _ r
    exact q
noncomputable def Mut : Option HO → Prop
  | some (.lst _) => True
  | some (.dK _) => True
  | some (.dT _) => True
  | some (.set _ _) => True
  | some (.ins _ _ _) => True
  | some (.ext _) => True
  | _ => False
section
variable {P : Program} {w : World} {H : Hp} {h h' : Heap} {x e : Addr} {o' : HO}
theorem HOk.write (ok : HOk P w H h) (mu : Mut (H x)) (he : e = x ∨ H e = some (.own x)) (k : ∀ b u, b ≠ e → h.get? b = some u → h'.get? b = some u) (heo : ∃ u, h'.get? e = some u)
    (new : ObjOk P w (upd H x o') h' x o') : HOk P w (upd H x o') h' := fun b u q => by
  have nown : ∀ c y, H c = some (.own y) → c ≠ x := fun c y r z => by subst z; rw [r] at mu; exact mu
  have ntup : ∀ c xs, H c = some (.tup xs) → c ≠ x := fun c xs r z => by subst z; rw [r] at mu; exact mu
  by_cases hb : b = x
  · subst hb; rw [upd_same] at q; cases q; exact new
  · rw [upd_ne hb] at q
    by_cases hbe : b = e
    · have q' : H b = some (.own x) := by
        rcases he with z | z
        · exact absurd (hbe.trans z) hb
        · rw [hbe]; exact z
      rw [q] at q'; cases q'
      obtain ⟨v, hv⟩ := heo
      exact ⟨v, by rw [hbe]; exact hv⟩
    · refine (ok b u q).stay (fun c v hc r => k c v ?_ r) (fun c r => by rw [upd_ne (nown c b r)]; exact r) fun c xs r => by rw [upd_ne (ntup c xs r)]; exact r
      rcases hc with rfl | hc
      · exact hbe
      · rintro rfl
        rcases he with z | z
        · exact nown c b hc z
        · rw [hc] at z; cases z; exact hb rfl
end
structure Un (fs ex : List Addr) (H H' : Hp) (h h' : Heap) : Prop where
  keep : ∀ b o, h.get? b = some o → H b = none → b ∉ fs → b ∉ ex → h'.get? b = some o
  slot : ∀ b o, h.get? b = some o → H b = none → b ∈ fs → b ∉ ex → ∃ sl, h'.get? b = some { o with slots := sl }
  free : ∀ b o, h.get? b = some o → H b = none → b ∉ ex → H' b = none
  there : ∀ b o, h.get? b = some o → b ∉ ex → ∃ o', h'.get? b = some o'
  tups : ∀ b xs, H b = some (.tup xs) → H' b = some (.tup xs)
  frzs : ∀ b o u, H b = some (.frz o u) → H' b = some (.frz o u)
  tbls : ∀ b ps, H b = some (.tbl ps) → ∃ more, H' b = some (.tbl (ps ++ more))
section
variable {fs fs' ex ex' : List Addr} {H H1 H2 : Hp} {h h1 h2 h' : Heap} {a x e : Addr} {o : HO}
theorem Un.any (u : Un fs ex H H1 h h1) {b : Addr} {ob : Obj} (q : h.get? b = some ob) (n : H b = none) (hx : b ∉ ex) : ∃ sl, h1.get? b = some { ob with slots := sl } := by
  by_cases hb : b ∈ fs
  · exact u.slot b ob q n hb hx
  · exact ⟨ob.slots, u.keep b ob q n hb hx⟩
theorem Un.trans (a : Un fs ex H H1 h h1) (b : Un fs ex H1 H2 h1 h2) : Un fs ex H H2 h h2 where
  keep := fun c ob q n hc hx => b.keep c ob (a.keep c ob q n hc hx) (a.free c ob q n hx) hc hx
  slot := fun c ob q n hc hx => by
    obtain ⟨sl, e1⟩ := a.slot c ob q n hc hx
    obtain ⟨sl', e2⟩ := b.slot c _ e1 (a.free c ob q n hx) hc hx
    exact ⟨sl', e2⟩
  free := fun c ob q n hx => by
    obtain ⟨o', e1⟩ := a.there c ob q hx
    exact b.free c o' e1 (a.free c ob q n hx) hx
  there := fun c ob q hx => by
    obtain ⟨o', e1⟩ := a.there c ob q hx
    exact b.there c o' e1 hx
  tups := fun c xs q => b.tups c xs (a.tups c xs q)
  frzs := fun c ob xs q => b.frzs c ob xs (a.frzs c ob xs q)
  tbls := fun c ps q => by
    obtain ⟨m1, e1⟩ := a.tbls c ps q
    obtain ⟨m2, e2⟩ := b.tbls c _ e1
    exact ⟨m1 ++ m2, by rw [e2, Array.append_assoc]⟩
theorem Un.kept (k : ∀ b u, h.get? b = some u → h'.get? b = some u) : Un fs ex H H h h' :=
  ⟨fun b ob q _ _ _ => k b ob q, fun b ob q _ _ _ => ⟨ob.slots, k b ob q⟩, fun _ _ _ n _ => n, fun b ob q _ => ⟨ob, k b ob q⟩, fun _ _ q => q, fun _ _ _ q => q, fun _ ps q => ⟨#[], by rw [q]; simp⟩⟩
theorem Un.refl : Un fs ex H H h h := Un.kept fun _ _ q => q
theorem Un.laid (k : ∀ b u, h.get? b = some u → h'.get? b = some u) (hp : h.objs.size ≤ a) (hn : H a = none) : Un fs ex H (upd H a o) h h' where
  keep := fun b u q _ _ _ => k b u q
  slot := fun b u q _ _ _ => ⟨u.slots, k b u q⟩
  free := fun b u q n _ => by rw [upd_ne (Nat.ne_of_lt (Nat.lt_of_lt_of_le (Heap.lt_size q) hp))]; exact n
  there := fun b u q _ => ⟨u, k b u q⟩
  tups := fun b xs q => by rw [upd_ne (ne_of_none q hn)]; exact q
  frzs := fun b u xs q => by rw [upd_ne (ne_of_none q hn)]; exact q
  tbls := fun b ps q => ⟨#[], by rw [upd_ne (ne_of_none q hn), q]; simp⟩
theorem Un.write (mu : Mut (H x)) (he : e = x ∨ H e = some (.own x)) (k : ∀ b u, b ≠ e → h.get? b = some u → h'.get? b = some u) (heo : ∃ u, h'.get? e = some u) : Un fs ex H (upd H x o) h h' := by
  have hx : ∀ b, H b = none → b ≠ x := fun b n z => by subst z; rw [n] at mu; exact mu
  have hb : ∀ b, H b = none → b ≠ e := fun b n z => by
    subst z
    rcases he with r | r
    · exact hx b n r
    · rw [n] at r; cases r
  have hm : ∀ b u, H b = some u → ¬ Mut (some u) → b ≠ x := fun b u q nm z => by subst z; rw [q] at mu; exact nm mu
  refine ⟨fun b u q n _ _ => k b u (hb b n) q, fun b u q n _ _ => ⟨u.slots, k b u (hb b n) q⟩, fun b u q n _ => by rw [upd_ne (hx b n)]; exact n, fun b u q _ => ?_,
    fun b xs q => by rw [upd_ne (hm b _ q fun z => z)]; exact q, fun b u xs q => by rw [upd_ne (hm b _ q fun z => z)]; exact q, fun b ps q => ⟨#[], by rw [upd_ne (hm b _ q fun z => z), q]; simp⟩⟩
  by_cases hbe : b = e
  · subst hbe; exact heo
  · exact ⟨u, k b u hbe q⟩
end
noncomputable def trk (h : Heap) (H : Hp) : List Addr := (List.range h.objs.size).filter fun a => (H a).isSome
noncomputable def hidT (h : Heap) (H : Hp) : Heap := PySem.W.hideAll h (trk h H)
theorem hidT_size (h : Heap) (H : Hp) : (hidT h H).objs.size = h.objs.size := PySem.W.hideAll_size _ _
theorem hidT_get {h : Heap} {H : Hp} {b : Addr} {o : Obj} (e : h.get? b = some o) (n : H b = none) : (hidT h H).get? b = some o :=
  PySem.W.hideAll_get _ e fun hm => by
    have q : (H b).isSome = true := (List.mem_filter.mp hm).2
    rw [n] at q; simp at q
theorem of_hidT {h : Heap} {H : Hp} {b : Addr} {o : Obj} (e : (hidT h H).get? b = some o) : h.get? b = some o ∧ H b = none := by
  have e' : h.get? b = some o := PySem.W.of_hideAll (trk h H) e
  refine ⟨e', ?_⟩
  cases q : H b with
  | none => rfl
  | some x =>
    have hm : b ∈ trk h H := List.mem_filter.mpr ⟨List.mem_range.mpr (Heap.lt_size e'), by simp [q]⟩
    have z : (hidT h H).get? b = none := PySem.W.hideAll_none (trk h H) hm
    rw [z] at e; cases e
end L2
namespace L2
open PySem PySem.Spec PyProof.Rows
structure Mod (K : PySem.W.Frag) (mg : Str → Option Value) (base : Heap) : Prop where
  kin : K.In base
  glob : base.Ns mainGlobals mg
  blt : ∃ mb, base.Ns builtinsNs mb ∧ ∀ x : Str, x ≠ "__name__" → mb x = bootBuiltins x
  nolimit : base.NoLimit
structure Cx where
  prog : Program
  w : World
  K : PySem.W.Frag
  mg : Str → Option Value
  base : Heap
  A : Around
  N : List Str
  s₀ : Shared
  H₀ : Hp
  env : Env
  outer : List Env
  stack : List Env
  ex : List Addr
  fn : Str → Bool
  calm : Bool
  pn : List (Addr × Obj)
  xe : Value → Shared → Prop
noncomputable def frs (l : List Env) : List Addr := l.filterMap (·.frame)
noncomputable abbrev Cx.fs (X : Cx) : List Addr := frs X.outer
noncomputable def Vis (sc : Scope) (x : Str) : Prop := sc.names.lookup x = some .local ∨ sc.names.lookup x = some .cell ∨ sc.names.lookup x = some .free
noncomputable def Loc (sc : Scope) (x : Str) : Prop := sc.names.lookup x = some .local ∨ sc.names.lookup x = some .cell
noncomputable def Look (env : Env) (h : Heap) (m : Str → Option Value) (x : Str) (u : Value) : Prop :=
  (env.kindOf x = some .local ∧ m x = some u) ∨ ((env.kindOf x = some .cell ∨ env.kindOf x = some .free) ∧ ∃ c, env.cells.lookup x = some c ∧ h.IsCell c (some u))
structure Cx.Ok (X : Cx) : Prop where
  mod : Mod X.K X.mg X.base
  kind : X.env.scope.kind = .function
  glob : X.env.globals = mainGlobals
  blt : X.env.builtins = builtinsNs
  above : X.s₀.heap.objs.size ≤ X.env.locals
  inj : ∀ x y c, X.env.cells.lookup x = some c → X.env.cells.lookup y = some c → x = y
  has : ∀ x, (X.env.kindOf x = some .cell ∨ X.env.kindOf x = some .free) → ∃ c, X.env.cells.lookup x = some c
  cab : ∀ x c, X.fn x = true → X.env.cells.lookup x = some c → X.s₀.heap.objs.size ≤ c
  hd : X.calm = true → X.A.handled = none
  frames : X.A.frames = some X.stack
  stk : X.stack = X.outer ∨ (X.stack = X.env :: X.outer ∧ X.env.frame = some X.env.locals)
  exf : ∀ b ∈ X.ex, b ≠ X.env.locals ∧ ∀ x c, X.env.cells.lookup x = some c → c ≠ b
  bs : ∀ b o, X.base.get? b = some o → X.s₀.heap.get? b = some o ∧ X.H₀ b = none
  bsz : X.base.objs.size ≤ X.s₀.heap.objs.size
  noex : ∀ b o, X.base.get? b = some o → b ∉ X.ex
  exfs : ∀ b ∈ X.ex, b ∉ X.fs
  funs : X.s₀.heap.FunFrames X.base X.outer
  frf : ∀ b ∈ X.fs, X.H₀ b = none
structure Inv (X : Cx) (pins : List (Addr × Obj)) (σ : List (Option V)) (H : Hp) (s : Shared) : Prop where
  ok : X.Ok
  os : s.os = X.s₀.os
  bare : AllBare s.gens
  base : Un X.fs X.ex X.H₀ H X.s₀.heap s.heap
  loc : ∃ m, s.heap.Ns X.env.locals m ∧ ∀ (i : Nat) (x : Str) (v : V), X.N[i]? = some x → σ[i]? = some (some v) → Vis X.env.scope x → ∃ u, RelV v u ∧ Look X.env s.heap m x u
  cell : ∀ x c, X.env.cells.lookup x = some c → ∃ v, s.heap.IsCell c v
  free : H X.env.locals = none
  freeC : ∀ x c, X.env.cells.lookup x = some c → H c = none
  pin : ∀ p ∈ X.pn ++ pins, s.heap.get? p.1 = some p.2 ∧ H p.1 = none ∧ p.1 ≠ X.env.locals ∧ p.1 ∉ X.fs ∧ ∀ v, p.2.data ≠ .cell v
  hok : HOk X.prog X.w H s.heap
  len : σ.length = X.N.length
section
variable {X : Cx} {pins : List (Addr × Obj)} {σ : List (Option V)} {H H' : Hp} {s : Shared} {h' : Heap}
theorem Cx.Ok.nofr (ok : X.Ok) {b : Addr} {o : Obj} (e : X.base.get? b = some o) : b ∉ X.fs := fun hb => by
  have := (ok.funs.mem hb).1
  rw [e] at this; cases this
theorem Inv.bs (I : Inv X pins σ H s) : ∀ b o, X.base.get? b = some o → s.heap.get? b = some o ∧ H b = none := fun b o e =>
  ⟨I.base.keep b o (I.ok.bs b o e).1 (I.ok.bs b o e).2 (I.ok.nofr e) (I.ok.noex b o e), I.base.free b o (I.ok.bs b o e).1 (I.ok.bs b o e).2 (I.ok.noex b o e)⟩
theorem Inv.bk (I : Inv X pins σ H s) : ∀ b o, X.base.get? b = some o → s.heap.get? b = some o := fun b o e => (I.bs b o e).1
theorem Inv.mod (I : Inv X pins σ H s) : Mod X.K X.mg X.base := I.ok.mod
theorem Inv.kIn (I : Inv X pins σ H s) : X.K.In s.heap := I.ok.mod.kin.keeps I.bk
theorem Inv.lt (I : Inv X pins σ H s) : X.env.locals < s.heap.objs.size := let ⟨_, hn, _⟩ := I.loc; hn.lt
theorem Inv.sz (I : Inv X pins σ H s) : X.s₀.heap.objs.size ≤ s.heap.objs.size := Nat.le_trans I.ok.above (Nat.le_of_lt I.lt)
theorem Inv.nofs (I : Inv X pins σ H s) {a : Addr} (h : s.heap.objs.size ≤ a) : a ∉ X.fs := fun hb => by
  obtain ⟨_, o, ho, _⟩ := I.ok.funs.mem hb
  exact absurd (Nat.lt_of_lt_of_le (Heap.lt_size ho) (Nat.le_trans I.sz h)) (Nat.lt_irrefl _)
theorem Inv.cne (I : Inv X pins σ H s) : ∀ x c, X.env.cells.lookup x = some c → c ≠ X.env.locals := fun x c e z => by
  obtain ⟨v, o, ho, hd⟩ := I.cell x c e
  obtain ⟨m, ⟨o', es, ep, ho', hd', _⟩, _⟩ := I.loc
  rw [z, ho'] at ho; cases ho; rw [hd'] at hd; cases hd
theorem Inv.funs (I : Inv X pins σ H s) : s.heap.FunFrames X.base X.outer := by
  have all : ∀ (l : List Env), (∀ b ∈ frs l, b ∈ X.fs) → X.s₀.heap.FunFrames X.base l → s.heap.FunFrames X.base l := by
    intro l
    induction l with
    | nil => intro _ _; trivial
    | cons env r ih =>
      intro hs hl
      obtain ⟨hk, ⟨L, o, hf, hn, ho, hd⟩, hr⟩ := hl
      have hL : L ∈ X.fs := hs L (by unfold frs; rw [List.filterMap_cons, hf]; exact List.mem_cons_self)
      obtain ⟨sl, e⟩ := I.base.slot L o ho (I.ok.frf L hL) hL fun z => I.ok.exfs L z hL
      exact ⟨hk, ⟨L, _, hf, hn, e, hd⟩, ih (fun b hb => hs b (by unfold frs; rw [List.filterMap_cons, hf]; exact List.mem_cons_of_mem _ hb)) hr⟩
  exact all X.outer (fun _ hb => hb) I.ok.funs
theorem Inv.stack (I : Inv X pins σ H s) : s.heap.FunFrames X.base X.stack := by
  rcases I.ok.stk with e | ⟨e, hf⟩
  · rw [e]; exact I.funs
  · rw [e]
    obtain ⟨m, hn, _⟩ := I.loc
    refine .cons (by rw [I.ok.kind]; decide) hf hn ?_ I.funs
    exact Heap.get?_none_of_le (Nat.le_trans I.ok.bsz I.ok.above)
theorem Inv.stkSub (I : Inv X pins σ H s) : ∀ b ∈ frs X.stack, b ∈ X.env.locals :: X.fs := fun b hb => by
  rcases I.ok.stk with e | ⟨e, hf⟩
  · rw [e] at hb; exact List.mem_cons_of_mem _ hb
  · rw [e] at hb
    unfold frs at hb
    rw [List.filterMap_cons, hf] at hb
    exact hb
theorem Inv.stkFree (I : Inv X pins σ H s) : ∀ b ∈ frs X.stack, H b = none := fun b hb => by
  rcases List.mem_cons.mp (I.stkSub b hb) with e | hb
  · rw [e]; exact I.free
  · obtain ⟨_, o, ho, _⟩ := I.ok.funs.mem hb
    exact I.base.free b o ho (I.ok.frf b hb) fun z => I.ok.exfs b z hb
theorem Inv.step {g' : Array GenState} {t' : Nat} {d' : Drawn} {ch : List Addr} (I : Inv X pins σ H s)
    (hch : ∀ b ∈ ch, (b ∈ X.ex ∨ X.s₀.heap.objs.size ≤ b) ∧ b ≠ X.env.locals ∧ (∀ x c, X.env.cells.lookup x = some c → c ≠ b) ∧ ∀ p ∈ X.pn ++ pins, p.1 ≠ b)
    (keep : ∀ b o, b ≠ X.env.locals → b ∉ X.fs → b ∉ ch → s.heap.get? b = some o → H b = none → h'.get? b = some o)
    (slot : ∀ b o, b ≠ X.env.locals → b ∈ X.fs → b ∉ ch → s.heap.get? b = some o → H b = none → ∃ sl, h'.get? b = some { o with slots := sl }) (free : ∀ b o, b ∉ ch → s.heap.get? b = some o → H b = none → H' b = none)
    (there : ∀ b o, b ∉ ch → s.heap.get? b = some o → ∃ o', h'.get? b = some o')
    (tups : ∀ b xs, H b = some (.tup xs) → H' b = some (.tup xs)) (frzs : ∀ b o u, H b = some (.frz o u) → H' b = some (.frz o u)) (tbls : ∀ b ps, H b = some (.tbl ps) → ∃ more, H' b = some (.tbl (ps ++ more)))
    (ns : ∀ m, s.heap.Ns X.env.locals m → h'.Ns X.env.locals m) (hok : HOk X.prog X.w H' h') (hg : AllBare g') :
    Inv X pins σ H' { s with heap := h', gens := g', drawn := d', toks := t' } := by
  have neL : ∀ b o, X.s₀.heap.get? b = some o → b ≠ X.env.locals := fun b o e => Nat.ne_of_lt (Nat.lt_of_lt_of_le (Heap.lt_size e) I.ok.above)
  have neC : ∀ b o, X.s₀.heap.get? b = some o → b ∉ X.ex → b ∉ ch := fun b o e hx hb => by
    rcases (hch b hb).1 with z | z
    · exact hx z
    · exact absurd (Nat.lt_of_lt_of_le (Heap.lt_size e) z) (Nat.lt_irrefl _)
  have cellK : ∀ x c, X.env.cells.lookup x = some c → ∀ v, s.heap.IsCell c v → h'.IsCell c v := fun x c e v ⟨o, ho, hd⟩ => by
    have nch : c ∉ ch := fun z => (hch c z).2.2.1 x c e rfl
    by_cases hc : c ∈ X.fs
    · obtain ⟨sl, q⟩ := slot c o (I.cne x c e) hc nch ho (I.freeC x c e)
      exact ⟨_, q, hd⟩
    · exact ⟨o, keep c o (I.cne x c e) hc nch ho (I.freeC x c e), hd⟩
  refine ⟨I.ok, I.os, hg, ⟨fun b o e n hb hx => ?_, fun b o e n hb hx => ?_, fun b o e n hx => ?_, fun b o e hx => ?_, fun b xs e => tups b xs (I.base.tups b xs e), fun b o xs e => frzs b o xs (I.base.frzs b o xs e), fun b ps e => ?_⟩, ?_, fun x c e => ?_, ?_, fun x c e => ?_, fun p hp => ?_, hok, I.len⟩
  · exact keep b o (neL b o e) hb (neC b o e hx) (I.base.keep b o e n hb hx) (I.base.free b o e n hx)
  · obtain ⟨sl, e1⟩ := I.base.slot b o e n hb hx
    obtain ⟨sl', e2⟩ := slot b _ (neL b o e) hb (neC b o e hx) e1 (I.base.free b o e n hx)
    exact ⟨sl', e2⟩
  · obtain ⟨o', e1⟩ := I.base.there b o e hx
    exact free b o' (neC b o e hx) e1 (I.base.free b o e n hx)
  · obtain ⟨o', e1⟩ := I.base.there b o e hx
    exact there b o' (neC b o e hx) e1
  · obtain ⟨m1, e1⟩ := I.base.tbls b ps e
    obtain ⟨m2, e2⟩ := tbls b _ e1
    exact ⟨m1 ++ m2, by rw [e2, Array.append_assoc]⟩
  · obtain ⟨m, hn, hl⟩ := I.loc
    refine ⟨m, ns m hn, fun i x v e1 e2 e3 => ?_⟩
    obtain ⟨u, r, l⟩ := hl i x v e1 e2 e3
    refine ⟨u, r, ?_⟩
    rcases l with l | ⟨k, c, e, z⟩
    · exact .inl l
    · exact .inr ⟨k, c, e, cellK x c e _ z⟩
  · obtain ⟨v, z⟩ := I.cell x c e
    exact ⟨v, cellK x c e v z⟩
  · obtain ⟨m, ⟨o, _, _, ho, _⟩, _⟩ := I.loc
    exact free _ o (fun z => (hch _ z).2.1 rfl) ho I.free
  · obtain ⟨v, o, ho, hd⟩ := I.cell x c e
    exact free c o (fun z => (hch c z).2.2.1 x c e rfl) ho (I.freeC x c e)
  · obtain ⟨e, n, ne, nf, d⟩ := I.pin p hp
    have nch : p.1 ∉ ch := fun z => (hch p.1 z).2.2.2 p hp rfl
    exact ⟨keep p.1 p.2 ne nf nch e n, free p.1 p.2 nch e n, ne, nf, d⟩
theorem Inv.un {t' : Nat} (I : Inv X pins σ H s) (u : Un X.fs [] H H' s.heap h') (hok : HOk X.prog X.w H' h') : Inv X pins σ H' { s with heap := h', toks := t' } := by
  obtain ⟨m, ⟨o, es, ep, ho, r⟩, _⟩ := id I.loc
  obtain ⟨sl, hL⟩ := u.any ho I.free (by simp)
  exact I.step (g' := s.gens) (d' := s.drawn) (ch := []) (fun _ z => nomatch z) (fun b o _ hb _ e n => u.keep b o e n hb (by simp)) (fun b o _ hb _ e n => u.slot b o e n hb (by simp)) (fun b o _ e n => u.free b o e n (by simp)) (fun b o _ e => u.there b o e (by simp)) u.tups u.frzs u.tbls (fun m' hm => by
    obtain ⟨o', es', ep', ho', r'⟩ := hm
    rw [ho] at ho'; cases ho'
    exact ⟨_, es', ep', hL, r'⟩) hok I.bare
theorem Inv.call {g' : Array GenState} {t' : Nat} {d' : Drawn} {ch : List Addr} (I : Inv X pins σ H s) (u : Un (frs X.stack) ch H H' s.heap h') (hok : HOk X.prog X.w H' h') (hg : AllBare g')
    (hch : ∀ b ∈ ch, (b ∈ X.ex ∨ X.s₀.heap.objs.size ≤ b) ∧ b ≠ X.env.locals ∧ (∀ x c, X.env.cells.lookup x = some c → c ≠ b) ∧ ∀ p ∈ X.pn ++ pins, p.1 ≠ b) :
    Inv X pins σ H' { s with heap := h', gens := g', drawn := d', toks := t' } := by
  obtain ⟨m, ⟨o, es, ep, ho, r⟩, _⟩ := id I.loc
  obtain ⟨sl, hL⟩ := u.any ho I.free fun z => (hch _ z).2.1 rfl
  exact I.step (ch := ch) hch (fun b o hL hb hc e n => u.keep b o e n (fun z => (List.mem_cons.mp (I.stkSub b z)).elim hL hb) hc) (fun b o _ _ hc e n => u.any e n hc) (fun b o hc e n => u.free b o e n hc) (fun b o hc e => u.there b o e hc) u.tups u.frzs u.tbls (fun m' hm => by
    obtain ⟨o', es', ep', ho', r'⟩ := hm
    rw [ho] at ho'; cases ho'
    exact ⟨_, es', ep', hL, r'⟩) hok hg
theorem Inv.turned {t' : Nat} {it : Addr} (I : Inv X pins σ H s) (k : ∀ b o, b ≠ it → s.heap.get? b = some o → h'.get? b = some o) (hn : H it = none) (hL : it ≠ X.env.locals)
    (h1 : it ∈ X.ex ∨ X.s₀.heap.objs.size ≤ it) (h2 : ∀ x c, X.env.cells.lookup x = some c → c ≠ it) (h3 : ∀ p ∈ X.pn ++ pins, p.1 ≠ it) : Inv X pins σ H { s with heap := h', toks := t' } := by
  have nit : ∀ b u, H b = some u → b ≠ it := fun b u e z => by rw [z, hn] at e; cases e
  refine I.step (g' := s.gens) (d' := s.drawn) (ch := [it]) (fun b hb => ?_) (fun b o _ _ hc e _ => k b o (fun z => hc (by simp [z])) e) (fun b o _ _ hc e _ => ⟨o.slots, k b o (fun z => hc (by simp [z])) e⟩) (fun _ _ _ _ n => n)
    (fun b o hc e => ⟨o, k b o (fun z => hc (by simp [z])) e⟩) (fun _ _ e => e) (fun _ _ _ e => e) (fun b ps e => ⟨#[], by rw [e]; simp⟩) (fun m hm => ?_) (fun b u e => ?_) I.bare
  · have e : b = it := by simpa using hb
    subst e
    exact ⟨h1, hL, h2, h3⟩
  · obtain ⟨o, es, ep, ho, r⟩ := hm
    exact ⟨o, es, ep, k _ o (Ne.symm hL) ho, r⟩
  · refine (I.hok b u e).stay (fun c v hc q => k c v ?_ q) (fun _ q => q) fun _ _ q => q
    rcases hc with z | z
    · rw [z]; exact nit b u e
    · exact nit c _ z
theorem Inv.tok (I : Inv X pins σ H s) (t : Nat) : Inv X pins σ H { s with toks := t } := I.un (h' := s.heap) (t' := t) Un.refl I.hok
theorem Inv.kept {t' : Nat} (I : Inv X pins σ H s) (k : ∀ b u, s.heap.get? b = some u → h'.get? b = some u) : Inv X pins σ H { s with heap := h', toks := t' } := I.un (Un.kept k) (I.hok.kept k)
theorem Inv.laid {a : Addr} {o : HO} {t' : Nat} (I : Inv X pins σ H s) (k : ∀ b u, s.heap.get? b = some u → h'.get? b = some u) (hp : s.heap.objs.size ≤ a) (new : ObjOk X.prog X.w (upd H a o) h' a o) :
    Inv X pins σ (upd H a o) { s with heap := h', toks := t' } := I.un (Un.laid k hp (I.hok.fresh hp)) (I.hok.laid k hp new)
theorem Inv.write {x e : Addr} {o : HO} {t' : Nat} (I : Inv X pins σ H s) (mu : Mut (H x)) (he : e = x ∨ H e = some (.own x)) (k : ∀ b u, b ≠ e → s.heap.get? b = some u → h'.get? b = some u) (heo : ∃ u, h'.get? e = some u)
    (new : ObjOk X.prog X.w (upd H x o) h' x o) : Inv X pins σ (upd H x o) { s with heap := h', toks := t' } := I.un (Un.write mu he k heo) (I.hok.write mu he k heo new)
theorem Inv.pins_of {pins' : List (Addr × Obj)} (I : Inv X pins σ H s) (h : ∀ p ∈ pins', s.heap.get? p.1 = some p.2 ∧ H p.1 = none ∧ p.1 ≠ X.env.locals ∧ p.1 ∉ X.fs ∧ ∀ v, p.2.data ≠ .cell v) : Inv X pins' σ H s :=
  ⟨I.ok, I.os, I.bare, I.base, I.loc, I.cell, I.free, I.freeC, fun p hp => (List.mem_append.mp hp).elim (fun z => I.pin p (List.mem_append_left _ z)) (h p), I.hok, I.len⟩
theorem nodup_ix {N : List Str} (hN : N.Nodup) {i j : Nat} {x : Str} (a : N[i]? = some x) (b : N[j]? = some x) : i = j := by
  obtain ⟨h1, e1⟩ := List.getElem?_eq_some_iff.mp a
  obtain ⟨h2, e2⟩ := List.getElem?_eq_some_iff.mp b
  exact (List.getElem_inj hN).mp (e1.trans e2.symm)
theorem store_ok2 {M : Model} {A : Around} {E : Value → Shared → Prop} {i : Nat} {x : Str} {v : V} {u : Value} {Q : Unit → Shared → Prop} (I : Inv X pins σ H s) (hN : X.N.Nodup) (hi : X.N[i]? = some x) (hx : Loc X.env.scope x) (r : RelV v u)
    (h : ∀ s', Inv X pins (σ.set i (some v)) H s' → (∃ a, Heap.SameBut a s.heap s'.heap ∧ (a = X.env.locals ∨ X.env.cells.lookup x = some a)) → Q () s') (hf : X.fn x = true ∨ X.env.scope.names.lookup x = some .local := by first | exact .inl rfl | exact .inr rfl | assumption) : wpAny M A (storeName X.env x u) Q E s := by
  obtain ⟨m, hn, hl⟩ := id I.loc
  have hcls : (X.env.scope.kind == .class || (X.env.scope.kind == .module && X.env.locals != X.env.globals)) = false := by rw [I.ok.kind]; rfl
  have hiσ : i < σ.length := by rw [I.len]; exact (List.getElem?_eq_some_iff.mp hi).1
  have cne := I.cne
  have tracked : ∀ {a : Addr} {h' : Heap}, (∃ o, s.heap.get? a = some o ∧ H a = none) → Heap.SameBut a s.heap h' → HOk X.prog X.w H h' := fun {a h'} ha hs b ob e => by
    obtain ⟨_, _, hfree⟩ := ha
    refine (I.hok b ob e).stay (fun c w' hc q => (hs.2 c ?_).trans q) (fun _ q => q) fun _ _ q => q
    rintro rfl
    rcases hc with rfl | hc
    · rw [hfree] at e; cases e
    · rw [hfree] at hc; cases hc
  rcases hx with hk | hk
  · refine wpAny_storeName_local hk hn (fun h' hn' hs => ?_) hcls
    obtain ⟨oL, _, _, hoL, _⟩ := id hn
    refine h _ ⟨I.ok, I.os, I.bare, ⟨fun b o e n hb hx => ?_, fun b o e n hb hx => ?_, I.base.free, fun b o e hx => ?_, I.base.tups, I.base.frzs, I.base.tbls⟩, ⟨_, hn', fun j y v' e1 e2 e3 => ?_⟩, fun y c e => ?_, I.free, I.freeC, fun p hp => ?_, tracked ⟨oL, hoL, I.free⟩ hs, by simpa using I.len⟩ ⟨_, hs, .inl rfl⟩
    · exact (hs.2 b (Nat.ne_of_lt (Nat.lt_of_lt_of_le (Heap.lt_size e) I.ok.above))).trans (I.base.keep b o e n hb hx)
    · obtain ⟨sl, e1⟩ := I.base.slot b o e n hb hx
      exact ⟨sl, (hs.2 b (Nat.ne_of_lt (Nat.lt_of_lt_of_le (Heap.lt_size e) I.ok.above))).trans e1⟩
    · obtain ⟨o', e1⟩ := I.base.there b o e hx
      exact ⟨o', (hs.2 b (Nat.ne_of_lt (Nat.lt_of_lt_of_le (Heap.lt_size e) I.ok.above))).trans e1⟩
    · by_cases hj : j = i
      · subst hj
        rw [hi] at e1; cases e1
        rw [List.getElem?_set_self hiσ] at e2
        cases e2
        exact ⟨u, r, .inl ⟨hk, by simp⟩⟩
      · rw [List.getElem?_set_ne (Ne.symm hj)] at e2
        obtain ⟨u', r', q⟩ := hl j y v' e1 e2 e3
        refine ⟨u', r', ?_⟩
        rcases q with ⟨k, e⟩ | ⟨k, c, e, z⟩
        · refine .inl ⟨k, ?_⟩
          have : y ≠ x := fun e => hj (nodup_ix hN e1 (e ▸ hi))
          simp [this, e]
        · exact .inr ⟨k, c, e, z.sameBut hs (cne y c e)⟩
    · obtain ⟨w', z⟩ := I.cell y c e
      exact ⟨w', z.sameBut hs (cne y c e)⟩
    · obtain ⟨e, n, ne, nf, d⟩ := I.pin p hp
      exact ⟨(hs.2 p.1 ne).trans e, n, ne, nf, d⟩
  · have hfn : X.fn x = true := by
      rcases hf with z | z
      · exact z
      · rw [z] at hk; cases hk
    obtain ⟨c, hc⟩ := I.ok.has x (.inl hk)
    obtain ⟨w', z⟩ := I.cell x c hc
    refine wpAny_storeName_cell I.ok.kind hk hc z (fun h' hc' hs => ?_)
    obtain ⟨oc, hoc, hocd⟩ := id z
    refine h { s with heap := h' } ⟨I.ok, I.os, I.bare, ⟨fun b o e n hb hx => ?_, fun b o e n hb hx => ?_, I.base.free, fun b o e hx => ?_, I.base.tups, I.base.frzs, I.base.tbls⟩, ⟨m, hn.sameBut hs (Ne.symm (cne x c hc)), fun j y v' e1 e2 e3 => ?_⟩, fun y c' e => ?_, I.free, I.freeC, fun p hp => ?_, tracked ⟨oc, hoc, I.freeC x c hc⟩ hs, by simpa using I.len⟩ ⟨c, hs, .inr hc⟩
    · exact (hs.2 b (Nat.ne_of_lt (Nat.lt_of_lt_of_le (Heap.lt_size e) (I.ok.cab x c hfn hc)))).trans (I.base.keep b o e n hb hx)
    · obtain ⟨sl, e1⟩ := I.base.slot b o e n hb hx
      exact ⟨sl, (hs.2 b (Nat.ne_of_lt (Nat.lt_of_lt_of_le (Heap.lt_size e) (I.ok.cab x c hfn hc)))).trans e1⟩
    · obtain ⟨o', e1⟩ := I.base.there b o e hx
      exact ⟨o', (hs.2 b (Nat.ne_of_lt (Nat.lt_of_lt_of_le (Heap.lt_size e) (I.ok.cab x c hfn hc)))).trans e1⟩
    · by_cases hj : j = i
      · subst hj
        rw [hi] at e1; cases e1
        rw [List.getElem?_set_self hiσ] at e2
        cases e2
        exact ⟨u, r, .inr ⟨.inl hk, c, hc, hc'⟩⟩
      · rw [List.getElem?_set_ne (Ne.symm hj)] at e2
        obtain ⟨u', r', q⟩ := hl j y v' e1 e2 e3
        refine ⟨u', r', ?_⟩
        rcases q with q | ⟨k, c', e, z'⟩
        · exact .inl q
        · refine .inr ⟨k, c', e, z'.sameBut hs ?_⟩
          rintro rfl
          exact hj (nodup_ix hN e1 (I.ok.inj _ _ _ e hc ▸ hi))
    · by_cases hcc : c' = c
      · subst hcc; exact ⟨_, hc'⟩
      · obtain ⟨w2, z2⟩ := I.cell y c' e
        exact ⟨w2, z2.sameBut hs hcc⟩
    · obtain ⟨e, n, ne, nf, d⟩ := I.pin p hp
      refine ⟨(hs.2 p.1 ?_).trans e, n, ne, nf, d⟩
      intro q
      rw [q, hoc] at e
      have q' : oc = p.2 := Option.some.inj e
      exact d w' (by rw [← q']; exact hocd)
theorem store_ok {M : Model} {A : Around} {E : Value → Shared → Prop} {i : Nat} {x : Str} {v : V} {u : Value} {Q : Unit → Shared → Prop} (I : Inv X pins σ H s) (hN : X.N.Nodup) (hi : X.N[i]? = some x) (hx : Loc X.env.scope x) (r : RelV v u)
    (h : ∀ s', Inv X pins (σ.set i (some v)) H s' → Q () s') (hf : X.fn x = true ∨ X.env.scope.names.lookup x = some .local := by first | exact .inl rfl | exact .inr rfl | assumption) : wpAny M A (storeName X.env x u) Q E s :=
  store_ok2 I hN hi hx r (fun s' I' _ => h s' I') hf
theorem Inv.call' {s' : Shared} {ch : List Addr} (I : Inv X pins σ H s) (ho : s'.os = s.os) (u : Un (frs X.stack) ch H H' s.heap s'.heap) (hok : HOk X.prog X.w H' s'.heap) (hg : AllBare s'.gens)
    (hch : ∀ b ∈ ch, (b ∈ X.ex ∨ X.s₀.heap.objs.size ≤ b) ∧ b ≠ X.env.locals ∧ (∀ x c, X.env.cells.lookup x = some c → c ≠ b) ∧ ∀ p ∈ X.pn ++ pins, p.1 ≠ b) : Inv X pins σ H' s' := by
  obtain ⟨h', g', d', t', o'⟩ := s'
  have e : o' = s.os := ho
  subst e
  exact I.call (g' := g') (t' := t') (d' := d') u hok hg hch
end
noncomputable abbrev XK := Value → Option Addr → Hp → Prop
noncomputable abbrev St := List (Option V)
noncomputable abbrev VK := V → Hp → Prop
noncomputable abbrev TE := St → Hp → VK → Prop
noncomputable abbrev TT := St → Hp → (Bool → Hp → Prop) → Prop
noncomputable abbrev TA := St → Hp → (List V → Hp → Prop) → Prop
structure Ends where
  nx : St → Hp → Prop
  rt : VK
  bk : St → Hp → Prop := fun _ _ => False
  ct : St → Hp → Prop := fun _ _ => False
noncomputable abbrev TS := Ends → St → Hp → Prop
noncomputable def EP (X : Cx) (pins : List (Addr × Obj)) (σ : St) (Q : VK) (u : Value) (s' : Shared) : Prop := ∃ v H', Inv X pins σ H' s' ∧ RelV v u ∧ Q v H'
noncomputable def TP (X : Cx) (pins : List (Addr × Obj)) (σ : St) (Q : Bool → Hp → Prop) (b : Bool) (s' : Shared) : Prop := ∃ H', Inv X pins σ H' s' ∧ Q b H'
noncomputable def AP (X : Cx) (pins : List (Addr × Obj)) (σ : St) (Q : List V → Hp → Prop) (us : List Value) (s' : Shared) : Prop := ∃ vs H', Inv X pins σ H' s' ∧ Vals vs us ∧ Q vs H'
noncomputable def SP (X : Cx) (pins : List (Addr × Obj)) (D : Ends) (f : Flow) (s' : Shared) : Prop :=
  match f with
  | .next => ∃ σ' H', Inv X pins σ' H' s' ∧ D.nx σ' H'
  | .brk => ∃ σ' H', Inv X pins σ' H' s' ∧ D.bk σ' H'
  | .cont => ∃ σ' H', Inv X pins σ' H' s' ∧ D.ct σ' H'
  | .ret u => ∃ v σ' H', Inv X pins σ' H' s' ∧ RelV v u ∧ D.rt v H'
noncomputable def PE (X : Cx) (e : Expr) (t : TE) : Prop :=
  ∀ (pins : List (Addr × Obj)) (s : Shared) (σ : St) (H : Hp) (Q : VK), Inv X pins σ H s → t σ H Q → wpAny (model X.prog X.w) X.A (eval e X.env) (EP X pins σ Q) X.xe s
noncomputable def PT (X : Cx) (e : Expr) (t : TT) : Prop :=
  ∀ (pins : List (Addr × Obj)) (s : Shared) (σ : St) (H : Hp) (Q : Bool → Hp → Prop), Inv X pins σ H s → t σ H Q → wpAny (model X.prog X.w) X.A (isTrue e X.env (eval e X.env)) (TP X pins σ Q) X.xe s
noncomputable def PW (X : Cx) (e : Expr) (t : TT) : Prop :=
  ∀ (whole : Sem Value) (pins : List (Addr × Obj)) (s : Shared) (σ : St) (H : Hp) (Q : Bool → Hp → Prop), Inv X pins σ H s → t σ H Q → wpAny (model X.prog X.w) X.A (isTrue e X.env whole) (TP X pins σ Q) X.xe s
theorem PW.pt {X : Cx} {e : Expr} {t : TT} (h : PW X e t) : PT X e t := h _
noncomputable def PA (X : Cx) (es : List Expr) (t : TA) : Prop :=
  ∀ (pos : Pos) (pins : List (Addr × Obj)) (s : Shared) (σ : St) (H : Hp) (Q : List V → Hp → Prop), Inv X pins σ H s → t σ H Q → wpAny (model X.prog X.w) X.A (spliced (backTo pos (starEach es X.env))) (AP X pins σ Q) X.xe s
noncomputable def PS (X : Cx) (st : Stmt) (t : TS) : Prop :=
  ∀ (pins : List (Addr × Obj)) (s : Shared) (σ : St) (H : Hp) (D : Ends), Inv X pins σ H s → t D σ H → wpAny (model X.prog X.w) X.A (exec st X.env) (SP X pins D) X.xe s
noncomputable def PSs (X : Cx) (st : List Stmt) (t : TS) : Prop :=
  ∀ (pins : List (Addr × Obj)) (s : Shared) (σ : St) (H : Hp) (D : Ends), Inv X pins σ H s → t D σ H → wpAny (model X.prog X.w) X.A (execs st X.env) (SP X pins D) X.xe s
theorem thn {α : Type} {t : Sem α} {Q Q' : α → Shared → Prop} {M : Model} {A : Around} {E : Value → Shared → Prop} {s : Shared} (h : wpAny M A t Q E s) (hQ : ∀ a s, Q a s → Q' a s) : wpAny M A t Q' E s := wpAny_mono h hQ fun _ _ x => x
end L2
namespace L2
open PySem PySem.Spec PyProof.Rows
section
variable {X : Cx}
noncomputable def tVar (i : Nat) : TE := fun σ H Q => ∃ v, σ[i]? = some (some v) ∧ Q v H
noncomputable def tC (v : V) : TE := fun _ H Q => Q v H
theorem pe_var {i : Nat} {x : Str} {pos : Pos} (hN : X.N[i]? = some x) (hv : Vis X.env.scope x) (hd : (x == ("__debug__" : Str)) = false := by decide) (hcd : (x == ("__classdict__" : Str)) = false := by decide) : PE X (.Name x pos) (tVar i) := by
  intro pins s σ H Q I h
  obtain ⟨v, e, h⟩ := h
  obtain ⟨m, hn, hl⟩ := I.loc
  obtain ⟨u, r, l⟩ := hl i x v hN e hv
  have fin : EP X pins σ Q u s := ⟨v, H, I, r, h⟩
  rcases l with ⟨hk, hm⟩ | ⟨hk, c, hc, hcell⟩
  · exact wpAny_Name (wpAny_loadName_local I.ok.kind hk hn hm fin) hd
  · rcases hk with hk | hk
    · exact wpAny_Name (wpAny_loadName_cell I.ok.kind hk hc hcell fin) hd
    · exact wpAny_Name (wpAny_loadName_free I.ok.kind hk hc hcell fin hcd) hd
theorem pe_int {i j pos} : PE X (.Constant (.int i) j pos) (tC (.int i)) := fun _ _ _ H _ I h => wpAny_Constant_int ⟨.int i, H, I.tok _, ⟨_, rfl⟩, h⟩
theorem pe_bl {b j pos} : PE X (.Constant (.bool b) j pos) (tC (.bl b)) := fun _ _ _ H _ I h => Constant_bool ⟨.bl b, H, I, rfl, h⟩
theorem pe_non {j pos} : PE X (.Constant .none j pos) (tC .non) := fun _ _ _ H _ I h => Constant_none ⟨.non, H, I, rfl, h⟩
theorem pe_str {x j pos} : PE X (.Constant (.str x) j pos) (tC (.str x)) := fun _ _ _ H _ I h => Calls.Constant_str ⟨.str x, H, I.tok _, ⟨_, rfl⟩, h⟩
noncomputable def Gl (X : Cx) (x : Str) : Prop := X.env.kindOf x = some .globalImplicit
theorem ld_glob {E : Value → Shared → Prop} {pins : List (Addr × Obj)} {s : Shared} {σ : St} {H : Hp} {x : Str} {u : Value} {pos : Pos} {Q : Value → Shared → Prop} (I : Inv X pins σ H s) (hg : Gl X x) (hm : X.mg x = some u) (h : Q u s)
    (hd : (x == ("__debug__" : Str)) = false := by decide) : wpAny (model X.prog X.w) X.A (eval (.Name x pos) X.env) Q E s :=
  Calls.Name_function_global I.ok.kind hg (Calls.loadGlobal_global (by rw [I.ok.glob]; exact I.mod.glob.keeps I.bk) hm h) hd
theorem ld_blt {E : Value → Shared → Prop} {pins : List (Addr × Obj)} {s : Shared} {σ : St} {H : Hp} {x : Str} {u : Value} {pos : Pos} {Q : Value → Shared → Prop} (I : Inv X pins σ H s) (hg : Gl X x) (hm : X.mg x = none) (hv : bootBuiltins x = some u) (h : Q u s)
    (hn : x ≠ "__name__" := by decide) (hd : (x == ("__debug__" : Str)) = false := by decide) : wpAny (model X.prog X.w) X.A (eval (.Name x pos) X.env) Q E s := by
  obtain ⟨mb, h1, h2⟩ := I.mod.blt
  exact Calls.Name_function_global I.ok.kind hg (Calls.loadGlobal_builtin (by rw [I.ok.glob]; exact I.mod.glob.keeps I.bk) hm (by rw [I.ok.blt]; exact h1.keeps I.bk) ((h2 x hn).trans hv) h) hd
theorem pe_glob {x : Str} {v : V} {u : Value} {pos : Pos} (hg : Gl X x) (hm : X.mg x = some u) (r : RelV v u) (hd : (x == ("__debug__" : Str)) = false := by decide) : PE X (.Name x pos) (tC v) :=
  fun _ _ _ H _ I h => ld_glob I hg hm ⟨v, H, I, r, h⟩ hd
theorem pe_bltn {x : Str} {v : V} {u : Value} {pos : Pos} (hg : Gl X x) (hm : X.mg x = none) (hv : bootBuiltins x = some u) (r : RelV v u) (hn : x ≠ "__name__" := by decide) (hd : (x == ("__debug__" : Str)) = false := by decide) : PE X (.Name x pos) (tC v) :=
  fun _ _ _ H _ I h => ld_blt I hg hm hv ⟨v, H, I, r, h⟩ hn hd
variable {a b : Expr} {ta tb : TE} {pos : Pos}
noncomputable def PC (X : Cx) (op : CmpOp) (a b : Expr) (t : TE) : Prop :=
  ∀ (pins : List (Addr × Obj)) (s : Shared) (σ : St) (H : Hp) (Q : VK), Inv X pins σ H s → t σ H Q →
    wpAny (model X.prog X.w) X.A (eval a X.env) (fun v s₁ => wpAny (model X.prog X.w) X.A (eval b X.env) (fun u s₂ => wpAny (model X.prog X.w) X.A (compareOp op v u) (EP X pins σ Q) X.xe s₂) X.xe s₁) X.xe s
noncomputable def tB (t : TE) : TT := fun σ H Q => t σ H fun x H1 => ∃ c, x = .bl c ∧ Q c H1
theorem pe_cmp {op : CmpOp} {t : TE} (h : PC X op a b t) (h1 : behindInMarks op b = false := by first | exact nobehind _ (by decide) (by decide) | rfl) : PE X (.Compare a [op] [b] pos) t := fun pins s σ H Q I hw => wpAny_Compare1 (h pins s σ H Q I hw) h1
theorem pt_cmp {op : CmpOp} {t : TE} (h : PC X op a b t) (h1 : behindInMarks op b = false := by first | exact nobehind _ (by decide) (by decide) | rfl) : PT X (.Compare a [op] [b] pos) (tB t) := by
  intro pins s σ H Q I hw
  refine wpAny_isTrue_Compare1 (thn (h pins s σ H _ I hw) fun v s1 h1 => thn h1 fun u s2 h2 => thn h2 fun c s3 ⟨x, H1, I1, r1, q1⟩ => ?_) h1
  obtain ⟨d, rfl, q⟩ := q1
  cases r1
  exact wpAny_truthy_bool ⟨H1, I1, q⟩
theorem pt_val {e : Expr} {t : TE} (h : PE X e t) (he : ∀ whole, isTrue e X.env whole = (do let v ← whole; standAt e.pos; holding [v] (truthy v)) := by intro _; rfl) : PT X e (tB t) := by
  intro pins s σ H Q I hw
  refine isTrue_plain (thn (h pins s σ H _ I hw) fun v s1 ⟨x, H1, I1, r1, q1⟩ => ?_) (he _)
  obtain ⟨d, rfl, q⟩ := q1
  cases r1
  exact wpAny_truthy_bool ⟨H1, I1, q⟩
variable {tA tB' : TT} {rest : List Expr}
noncomputable def tAnd (t u : TT) : TT := fun σ H Q => t σ H fun c H1 => if c = true then u σ H1 Q else Q false H1
noncomputable def tOr (t u : TT) : TT := fun σ H Q => t σ H fun c H1 => if c = true then Q true H1 else u σ H1 Q
noncomputable def tNot (t : TT) : TT := fun σ H Q => t σ H fun c H1 => Q (!c) H1
theorem pw_and1 (ha : PT X a tA) : PW X (.BoolOp .And [a] pos) tA := by
  intro wh pins s σ H Q I h
  refine isTrue_and (thn (ha pins s σ H Q I h) fun c s1 e => ?_)
  cases c with
  | true => exact isTrue_and_nil e
  | false => exact e
theorem pw_or1 (ha : PT X a tA) : PW X (.BoolOp .Or [a] pos) tA := by
  intro wh pins s σ H Q I h
  refine isTrue_or (thn (ha pins s σ H Q I h) fun c s1 e => ?_)
  cases c with
  | false => exact isTrue_or_nil e
  | true => exact e
theorem pw_and (ha : PT X a tA) (hb : PW X (.BoolOp .And (b :: rest) pos) tB') : PW X (.BoolOp .And (a :: b :: rest) pos) (tAnd tA tB') := by
  intro wh pins s σ H Q I h
  refine isTrue_and (thn (ha pins s σ H _ I h) fun c s1 ⟨H1, I1, q1⟩ => ?_)
  cases c with
  | true => exact hb wh pins s1 σ H1 Q I1 q1
  | false => exact ⟨H1, I1, q1⟩
theorem pw_or (ha : PT X a tA) (hb : PW X (.BoolOp .Or (b :: rest) pos) tB') : PW X (.BoolOp .Or (a :: b :: rest) pos) (tOr tA tB') := by
  intro wh pins s σ H Q I h
  refine isTrue_or (thn (ha pins s σ H _ I h) fun c s1 ⟨H1, I1, q1⟩ => ?_)
  cases c with
  | true => exact ⟨H1, I1, q1⟩
  | false => exact hb wh pins s1 σ H1 Q I1 q1
theorem pt_not (ha : PT X a tA) : PT X (.UnaryOp .Not a pos) (tNot tA) := by
  intro pins s σ H Q I h
  exact isTrue_not (ha pins s σ H (fun c H1 => Q (!c) H1) I h)
noncomputable def tAndV (ta tb : TE) : TE := fun σ H Q => ta σ H fun x H1 => ∃ c, x = .bl c ∧ if c = true then tb σ H1 Q else Q (.bl false) H1
theorem pe_one {op} {t : TE} (h : PE X a t) : PE X (.BoolOp op [a] pos) t := fun pins s σ H Q I hw => BoolOp_one (h pins s σ H Q I hw)
theorem pe_and (ha : PE X a ta) (hb : PE X (.BoolOp .And (b :: rest) pos) tb) : PE X (.BoolOp .And (a :: b :: rest) pos) (tAndV ta tb) := by
  intro pins s σ H Q I h
  refine BoolOp_and (thn (ha pins s σ H _ I h) fun v s1 ⟨x, H1, I1, r1, q1⟩ => ?_)
  obtain ⟨c, rfl, q1⟩ := q1
  cases r1
  refine wpAny_truthy_bool ?_
  cases c with
  | true => exact hb pins s1 σ H1 Q I1 q1
  | false => exact ⟨.bl false, H1, I1, rfl, q1⟩
end
end L2
namespace L2
open PySem PySem.Spec PyProof.Rows
noncomputable def SqL (K : PySem.W.Frag) (H : Hp) (a : Addr) (xs : List V) : Prop :=
  Rd H a (.lst xs) ∨
    ∃ (o : Obj) (its : Array Value) (n : Nat), K.lookup a = some o ∧ o.cls = .type "list" ∧ o.dict = none ∧ o.data = .seq its n ∧ its.size ≤ sizeLine ∧ Vals xs its.toList
noncomputable def SqT (K : PySem.W.Frag) (H : Hp) (a : Addr) (xs : List V) : Prop :=
  Rd H a (.tup xs) ∨
    ∃ (o : Obj) (its : Array Value) (n : Nat), K.lookup a = some o ∧ o.cls = .type "tuple" ∧ o.data = .seq its n ∧ its.size ≤ sizeLine ∧ Vals xs its.toList
noncomputable def absV : Value → Option V
  | .none => some .non
  | .bool b => some (.bl b)
  | .int i _ => some (.int i)
  | .str x _ => some (.str x)
  | .bytes b _ => some (.byt b)
  | .float b _ => some (.flt b)
  | .ref a => some (.ref a)
  | .type n => some (.ty n)
  | _ => none
theorem RelV.abs {x : V} {u : Value} (r : RelV x u) : absV u = some x := by
  cases x with
  | non => cases r; rfl
  | bl _ => cases r; rfl
  | int _ => obtain ⟨t, rfl⟩ := r; rfl
  | str _ => obtain ⟨t, rfl⟩ := r; rfl
  | byt _ => obtain ⟨t, rfl⟩ := r; rfl
  | flt _ => obtain ⟨t, rfl⟩ := r; rfl
  | ref _ => cases r; rfl
  | ty _ => cases r; rfl
theorem RelV.inj {x y : V} {u : Value} (r : RelV x u) (q : RelV y u) : x = y := Option.some.inj (r.abs.symm.trans q.abs)
theorem Vals.inj : ∀ {xs ys : List V} {us : List Value}, Vals xs us → Vals ys us → xs = ys
  | _, _, _, .nil, .nil => rfl
  | _, _, _, .cons r t, .cons r' t' => by rw [r.inj r', Vals.inj t t']
section
variable {X : Cx} {pins : List (Addr × Obj)} {σ : St} {H : Hp} {s : Shared} {a : Addr} {xs ys : List V}
theorem SqL.of {K : PySem.W.Frag} (h : H a = some (.lst xs)) : SqL K H a xs := .inl (.inl h)
theorem SqT.of {K : PySem.W.Frag} (h : H a = some (.tup xs)) : SqT K H a xs := .inl (.inl h)
theorem Inv.list (I : Inv X pins σ H s) (h : SqL X.K H a xs) : ∃ its : List Value, Vals xs its ∧ PlainL s.heap a its.toArray ∧ xs.length ≤ sizeLine := by
  rcases h with h | ⟨o, its, n, hk, hc, hd, hs, hz, r⟩
  · obtain ⟨z, its, n, r, e⟩ := h.ok I.hok
    exact ⟨its, r, ⟨_, n, e, rfl, rfl, rfl⟩, z⟩
  · refine ⟨its.toList, r, ⟨o, n, I.kIn a o hk, hc, hd, by simpa using hs⟩, ?_⟩
    have e := r.length
    simp only [Array.length_toList] at e
    omega
theorem Inv.tuple (I : Inv X pins σ H s) (h : SqT X.K H a xs) : ∃ its : List Value, Vals xs its ∧ IsTup s.heap a its.toArray ∧ xs.length ≤ sizeLine := by
  rcases h with h | ⟨o, its, n, hk, hc, hs, hz, r⟩
  · obtain ⟨z, its, r, p⟩ := h.ok I.hok
    exact ⟨its, r, p, z⟩
  · refine ⟨its.toList, r, ⟨o, I.kIn a o hk, hc, n, by simpa using hs⟩, ?_⟩
    have e := r.length
    simp only [Array.length_toList] at e
    omega
theorem Inv.list_inj (I : Inv X pins σ H s) (h : SqL X.K H a xs) (h' : SqL X.K H a ys) : xs = ys := by
  obtain ⟨its, r, ⟨o, n, e, _, _, d⟩, _⟩ := I.list h
  obtain ⟨its', r', ⟨o', n', e', _, _, d'⟩, _⟩ := I.list h'
  rw [e] at e'; cases e'
  rw [d] at d'
  injection d' with d1 _
  have : its = its' := by simpa using congrArg Array.toList d1
  subst this
  exact r.inj r'
theorem Inv.tuple_inj (I : Inv X pins σ H s) (h : SqT X.K H a xs) (h' : SqT X.K H a ys) : xs = ys := by
  obtain ⟨its, r, ⟨o, e, _, n, d⟩, _⟩ := I.tuple h
  obtain ⟨its', r', ⟨o', e', _, n', d'⟩, _⟩ := I.tuple h'
  rw [e] at e'; cases e'
  rw [d] at d'
  injection d' with d1 _
  have : its = its' := by simpa using congrArg Array.toList d1
  subst this
  exact r.inj r'
end
noncomputable abbrev Cx.wish (X : Cx) (E : Value → Shared → Prop) : Cx := { X with xe := E }
noncomputable abbrev Cx.nox (X : Cx) : Cx := X.wish fun _ _ => False
theorem Cx.Ok.wish {X : Cx} (ok : X.Ok) (E : Value → Shared → Prop) : (X.wish E).Ok :=
  ⟨ok.mod, ok.kind, ok.glob, ok.blt, ok.above, ok.inj, ok.has, ok.cab, ok.hd, ok.frames, ok.stk, ok.exf, ok.bs, ok.bsz, ok.noex, ok.exfs, ok.funs, ok.frf⟩
theorem Cx.Ok.unwish {X : Cx} {E : Value → Shared → Prop} (ok : (X.wish E).Ok) : X.Ok :=
  ⟨ok.mod, ok.kind, ok.glob, ok.blt, ok.above, ok.inj, ok.has, ok.cab, ok.hd, ok.frames, ok.stk, ok.exf, ok.bs, ok.bsz, ok.noex, ok.exfs, ok.funs, ok.frf⟩
section
variable {X : Cx} {pins : List (Addr × Obj)} {σ : St} {H : Hp} {s : Shared} {E : Value → Shared → Prop}
theorem Inv.wish (I : Inv X pins σ H s) (E : Value → Shared → Prop) : Inv (X.wish E) pins σ H s := ⟨I.ok.wish E, I.os, I.bare, I.base, I.loc, I.cell, I.free, I.freeC, I.pin, I.hok, I.len⟩
theorem Inv.unwish (I : Inv (X.wish E) pins σ H s) : Inv X pins σ H s := ⟨I.ok.unwish, I.os, I.bare, I.base, I.loc, I.cell, I.free, I.freeC, I.pin, I.hok, I.len⟩
theorem SP.unwish {D : Ends} {f : Flow} {s' : Shared} (h : SP (X.wish E) pins D f s') : SP X pins D f s' := by
  cases f with
  | next => obtain ⟨σ', H', I, q⟩ := h; exact ⟨σ', H', I.unwish, q⟩
  | brk => obtain ⟨σ', H', I, q⟩ := h; exact ⟨σ', H', I.unwish, q⟩
  | cont => obtain ⟨σ', H', I, q⟩ := h; exact ⟨σ', H', I.unwish, q⟩
  | ret u => obtain ⟨v, σ', H', I, r, q⟩ := h; exact ⟨v, σ', H', I.unwish, r, q⟩
theorem PSs.nox {st : List Stmt} {t : TS} (h : PSs X.nox st t) : PSs X st t := fun pins s σ H D I hw =>
  wpAny_mono (h pins s σ H D (I.wish _) hw) (fun _ _ q => q.unwish) fun _ _ z => False.elim z
end
section
variable {X : Cx} {st : Stmt} {rest : List Stmt} {t u : TS} {e : Expr} {te : TE} {pos : Pos}
noncomputable def tNext : TS := fun D σ H => D.nx σ H
noncomputable def tSeq (t u : TS) : TS := fun D σ H => t { D with nx := u D } σ H
theorem pss_nil : PSs X [] tNext := fun _ _ σ H _ I h => wpAny_execs_nil ⟨σ, H, I, h⟩
theorem pss_cons (h1 : PS X st t) (h2 : PSs X rest u) : PSs X (st :: rest) (tSeq t u) := by
  intro pins s σ H D I h
  refine wpAny_execs_cons (thn (h1 pins s σ H { D with nx := u D } I h) fun f s1 q => ?_)
  cases f with
  | next =>
    obtain ⟨σ', H', I', q⟩ := q
    exact h2 pins s1 σ' H' D I' q
  | ret v => exact q
  | brk => exact q
  | cont => exact q
theorem pss_one (h1 : PS X st t) : PSs X [st] t := by
  intro pins s σ H D I h
  refine wpAny_execs_cons (thn (h1 pins s σ H D I h) fun f s1 q => ?_)
  cases f with
  | next => exact wpAny_execs_nil q
  | ret v => exact q
  | brk => exact q
  | cont => exact q
theorem Inv.quiet {pins : List (Addr × Obj)} {σ : St} {H : Hp} {s : Shared} (I : Inv X pins σ H s) : interactive X.env = false := by simp [interactive, I.ok.kind]
noncomputable def tDrop (te : TE) : TS := fun D σ H => te σ H fun _ H1 => D.nx σ H1
theorem ps_expr (he : PE X e te) (hs : swapsWith e none pos.line X.env = pure false := by rfl) : PS X (.Expr e pos) (tDrop te) := by
  intro pins s σ H D I h
  exact wpAny_Expr_any (thn (he pins s σ H _ I h) fun v s1 ⟨x, H1, I1, r1, q1⟩ => ⟨σ, H1, I1, q1⟩) I.quiet hs
noncomputable def tRet (te : TE) : TS := fun D σ H => te σ H D.rt
theorem ps_ret (he : PE X e te) : PS X (.Return (some e) pos) (tRet te) := by
  intro pins s σ H D I h
  exact wpAny_Return_some (thn (he pins s σ H _ I h) fun v s1 ⟨x, H1, I1, r1, q1⟩ => ⟨x, σ, H1, I1, r1, q1⟩)
noncomputable def tIfS (c : TT) (t u : TS) : TS := fun D σ H => c σ H fun b H1 => if b = true then t D σ H1 else u D σ H1
theorem ps_if {c : Expr} {a b : List Stmt} {tc : TT} (hc : PT X c tc) (ha : PSs X a t) (hb : PSs X b u) : PS X (.If c a b pos) (tIfS tc t u) := by
  intro pins s σ H D I h
  refine wpAny_If (thn (hc pins s σ H _ I h) fun d s1 ⟨H1, I1, q1⟩ => ?_)
  cases d with
  | true => exact ha pins s1 σ H1 D I1 q1
  | false => exact hb pins s1 σ H1 D I1 q1
end
noncomputable abbrev TG := V → St → Hp → (St → Hp → Prop) → Prop
noncomputable abbrev TGs := List V → St → Hp → (St → Hp → Prop) → Prop
noncomputable def PG (X : Cx) (target : Expr) (t : TG) : Prop :=
  ∀ (pins : List (Addr × Obj)) (s : Shared) (σ : St) (H : Hp) (v : V) (u : Value) (Q : St → Hp → Prop), Inv X pins σ H s → RelV v u → t v σ H Q →
    wpAny (model X.prog X.w) X.A (assign target X.env u) (fun _ s' => ∃ σ' H', Inv X pins σ' H' s' ∧ Q σ' H') X.xe s
noncomputable def PGs (X : Cx) (ts : List Expr) (t : TGs) : Prop :=
  ∀ (pins : List (Addr × Obj)) (s : Shared) (σ : St) (H : Hp) (vs : List V) (us : List Value) (Q : St → Hp → Prop), Inv X pins σ H s → Vals vs us → t vs σ H Q →
    wpAny (model X.prog X.w) X.A (assignInOrder ((assignEach ts X.env).map (·.2)) us) (fun _ s' => ∃ σ' H', Inv X pins σ' H' s' ∧ Q σ' H') X.xe s
noncomputable abbrev TSet := V → V → V → Hp → (Hp → Prop) → Prop
noncomputable def PSet (X : Cx) (t : TSet) : Prop :=
  ∀ (pins : List (Addr × Obj)) (s : Shared) (σ : St) (H : Hp) (o i v : V) (ov iv u : Value) (Q : Hp → Prop), Inv X pins σ H s → RelV o ov → RelV i iv → RelV v u → t o i v H Q →
    wpAny (model X.prog X.w) X.A (setItem ov iv u) (fun _ s' => ∃ H', Inv X pins σ H' s' ∧ Q H') X.xe s
section
variable {X : Cx} {pos : Pos}
noncomputable def gName (i : Nat) : TG := fun v σ H Q => Q (σ.set i (some v)) H
theorem pg_name {i : Nat} {x : Str} (hN : X.N.Nodup) (hi : X.N[i]? = some x) (hx : Loc X.env.scope x) (hf : X.fn x = true ∨ X.env.scope.names.lookup x = some .local := by first | exact .inl rfl | exact .inr rfl | assumption) : PG X (.Name x pos) (gName i) := by
  intro pins s σ H v u Q I r h
  exact wpAny_assign_Name (store_ok I hN hi hx r (fun s' I' => ⟨_, H, I', h⟩) hf)
noncomputable def gNil : TGs := fun vs σ H Q => vs = [] ∧ Q σ H
noncomputable def gCons (t : TG) (u : TGs) : TGs := fun vs σ H Q => ∃ v r, vs = v :: r ∧ t v σ H fun σ' H' => u r σ' H' Q
theorem pgs_nil : PGs X [] gNil := by
  intro pins s σ H vs us Q I r h
  obtain ⟨e, h⟩ := h
  subst e
  cases r
  exact assignInOrder_nil ⟨σ, H, I, h⟩
theorem pgs_cons {e : Expr} {es : List Expr} {t : TG} {u : TGs} (h1 : PG X e t) (h2 : PGs X es u)
    (hs : (assignEach (e :: es) X.env).map (·.2) = assign e X.env :: (assignEach es X.env).map (·.2) := by rfl) : PGs X (e :: es) (gCons t u) := by
  intro pins s σ H vs us Q I r h
  obtain ⟨v, vr, e1, h⟩ := h
  subst e1
  cases r with
  | cons r rr =>
    rw [hs]
    refine assignInOrder_cons (thn (h1 pins s σ H _ _ _ I r h) fun _ s1 ⟨σ1, H1, I1, q1⟩ => ?_)
    exact h2 pins s1 σ1 H1 _ _ Q I1 rr q1
noncomputable def gTup (K : PySem.W.Frag) (n : Nat) (t : TGs) : TG := fun v σ H Q => ∃ a xs, v = .ref a ∧ SqT K H a xs ∧ xs.length = n ∧ t xs σ H Q
theorem pg_tup {es : List Expr} {k : Nat} {t : TGs} {n : Nat} (hc : X.calm = true) (h : PGs X es t)
    (hn : (assignEach es X.env).length = n := by rfl) (hst : (assignEach es X.env).findIdx? (·.1) = none := by rfl) : PG X (.Tuple es k pos) (gTup X.K n t) := by
  intro pins s σ H v u Q I r hw
  obtain ⟨a, xs, e1, hq, hl, hw⟩ := hw
  subst e1
  cases r
  obtain ⟨its, rv, ht, hz⟩ := I.tuple hq
  refine assign_Tuple_tuple (I.ok.hd hc) ht (by simp [hn, ← hl, rv.length]) hst fun h' hx => ?_
  have I1 : Inv X pins σ H { s with heap := h' } := I.kept (t' := s.toks) fun b o e => hx b o (Nat.ne_of_lt (Heap.lt_size e)) e
  exact h pins _ σ H xs _ Q I1 (by simpa using rv) hw
noncomputable def gSub (to ti : TE) (t : TSet) : TG := fun v σ H Q => to σ H fun o H1 => ti σ H1 fun i H2 => t o i v H2 fun H3 => Q σ H3
theorem pg_sub {o i : Expr} {to ti : TE} {t : TSet} (ho : PE X o to) (hi : PE X i ti) (hs : PSet X t)
    (ha : ∀ v, assign (.Subscript o i pos) X.env v = (do
      let ov ← holding [v] (eval o X.env)
      let iv ← holding [v, ov] (eval i X.env)
      standAt pos
      holding [v, ov, iv] (setItem ov iv v)
      release [v, ov, iv] []) := by intro _; rfl) : PG X (.Subscript o i pos) (gSub to ti t) := by
  intro pins s σ H v u Q I r h
  rw [ha]
  refine wpAny_bind (wpAny_holding (thn (ho pins s σ H _ I h) fun ov s1 ⟨x, H1, I1, r1, q1⟩ => ?_))
  refine wpAny_bind (wpAny_holding (thn (hi pins s1 σ H1 _ I1 q1) fun iv s2 ⟨y, H2, I2, r2, q2⟩ => ?_))
  refine wpAny_bind (wpAny_standAt (wpAny_bind (wpAny_holding (thn (hs pins s2 σ H2 x y v ov iv u _ I2 r1 r2 r q2) fun _ s3 ⟨H3, I3, q3⟩ => ?_))))
  exact wpAny_release ⟨σ, H3, I3, q3⟩
noncomputable def tAsg (te : TE) (g : TG) : TS := fun D σ H => te σ H fun x H1 => g x σ H1 D.nx
theorem ps_asg {tg e : Expr} {te : TE} {g : TG} (he : PE X e te) (hg : PG X tg g) (hs : swapsWithSole [tg] e pos.line X.env = pure false := by rfl) (hw : swappedStores [tg] e X.env = pure none := by rfl)
    (h1 : (assignEach [tg] X.env).map (·.2) = [assign tg X.env] := by rfl) : PS X (.Assign [tg] e pos) (tAsg te g) := by
  intro pins s σ H D I h
  refine wpAny_Assign_stores (thn (he pins s σ H _ I h) fun v s1 ⟨x, H1, I1, r1, q1⟩ => ?_) hs hw
  rw [h1]
  exact thn (hg pins s1 σ H1 x v _ I1 r1 q1) fun _ s2 q => q
theorem ps_set {i : Nat} {x : Str} {e : Expr} {te : TE} {pos' : Pos} (hN : X.N.Nodup) (hi : X.N[i]? = some x) (hx : Loc X.env.scope x) (he : PE X e te) (hs : swapsWith e (some (.Name x pos')) pos.line X.env = pure false := by rfl) (hf : X.fn x = true ∨ X.env.scope.names.lookup x = some .local := by first | exact .inl rfl | exact .inr rfl | assumption) :
    PS X (.Assign [.Name x pos'] e pos) (tAsg te (gName i)) := by
  intro pins s σ H D I h
  refine wpAny_Assign_Name (thn (he pins s σ H _ I h) fun v s1 ⟨y, H1, I1, r1, q1⟩ => ?_) hs
  exact store_ok I1 hN hi hx r1 (fun s2 I2 => ⟨_, H1, I2, q1⟩) hf
end
section
variable {X : Cx} {pos : Pos}
end
structure It where
  go : Nat → Hp → Prop
  yld : Nat → Hp → V → Hp → Prop
  stop : Nat → Hp → Prop
noncomputable def FpOk (X : Cx) (pins : List (Addr × Obj)) (H : Hp) (b : Addr) : Prop :=
  H b = none ∧ b ≠ X.env.locals ∧ b ∉ X.fs ∧ (b ∈ X.ex ∨ X.s₀.heap.objs.size ≤ b) ∧ (∀ x c, X.env.cells.lookup x = some c → c ≠ b) ∧ ∀ p ∈ X.pn ++ pins, p.1 ≠ b
theorem Inv.fpOk {X : Cx} {pins : List (Addr × Obj)} {σ : St} {H H' : Hp} {s : Shared} {b : Addr} (I : Inv X pins σ H s) (hb : s.heap.objs.size ≤ b) (hn : H' b = none) : FpOk X pins H' b := by
  refine ⟨hn, Nat.ne_of_gt (Nat.lt_of_lt_of_le I.lt hb), I.nofs hb, .inr (Nat.le_trans I.sz hb), fun x c e z => ?_, fun p hp z => ?_⟩
  · obtain ⟨v, q⟩ := I.cell x c e
    exact absurd (Nat.lt_of_lt_of_le q.lt (by rw [z]; exact hb)) (Nat.lt_irrefl _)
  · exact absurd (Nat.lt_of_lt_of_le (Heap.lt_size (I.pin p hp).1) (by rw [z]; exact hb)) (Nat.lt_irrefl _)
structure Turn (P : Program) (w : World) (K : PySem.W.Frag) (tg : Expr) (J : It) (fp : List Addr) (it : Addr) (tn : Nat → Heap → Prop) : Prop where
  mem : it ∈ fp
  obj : ∀ i h, tn i h → ∀ b ∈ fp, ∃ o, h.get? b = some o ∧ ∀ v, o.data ≠ .cell v
  keep : ∀ i h h', tn i h → (∀ b ∈ fp, ∀ o, h.get? b = some o → h'.get? b = some o) → tn i h'
  item : ∀ (X : Cx), X.prog = P → X.w = w → X.K = K → X.calm = true → ∀ (i : Nat) (pins : List (Addr × Obj)) (s : Shared) (σ : St) (H : Hp) (E : Value → Shared → Prop), Inv X pins σ H s → (∀ b ∈ fp, FpOk X pins H b) → tn i s.heap → J.go i H →
    wpAny (model P w) X.A (pyNext (.ref it)) (fun r s1 => ∃ u, r = some u ∧
      wpAny (model P w) X.A (letOwnedTupleGo tg (.ref it) u) (fun _ s2 => ∃ x H', Inv X pins σ H' s2 ∧ RelV x u ∧ J.yld i H x H' ∧ tn (i + 1) s2.heap ∧ ∀ b ∈ fp, H' b = none) E s1) E s
  done : ∀ (X : Cx), X.prog = P → X.w = w → X.K = K → X.calm = true → ∀ (i : Nat) (pins : List (Addr × Obj)) (s : Shared) (σ : St) (H : Hp) (E : Value → Shared → Prop), Inv X pins σ H s → (∀ b ∈ fp, FpOk X pins H b) → tn i s.heap → J.stop i H →
    wpAny (model P w) X.A (pyNext (.ref it)) (fun r s1 => r = none ∧ Inv X pins σ H s1) E s
  self : ∀ (A : Around) (i : Nat) (s : Shared) (Q : Value → Shared → Prop) (E : Value → Shared → Prop), tn i s.heap → Q (.ref it) s → wpAny (model P w) A (pyIter (.ref it)) Q E s
noncomputable abbrev TI := St → Hp → (It → Hp → Prop) → Prop
noncomputable def PIE (X : Cx) (pins : List (Addr × Obj)) (σ : St) (tg : Expr) (R : It → Hp → Prop) (itv : Value) (s2 : Shared) : Prop :=
  ∃ (it : Addr) (fp : List Addr) (tn : Nat → Heap → Prop) (J : It) (H' : Hp), itv = .ref it ∧ Inv X pins σ H' s2 ∧ Turn X.prog X.w X.K tg J fp it tn ∧ tn 0 s2.heap ∧ (∀ b ∈ fp, FpOk X pins H' b) ∧ R J H'
noncomputable def PI (X : Cx) (tg iter : Expr) (wi : TI) : Prop :=
  ∀ (pins : List (Addr × Obj)) (s : Shared) (σ : St) (H : Hp) (R : It → Hp → Prop), Inv X pins σ H s → wi σ H R →
    wpAny (model X.prog X.w) X.A (eval iter X.env) (fun v s1 => wpAny (model X.prog X.w) X.A (pyIter v) (PIE X pins σ tg R) X.xe s1) X.xe s
theorem go_of {M : Model} {A : Around} {E : Value → Shared → Prop} {s : Shared} {tg : Expr} {it : Addr} {u : Value} {o : Obj} {n : String} {vs : Array Value} {Q : Unit → Shared → Prop} (ho : s.heap.get? it = some o) (hc : o.cls = .type n) (hd : o.data = .fields vs)
    (hn : ["enumerate", "zip", "dict_itemiterator", "dict_reverseitemiterator", "odict_iterator", "itertools.zip_longest", "itertools.pairwise"].contains n = false) (hQ : Q () s) : wpAny M A (letOwnedTupleGo tg (.ref it) u) Q E s := by
  unfold letOwnedTupleGo
  cases tg <;> first
    | exact wpAny_pure hQ
    | (cases u <;> first
        | exact wpAny_pure hQ
        | (refine wpAny_bind (wpAny_load ho ?_)
           rw [hc, hd]
           show wpAny M A (if (["enumerate", "zip", "dict_itemiterator", "dict_reverseitemiterator", "odict_iterator", "itertools.zip_longest", "itertools.pairwise"].contains n && vs[0]? == some (rawInt _)) = true then _ else _) Q E s
           rw [if_neg (by intro h; rw [hn, Bool.false_and] at h; cases h)]
           exact wpAny_pure hQ))
noncomputable def Itl (K : PySem.W.Frag) (a : Addr) : It :=
  ⟨fun i H => ∃ xs x, SqL K H a xs ∧ xs[i]? = some x, fun i H x H' => H' = H ∧ ∀ xs, SqL K H a xs → xs[i]? = some x, fun i H => ∃ xs, SqL K H a xs ∧ xs.length ≤ i⟩
noncomputable def Itt (K : PySem.W.Frag) (a : Addr) : It :=
  ⟨fun i H => ∃ xs x, SqT K H a xs ∧ xs[i]? = some x, fun i H x H' => H' = H ∧ ∀ xs, SqT K H a xs → xs[i]? = some x, fun i H => ∃ xs, SqT K H a xs ∧ xs.length ≤ i⟩
noncomputable def Itr (lo : Int) (n : Nat) : It := ⟨fun i _ => i < n, fun i H x H' => H' = H ∧ x = .int (lo + i), fun i _ => n ≤ i⟩
theorem turn_list {P : Program} {w : World} {K : PySem.W.Frag} {tg : Expr} (a it : Addr) : Turn P w K tg (Itl K a) [it] it (fun i h => h.IsListIter it a i) where
  mem := by simp
  obj := fun i h st b hb => by
    have e : b = it := by simpa using hb
    subst e
    obtain ⟨o, e, c, d⟩ := st
    exact ⟨o, e, fun v z => by rw [d] at z; cases z⟩
  keep := fun i h h' st k => st.at fun o e => k it (by simp) o e
  item := by
    intro X hP hw hK hc i pins s σ H E I hf st hg
    subst hP hw hK
    obtain ⟨xs, x, hq, hx⟩ := hg
    obtain ⟨its, rv, p, hz⟩ := I.list hq
    obtain ⟨u, hu, ru⟩ := rv.get hx
    obtain ⟨f0, f1, f2, f3, f4, f5⟩ := hf it (by simp)
    refine wpAny_pyNext_list_item st p.isList (x := u) (by simpa using hu) fun h' st' sb => ?_
    have I1 : Inv X pins σ H { s with heap := h' } := I.turned (t' := s.toks) (fun b o hb e => (sb.2 b hb).trans e) f0 f1 f3 f4 f5
    obtain ⟨o, e, c, d⟩ := id st'
    exact ⟨u, rfl, go_of (s := { s with heap := h' }) e c d (by decide) ⟨x, H, I1, ru, ⟨rfl, fun ys hy => by rw [I.list_inj hy hq]; exact hx⟩, st', fun b hb => (hf b hb).1⟩⟩
  done := by
    intro X hP hw hK hc i pins s σ H E I hf st hg
    subst hP hw hK
    obtain ⟨xs, hq, hx⟩ := hg
    obtain ⟨its, rv, p, hz⟩ := I.list hq
    obtain ⟨f0, f1, f2, f3, f4, f5⟩ := hf it (by simp)
    have hl := rv.length
    exact wpAny_pyNext_list_end (I.ok.hd hc) st p.isList (by simp; omega) fun h' eb => ⟨rfl, I.turned (t' := s.toks) (fun b o hb e => eb b o hb e) f0 f1 f3 f4 f5⟩
  self := fun _ _ _ _ _ st h => wpAny_pyIter_listiter st h
theorem turn_tuple {P : Program} {w : World} {K : PySem.W.Frag} {tg : Expr} (a it : Addr) : Turn P w K tg (Itt K a) [it] it (fun i h => h.IsTupleIter it a i) where
  mem := by simp
  obj := fun i h st b hb => by
    have e : b = it := by simpa using hb
    subst e
    obtain ⟨o, e, c, d⟩ := st
    exact ⟨o, e, fun v z => by rw [d] at z; cases z⟩
  keep := fun i h h' st k => st.at fun o e => k it (by simp) o e
  item := by
    intro X hP hw hK hc i pins s σ H E I hf st hg
    subst hP hw hK
    obtain ⟨xs, x, hq, hx⟩ := hg
    obtain ⟨its, rv, p, hz⟩ := I.tuple hq
    obtain ⟨u, hu, ru⟩ := rv.get hx
    obtain ⟨f0, f1, f2, f3, f4, f5⟩ := hf it (by simp)
    refine wpAny_pyNext_tuple_item st (show s.heap.IsTuple a its.toArray from p) (x := u) (by simpa using hu) fun h' st' sb => ?_
    have I1 : Inv X pins σ H { s with heap := h' } := I.turned (t' := s.toks) (fun b o hb e => (sb.2 b hb).trans e) f0 f1 f3 f4 f5
    obtain ⟨o, e, c, d⟩ := id st'
    exact ⟨u, rfl, go_of (s := { s with heap := h' }) e c d (by decide) ⟨x, H, I1, ru, ⟨rfl, fun ys hy => by rw [I.tuple_inj hy hq]; exact hx⟩, st', fun b hb => (hf b hb).1⟩⟩
  done := by
    intro X hP hw hK hc i pins s σ H E I hf st hg
    subst hP hw hK
    obtain ⟨xs, hq, hx⟩ := hg
    obtain ⟨its, rv, p, hz⟩ := I.tuple hq
    obtain ⟨f0, f1, f2, f3, f4, f5⟩ := hf it (by simp)
    have hl := rv.length
    exact wpAny_pyNext_tuple_end (I.ok.hd hc) st (show s.heap.IsTuple a its.toArray from p) (by simp; omega) fun h' eb => ⟨rfl, I.turned (t' := s.toks) (fun b o hb e => eb b o hb e) f0 f1 f3 f4 f5⟩
  self := fun _ _ _ _ _ st h => wpAny_pyIter_tupleiter st h
theorem turn_range {P : Program} {w : World} {K : PySem.W.Frag} {tg : Expr} (it : Addr) (lo : Int) (n : Nat) : Turn P w K tg (Itr lo n) [it] it (fun i h => IsRangeIter h it (lo + (i : Nat) * 1) ((n : Int) - (i : Nat)) 1) where
  mem := by simp
  obj := fun i h st b hb => by
    have e : b = it := by simpa using hb
    subst e
    exact ⟨_, st, fun v z => by
      have z' : Data.fields _ = Data.cell v := z
      cases z'⟩
  keep := fun i h h' st k => k it (by simp) _ st
  item := by
    intro X hP hw hK hc i pins s σ H E I hf st hg
    subst hP hw hK
    obtain ⟨f0, f1, f2, f3, f4, f5⟩ := hf it (by simp)
    have W := Walks.range (prog := X.prog) (w := X.w) (I.ok.hd hc) it lo 1 n
    refine W.item i s _ _ hg st fun v h' tk hv st' kk => ?_
    obtain ⟨t, rfl⟩ := hv
    have I1 : Inv X pins σ H { s with heap := h', toks := tk } := I.turned (fun b o hb e => kk b o (by simpa using hb) e) f0 f1 f3 f4 f5
    refine ⟨_, rfl, go_of (s := { s with heap := h', toks := tk }) (n := "range_iterator") st' rfl rfl (by decide) ⟨.int (lo + i), H, I1, ⟨t, ?_⟩, ⟨rfl, rfl⟩, st', fun b hb => (hf b hb).1⟩⟩
    rw [Int.mul_one]
  done := by
    intro X hP hw hK hc i pins s σ H E I hf st hg
    subst hP hw hK
    obtain ⟨f0, f1, f2, f3, f4, f5⟩ := hf it (by simp)
    exact wpAny_pyNext_range_end (I.ok.hd hc) st (by have : n ≤ i := hg; omega) fun h' eb => ⟨rfl, I.turned (t' := s.toks) (fun b o hb e => eb b o hb e) f0 f1 f3 f4 f5⟩
  self := fun _ _ _ _ _ st h => wpAny_pyIter_rangeiter st h
end L2
namespace L2
open PySem PySem.Spec PyProof.Rows
section
variable {X : Cx} {tg : Expr}
noncomputable def iList (K : PySem.W.Frag) (tl : TE) : TI := fun σ H R => tl σ H fun x H1 => ∃ a, x = .ref a ∧ (∃ xs, SqL K H1 a xs) ∧ R (Itl K a) H1
noncomputable def iTup (K : PySem.W.Frag) (tl : TE) : TI := fun σ H R => tl σ H fun x H1 => ∃ a, x = .ref a ∧ (∃ xs, SqT K H1 a xs) ∧ R (Itt K a) H1
theorem pi_list {l : Expr} {tl : TE} (hl : PE X l tl) : PI X tg l (iList X.K tl) := by
  intro pins s σ H R I h
  refine thn (hl pins s σ H _ I h) fun v s1 ⟨x, H1, I1, r1, q1⟩ => ?_
  obtain ⟨a, e, ⟨xs, hq⟩, q⟩ := q1
  subst e
  cases r1
  obtain ⟨its, rv, p, hz⟩ := I1.list hq
  refine wpAny_pyIter_list p.isList ?_
  refine ⟨s1.heap.objs.size, [s1.heap.objs.size], _, _, H1, rfl, I1.kept (t' := s1.toks) fun b o e => Heap.get?_push_of_some _ e, turn_list a _, ⟨_, Heap.get?_push_size _ rfl, rfl, rfl⟩, fun b hb => ?_, q⟩
  have e : b = s1.heap.objs.size := by simpa using hb
  subst e
  exact I1.fpOk (Nat.le_refl _) (I1.hok.fresh (Nat.le_refl _))
theorem pi_tup {l : Expr} {tl : TE} (hl : PE X l tl) : PI X tg l (iTup X.K tl) := by
  intro pins s σ H R I h
  refine thn (hl pins s σ H _ I h) fun v s1 ⟨x, H1, I1, r1, q1⟩ => ?_
  obtain ⟨a, e, ⟨xs, hq⟩, q⟩ := q1
  subst e
  cases r1
  obtain ⟨its, rv, p, hz⟩ := I1.tuple hq
  refine wpAny_pyIter_tuple (show s1.heap.IsTuple a its.toArray from p) ?_
  refine ⟨s1.heap.objs.size, [s1.heap.objs.size], _, _, H1, rfl, I1.kept (t' := s1.toks) fun b o e => Heap.get?_push_of_some _ e, turn_tuple a _, ⟨_, Heap.get?_push_size _ rfl, rfl, rfl⟩, fun b hb => ?_, q⟩
  have e : b = s1.heap.objs.size := by simpa using hb
  subst e
  exact I1.fpOk (Nat.le_refl _) (I1.hok.fresh (Nat.le_refl _))
theorem range_it {pins : List (Addr × Obj)} {σ : St} {H : Hp} {s : Shared} {R : It → Hp → Prop} {E : Value → Shared → Prop} {lo hi : Int} {t u v : Tok} {tk : Nat} (I : Inv X pins σ H s) (h1 : -(2 ^ 62) ≤ lo) (h2 : lo < 2 ^ 62) (h3 : -(2 ^ 62) ≤ hi) (h4 : hi < 2 ^ 62)
    (q : R (Itr lo (hi - lo).toNat) H) : wpAny (model X.prog X.w) X.A (pyIter (.ref s.heap.objs.size)) (PIE X pins σ tg R) E { s with heap := s.heap.push { cls := .type "range", data := .fields #[.int lo t, .int hi u, .int 1 v] }, toks := tk } := by
  refine wpAny_pyIter_range (IsRange.new ..) (small_one h1 h2 h3 h4) ?_
  have I1 : Inv X pins σ H { s with heap := s.heap.push { cls := .type "range", data := .fields #[.int lo t, .int hi u, .int 1 v] }, toks := tk } := I.kept fun b o e => Heap.get?_push_of_some _ e
  refine ⟨(s.heap.push { cls := .type "range", data := .fields #[.int lo t, .int hi u, .int 1 v] }).objs.size, [(s.heap.push { cls := .type "range", data := .fields #[.int lo t, .int hi u, .int 1 v] }).objs.size], _, _, H, rfl,
    I1.kept (t' := tk) fun b o e => Heap.get?_push_of_some _ e, turn_range _ lo (hi - lo).toNat, ?_, fun b hb => ?_, q⟩
  · have e1 : lo + ((0 : Nat) : Int) * 1 = lo := by simp
    have e2 : (((hi - lo).toNat : Nat) : Int) - ((0 : Nat) : Int) = Builtin.Range.rangeSize lo hi 1 := by rw [rangeSize_one]; split <;> omega
    show IsRangeIter _ _ (lo + ((0 : Nat) : Int) * 1) ((((hi - lo).toNat : Nat) : Int) - ((0 : Nat) : Int)) 1
    rw [e1, e2]
    exact Heap.get?_push_size _ rfl
  · have e : b = (s.heap.push { cls := .type "range", data := .fields #[.int lo t, .int hi u, .int 1 v] }).objs.size := by simpa using hb
    subst e
    exact I1.fpOk (Nat.le_refl _) (I1.hok.fresh (Nat.le_refl _))
noncomputable def iRng1 (ta : TA) : TI := fun σ H R => ta σ H fun vs H1 => ∃ j : Int, vs = [.int j] ∧ -(2 ^ 62) ≤ j ∧ j < 2 ^ 62 ∧ R (Itr 0 j.toNat) H1
theorem pi_range1 {a : Expr} {ta : TA} {p pos : Pos} (hg : Gl X "range") (hm : X.mg "range" = none) (ha : PA X [a] ta) (hs : starEach [a] X.env = [(false, eval a X.env)] := by rfl) : PI X tg (.Call (.Name "range" p) [a] [] pos) (iRng1 ta) := by
  intro pins s σ H R I h
  refine Call_ (ld_blt I hg hm boot_range (PyProof.Rows.callWith_type1 (thn (ha pos pins s σ H _ I h) fun us s1 ⟨vs, H1, I1, r1, q1⟩ => ?_) hs rfl))
  obtain ⟨j, e, q1, q2, q⟩ := q1
  subst e
  cases r1 with
  | cons r rr =>
    cases rr
    obtain ⟨t, rfl⟩ := r
    exact call_range_1 (range_it I1 (by omega) (by omega) q1 q2 (by simpa using q))
noncomputable def tFor (wi : TI) (g : TG) (tb : TS) : TS := fun D σ H => wi σ H fun J H1 => ∃ W : Nat → Nat → St → Hp → Prop, (∃ m, W 0 m σ H1) ∧ ∀ i m σ H, W i m σ H →
  (J.stop i H ∧ D.nx σ H) ∨ (J.go i H ∧ ∃ N : St → Hp → Prop, (∀ σ' H', N σ' H' → ∃ m', m' < m ∧ W (i + 1) m' σ' H') ∧ ∀ x H', J.yld i H x H' → g x σ H' fun σ2 H2 => tb { D with nx := N, ct := N, bk := D.nx } σ2 H2)
noncomputable def pinsAt (fp : List Addr) (h : Heap) : List (Addr × Obj) := fp.filterMap fun b => (h.get? b).map fun o => (b, o)
theorem mem_pinsAt {fp : List Addr} {h : Heap} {b : Addr} {o : Obj} (hb : b ∈ fp) (e : h.get? b = some o) : (b, o) ∈ pinsAt fp h := List.mem_filterMap.mpr ⟨b, hb, by rw [e]; rfl⟩
theorem of_pinsAt {fp : List Addr} {h : Heap} {p : Addr × Obj} (hp : p ∈ pinsAt fp h) : p.1 ∈ fp ∧ h.get? p.1 = some p.2 := by
  obtain ⟨b, hb, e⟩ := List.mem_filterMap.mp hp
  cases q : h.get? b with
  | none => rw [q] at e; cases e
  | some o =>
    rw [q] at e
    have e' : (b, o) = p := Option.some.inj e
    subst e'
    exact ⟨hb, q⟩
theorem Inv.pinned {pins : List (Addr × Obj)} {σ : St} {H : Hp} {s : Shared} {fp : List Addr} (I : Inv X pins σ H s) (hf : ∀ b ∈ fp, FpOk X pins H b) (ho : ∀ b ∈ fp, ∃ o, s.heap.get? b = some o ∧ ∀ v, o.data ≠ .cell v) : Inv X (pins ++ pinsAt fp s.heap) σ H s :=
  I.pins_of fun p hp => (List.mem_append.mp hp).elim (fun z => I.pin p (List.mem_append_right _ z)) fun z => by
    obtain ⟨hb, e⟩ := of_pinsAt z
    obtain ⟨f0, f1, f2, _⟩ := hf p.1 hb
    obtain ⟨o, e', d⟩ := ho p.1 hb
    rw [e] at e'; cases e'
    exact ⟨e, f0, f1, f2, d⟩
theorem Inv.unpinned {pins pl : List (Addr × Obj)} {σ : St} {H : Hp} {s : Shared} (I : Inv X (pins ++ pl) σ H s) : Inv X pins σ H s := I.pins_of fun p hp => I.pin p (List.mem_append_right _ (List.mem_append_left _ hp))
theorem ps_for {iter : Expr} {body : List Stmt} {wi : TI} {g : TG} {tb : TS} {pos : Pos} (hp : PassesOwn (model X.prog X.w) X.A X.env X.xe) (hc : X.calm = true) (hi : PI X tg iter wi) (hg : PG X tg g) (hb : PSs X body tb)
    (hs : ∀ x, foldedSetIterable iter X.env x = pure x := by intro _; rfl) : PS X (.For tg iter body [] pos) (tFor wi g tb) := by
  intro pins s σ H D I h
  refine wpAny_For (thn (hi pins s σ H _ I h) fun v s1 h1 => thn h1 fun itv s2 h2 => ?_) hs
  obtain ⟨it, fp, tn, J, H2, e, I2, T, st2, f2, W, ⟨m0, w0⟩, turn⟩ := h2
  subst e
  -- what stays true of the iterator's objects through the loop
  have stat : ∀ {H' : Hp}, (∀ b ∈ fp, H' b = none) → ∀ b ∈ fp, FpOk X pins H' b := fun hn b hb => ⟨hn b hb, (f2 b hb).2⟩
  refine codeAny_forLoop_any (fun n s' => ∃ i σ' H', Inv X pins σ' H' s' ∧ tn i s'.heap ∧ (∀ b ∈ fp, H' b = none) ∧ W i n σ' H') ?_ m0 ⟨0, σ, H2, I2, st2, fun b hb => (f2 b hb).1, w0⟩
  rintro n s3 ⟨i, σ3, H3, I3, st3, fr3, w3⟩
  rcases turn i n σ3 H3 w3 with ⟨stop, qn⟩ | ⟨go, N, hN, step⟩
  · refine wpAny_passesOwn hp (thn (T.done X rfl rfl rfl hc i pins s3 σ3 H3 X.xe I3 (stat fr3) st3 stop) fun r s4 ⟨hr, I4⟩ => ?_)
    subst hr
    exact wpAny_execs_nil ⟨σ3, H3, I4, qn⟩
  · refine wpAny_passesOwn hp (thn (T.item X rfl rfl rfl hc i pins s3 σ3 H3 X.xe I3 (stat fr3) st3 go) fun r s4 ⟨u, hr, h4⟩ => ?_)
    subst hr
    refine wpAny_passesOwn hp (thn h4 fun _ s5 ⟨x, H5, I5, r5, y5, st5, fr5⟩ => ?_)
    have I5' := I5.pinned (stat fr5) (T.obj _ _ st5)
    refine wpAny_passesOwn hp (thn (hg _ s5 σ3 H5 x u _ I5' r5 (step x H5 y5)) fun _ s6 ⟨σ6, H6, I6, q6⟩ => ?_)
    refine wpAny_passesOwn hp (thn (hb _ s6 σ6 H6 _ I6 q6) fun f s7 q7 => ?_)
    have again : ∀ {σ7 : St} {H7 : Hp}, Inv X (pins ++ pinsAt fp s5.heap) σ7 H7 s7 → N σ7 H7 → ∃ m, m < n ∧ ∃ i σ' H', Inv X pins σ' H' s7 ∧ tn i s7.heap ∧ (∀ b ∈ fp, H' b = none) ∧ W i m σ' H' := fun {σ7 H7} I7 n7 => by
      obtain ⟨m', hm, w7⟩ := hN σ7 H7 n7
      refine ⟨m', hm, i + 1, σ7, H7, I7.unpinned, T.keep _ _ _ st5 fun b hb o e => (I7.pin (b, o) (List.mem_append_right _ (List.mem_append_right _ (mem_pinsAt hb e)))).1, fun b hb => ?_, w7⟩
      obtain ⟨o, e, d⟩ := T.obj _ _ st5 b hb
      exact (I7.pin (b, o) (List.mem_append_right _ (List.mem_append_right _ (mem_pinsAt hb e)))).2.1
    cases f with
    | next => obtain ⟨σ7, H7, I7, n7⟩ := q7; exact again I7 n7
    | cont => obtain ⟨σ7, H7, I7, n7⟩ := q7; exact again I7 n7
    | brk => obtain ⟨σ7, H7, I7, q7⟩ := q7; exact ⟨σ7, H7, I7.unpinned, q7⟩
    | ret v => obtain ⟨x7, σ7, H7, I7, r7, q7⟩ := q7; exact ⟨x7, σ7, H7, I7.unpinned, r7, q7⟩
end
theorem for_list {K : PySem.W.Frag} {a : Addr} {xs : List V} {g : TG} {tb : TS} {D : Ends} {σ : St} {H : Hp} (Pv : Nat → St → Hp → Prop) (h0 : Pv 0 σ H) (hl : ∀ i σ H, i ≤ xs.length → Pv i σ H → SqL K H a xs)
    (hs : ∀ i x σ H, xs[i]? = some x → Pv i σ H → g x σ H fun σ2 H2 => tb { D with nx := Pv (i + 1), ct := Pv (i + 1), bk := D.nx } σ2 H2) (hd : ∀ σ H, Pv xs.length σ H → D.nx σ H) :
    ∃ W : Nat → Nat → St → Hp → Prop, (∃ m, W 0 m σ H) ∧ ∀ i m σ H, W i m σ H →
      ((Itl K a).stop i H ∧ D.nx σ H) ∨ ((Itl K a).go i H ∧ ∃ N : St → Hp → Prop, (∀ σ' H', N σ' H' → ∃ m', m' < m ∧ W (i + 1) m' σ' H') ∧ ∀ x H', (Itl K a).yld i H x H' → g x σ H' fun σ2 H2 => tb { D with nx := N, ct := N, bk := D.nx } σ2 H2) := by
  refine ⟨fun i m σ H => m = xs.length - i ∧ i ≤ xs.length ∧ Pv i σ H, ⟨xs.length, by simp, Nat.zero_le _, h0⟩, ?_⟩
  rintro i m σ H ⟨rfl, hi, p⟩
  have q := hl i σ H hi p
  by_cases hlt : i < xs.length
  · refine .inr ⟨⟨xs, xs[i], q, by simp [hlt]⟩, Pv (i + 1), fun σ' H' p' => ⟨xs.length - (i + 1), by omega, rfl, hlt, p'⟩, fun x H' y => ?_⟩
    obtain ⟨e, y⟩ := y
    subst e
    exact hs i x σ _ (y xs q) p
  · have e : i = xs.length := by omega
    subst e
    exact .inl ⟨⟨xs, q, Nat.le_refl _⟩, hd σ H p⟩
theorem for_range {lo : Int} {n : Nat} {g : TG} {tb : TS} {D : Ends} {σ : St} {H : Hp} (Pv : Nat → St → Hp → Prop) (h0 : Pv 0 σ H)
    (hs : ∀ i σ H, i < n → Pv i σ H → g (.int (lo + i)) σ H fun σ2 H2 => tb { D with nx := Pv (i + 1), ct := Pv (i + 1), bk := D.nx } σ2 H2) (hd : ∀ σ H, Pv n σ H → D.nx σ H) :
    ∃ W : Nat → Nat → St → Hp → Prop, (∃ m, W 0 m σ H) ∧ ∀ i m σ H, W i m σ H →
      ((Itr lo n).stop i H ∧ D.nx σ H) ∨ ((Itr lo n).go i H ∧ ∃ N : St → Hp → Prop, (∀ σ' H', N σ' H' → ∃ m', m' < m ∧ W (i + 1) m' σ' H') ∧ ∀ x H', (Itr lo n).yld i H x H' → g x σ H' fun σ2 H2 => tb { D with nx := N, ct := N, bk := D.nx } σ2 H2) := by
  refine ⟨fun i m σ H => m = n - i ∧ i ≤ n ∧ Pv i σ H, ⟨n, by simp, Nat.zero_le _, h0⟩, ?_⟩
  rintro i m σ H ⟨rfl, hi, p⟩
  by_cases hlt : i < n
  · refine .inr ⟨hlt, Pv (i + 1), fun σ' H' p' => ⟨n - (i + 1), by omega, rfl, hlt, p'⟩, fun x H' y => ?_⟩
    obtain ⟨e, y⟩ := y
    subst e y
    exact hs i σ _ hlt p
  · have e : i = n := by omega
    subst e
    exact .inl ⟨Nat.le_refl _, hd σ H p⟩
end L2
namespace L2
open PySem PySem.Spec PyProof.Rows
noncomputable abbrev R2 := V → V → Hp → VK → Prop
noncomputable def OpR (X : Cx) (f : Value → Value → Sem Value) (r : R2) : Prop :=
  ∀ (pins : List (Addr × Obj)) (s : Shared) (σ : St) (H : Hp) (x y : V) (v u : Value) (Q : VK), Inv X pins σ H s → RelV x v → RelV y u → r x y H Q →
    wpAny (model X.prog X.w) X.A (f v u) (EP X pins σ Q) X.xe s
noncomputable def UnR (X : Cx) (f : Value → Sem Value) (r : V → Hp → VK → Prop) : Prop :=
  ∀ (pins : List (Addr × Obj)) (s : Shared) (σ : St) (H : Hp) (x : V) (v : Value) (Q : VK), Inv X pins σ H s → RelV x v → r x H Q →
    wpAny (model X.prog X.w) X.A (f v) (EP X pins σ Q) X.xe s
noncomputable def CallR (X : Cx) (f : Value) (r : List V → Hp → VK → Prop) : Prop :=
  ∀ (pins : List (Addr × Obj)) (s : Shared) (σ : St) (H : Hp) (xs : List V) (us : List Value) (Q : VK), Inv X pins σ H s → Vals xs us → r xs H Q →
    wpAny (model X.prog X.w) X.A (call f us) (EP X pins σ Q) X.xe s
noncomputable def tOp (r : R2) (ta tb : TE) : TE := fun σ H Q => ta σ H fun x H1 => tb σ H1 fun y H2 => r x y H2 Q
noncomputable def tUn (r : V → Hp → VK → Prop) (ta : TE) : TE := fun σ H Q => ta σ H fun x H1 => r x H1 Q
noncomputable def rI (C : Int → Int → Prop) (g : Int → Int → V) : R2 := fun x y H Q => ∃ i j, x = .int i ∧ y = .int j ∧ C i j ∧ Q (g i j) H
noncomputable def rI0 (g : Int → Int → V) : R2 := fun x y H Q => ∃ i j, x = .int i ∧ y = .int j ∧ Q (g i j) H
noncomputable def rU (g : Int → V) : V → Hp → VK → Prop := fun x H Q => ∃ i, x = .int i ∧ Q (g i) H
section
variable {X : Cx} {a b c : Expr} {ta tb tc : TE} {pos : Pos}
theorem binT (ha : PE X a ta) (hb : PE X b tb) {pins : List (Addr × Obj)} {s : Shared} {σ : St} {H : Hp} {R : V → V → Hp → Prop} (I : Inv X pins σ H s)
    (h : ta σ H fun x H1 => tb σ H1 fun y H2 => R x y H2) {Q : Value → Shared → Prop} {f : Value → Value → Sem Value}
    (hf : ∀ v u s2 x y H2, Inv X pins σ H2 s2 → RelV x v → RelV y u → R x y H2 → wpAny (model X.prog X.w) X.A (f v u) Q X.xe s2) :
    wpAny (model X.prog X.w) X.A (eval a X.env) (fun v s₁ => wpAny (model X.prog X.w) X.A (eval b X.env) (fun u s₂ => wpAny (model X.prog X.w) X.A (f v u) Q X.xe s₂) X.xe s₁) X.xe s := by
  refine thn (ha pins s σ H _ I h) fun v s1 ⟨x, H1, I1, r1, q1⟩ => ?_
  refine thn (hb pins s1 σ H1 _ I1 q1) fun u s2 ⟨y, H2, I2, r2, q2⟩ => ?_
  exact hf v u s2 x y H2 I2 r1 r2 q2
theorem pe_op {op : Operator} {r : R2} (ho : OpR X (binaryOp op) r) (ha : PE X a ta) (hb : PE X b tb) : PE X (.BinOp a op b pos) (tOp r ta tb) := by
  intro pins s σ H Q I h
  exact wpAny_BinOp (binT ha hb I h fun v u s2 x y H2 I2 rx ry q => ho pins s2 σ H2 x y v u Q I2 rx ry q)
theorem pe_un {op : UnaryOp} {r : V → Hp → VK → Prop} (ho : UnR X (unaryOp op) r) (ha : PE X a ta) : PE X (.UnaryOp op a pos) (tUn r ta) := by
  intro pins s σ H Q I h
  exact UnaryOp_ (thn (ha pins s σ H _ I h) fun v s1 ⟨x, H1, I1, r1, q1⟩ => ho pins s1 σ H1 x v Q I1 r1 q1)
theorem opI {f : Value → Value → Sem Value} {C : Int → Int → Prop} {g : Int → Int → Int}
    (rule : ∀ (i j : Int) (t u : Tok) (s : Shared) (Q : Value → Shared → Prop) (E : Value → Shared → Prop), C i j → Q (.int (g i j) s.toks) { s with toks := s.toks + 1 } → wpAny (model X.prog X.w) X.A (f (.int i t) (.int j u)) Q E s) :
    OpR X f (rI C fun i j => .int (g i j)) := by
  intro pins s σ H x y v u Q I rx ry h
  obtain ⟨i, j, rfl, rfl, hc, q⟩ := h
  obtain ⟨t, rfl⟩ := rx
  obtain ⟨t', rfl⟩ := ry
  exact rule i j t t' s _ _ hc ⟨.int (g i j), H, I.tok _, ⟨_, rfl⟩, q⟩
theorem opI0 {f : Value → Value → Sem Value} {g : Int → Int → Int}
    (rule : ∀ (i j : Int) (t u : Tok) (s : Shared) (Q : Value → Shared → Prop) (E : Value → Shared → Prop), Q (.int (g i j) s.toks) { s with toks := s.toks + 1 } → wpAny (model X.prog X.w) X.A (f (.int i t) (.int j u)) Q E s) :
    OpR X f (rI0 fun i j => .int (g i j)) := by
  intro pins s σ H x y v u Q I rx ry h
  obtain ⟨i, j, rfl, rfl, q⟩ := h
  obtain ⟨t, rfl⟩ := rx
  obtain ⟨t', rfl⟩ := ry
  exact rule i j t t' s _ _ ⟨.int (g i j), H, I.tok _, ⟨_, rfl⟩, q⟩
theorem opB0 {f : Value → Value → Sem Value} {g : Int → Int → Bool}
    (rule : ∀ (i j : Int) (t u : Tok) (s : Shared) (Q : Value → Shared → Prop) (E : Value → Shared → Prop), Q (.bool (g i j)) s → wpAny (model X.prog X.w) X.A (f (.int i t) (.int j u)) Q E s) :
    OpR X f (rI0 fun i j => .bl (g i j)) := by
  intro pins s σ H x y v u Q I rx ry h
  obtain ⟨i, j, rfl, rfl, q⟩ := h
  obtain ⟨t, rfl⟩ := rx
  obtain ⟨t', rfl⟩ := ry
  exact rule i j t t' s _ _ ⟨.bl (g i j), H, I, rfl, q⟩
noncomputable def CDiv (i j : Int) : Prop := 0 < j ∧ j < 1073741824
noncomputable def CPow (i j : Int) : Prop := 0 ≤ j ∧ j ≤ 1000000 ∧ i.natAbs < 2 ^ 64
theorem op_add : OpR X (binaryOp .Add) (rI0 fun i j => .int (i + j)) := opI0 fun _ _ _ _ _ _ _ q => add_int q
theorem op_sub : OpR X (binaryOp .Sub) (rI0 fun i j => .int (i - j)) := opI0 fun _ _ _ _ _ _ _ q => sub_int q
theorem op_fdiv : OpR X (binaryOp .FloorDiv) (rI CDiv fun i j => .int (i / j)) := opI fun i j _ _ _ _ _ hc q => by
  have h1 : (0 : Int) < j := hc.1
  have h2 : j < 1073741824 := hc.2
  exact floordiv_int (by omega) (by rw [Int.fdiv_eq_ediv_of_nonneg i (by omega)]; exact q) (.inl (PyProof.noPylong_small (by omega)))
theorem op_mod : OpR X (binaryOp .Mod) (rI (fun _ j => 0 < j) fun i j => .int (i % j)) := opI fun i j _ _ _ _ _ hc q => by
  have h1 : (0 : Int) < j := hc
  exact mod_int' (by omega) (by rw [Int.fmod_eq_emod_of_nonneg i (by omega)]; exact q)
theorem op_pow : OpR X (binaryOp .Pow) (rI CPow fun i j => .int (i ^ j.toNat)) := opI fun _ _ _ _ _ _ _ hc q => pow_int_small hc.1 hc.2.1 hc.2.2 q
theorem op_shl : OpR X (binaryOp .LShift) (rI CPow fun i j => .int (i * 2 ^ j.toNat)) := opI fun _ _ _ _ _ _ _ hc q => lshift_int_small hc.1 hc.2.1 hc.2.2 q
theorem op_and : OpR X (binaryOp .BitAnd) (rI0 fun i j => .int (Builtin.bitAnd i j)) := opI0 fun _ _ _ _ _ _ _ q => and_int q
theorem unI {f : Value → Sem Value} {g : Int → Int}
    (rule : ∀ (i : Int) (t : Tok) (s : Shared) (Q : Value → Shared → Prop) (E : Value → Shared → Prop), Q (.int (g i) s.toks) { s with toks := s.toks + 1 } → wpAny (model X.prog X.w) X.A (f (.int i t)) Q E s) :
    UnR X f (rU fun i => .int (g i)) := by
  intro pins s σ H x v Q I rx h
  obtain ⟨i, rfl, q⟩ := h
  obtain ⟨t, rfl⟩ := rx
  exact rule i t s _ _ ⟨.int (g i), H, I.tok _, ⟨_, rfl⟩, q⟩
theorem un_neg : UnR X (unaryOp .USub) (rU fun i => .int (-i)) := unI fun _ _ _ _ _ q => neg_int q
end
noncomputable def scal : V → V → Bool
  | .non, .non => true | .non, .int _ => true | .int _, .non => true | .non, .bl _ => true | .bl _, .non => true | .non, .str _ => true | .str _, .non => true
  | .int _, .int _ => true | .bl _, .bl _ => true | .str _, .str _ => true | .byt _, .byt _ => true
  | .int _, .str _ => true | .str _, .int _ => true | .bl _, .str _ => true | .str _, .bl _ => true
  | _, _ => false
noncomputable def rEq : R2 := fun x y H Q => scal x y = true ∧ Q (.bl (decide (x = y))) H
noncomputable def rNe : R2 := fun x y H Q => scal x y = true ∧ Q (.bl (!decide (x = y))) H
theorem dec_int {i j : Int} : decide (V.int i = V.int j) = (i == j) := by
  rw [Bool.eq_iff_iff]
  simp
theorem dec_bl {i j : Bool} : decide (V.bl i = V.bl j) = (i == j) := by
  rw [Bool.eq_iff_iff]
  simp
theorem dec_str {i j : Str} : decide (V.str i = V.str j) = (i == j) := by
  rw [Bool.eq_iff_iff]
  simp
theorem dec_byt {i j : Array UInt8} : decide (V.byt i = V.byt j) = (i.toList == j.toList) := by
  rw [Bool.eq_iff_iff]
  cases i
  cases j
  simp
section
variable {X : Cx} {a b c : Expr} {ta tb tc : TE} {pos : Pos}
theorem fin_bl {pins : List (Addr × Obj)} {σ : St} {H : Hp} {s : Shared} {Q : VK} {k k' : Bool} (I : Inv X pins σ H s) (q : Q (.bl k) H) (e : k = k') : EP X pins σ Q (.bool k') s := by
  subst e
  exact ⟨.bl k, H, I, rfl, q⟩
theorem op_eq : OpR X (compareOp .Eq) rEq := by
  intro pins s σ H x y v u Q I rx ry h
  obtain ⟨hs, q⟩ := h
  cases x with
  | non =>
    cases rx
    cases y with
    | non => cases ry; exact PySem.EqNone.eq_none_none (fin_bl I q (by simp))
    | bl j => cases ry; exact PySem.EqNone.eq_none_bool (fin_bl I q (by simp))
    | int j => obtain ⟨t', rfl⟩ := ry; exact PySem.EqNone.eq_none_int (fin_bl I q (by simp))
    | str j => obtain ⟨t', rfl⟩ := ry; exact PySem.EqNone.eq_none_str (fin_bl I q (by simp))
    | _ => exact absurd (show false = true from hs) Bool.false_ne_true
  | bl i =>
    cases rx
    cases y with
    | non => cases ry; exact PySem.EqNone.eq_bool_none (fin_bl I q (by simp))
    | bl j => cases ry; exact eq_bool (fin_bl I q dec_bl)
    | str j => obtain ⟨t', rfl⟩ := ry; exact PySem.EqMixed.eq_bool_str (fin_bl I q (by simp))
    | _ => exact absurd (show false = true from hs) Bool.false_ne_true
  | int i =>
    obtain ⟨t, rfl⟩ := rx
    cases y with
    | non => cases ry; exact PySem.EqNone.eq_int_none (fin_bl I q (by simp))
    | int j => obtain ⟨t', rfl⟩ := ry; exact eq_int (fin_bl I q dec_int)
    | str j => obtain ⟨t', rfl⟩ := ry; exact PySem.EqMixed.eq_int_str (fin_bl I q (by simp))
    | _ => exact absurd (show false = true from hs) Bool.false_ne_true
  | str i =>
    obtain ⟨t, rfl⟩ := rx
    cases y with
    | non => cases ry; exact PySem.EqNone.eq_str_none (fin_bl I q (by simp))
    | bl j => cases ry; exact PySem.EqMixed.eq_str_bool (fin_bl I q (by simp))
    | int j => obtain ⟨t', rfl⟩ := ry; exact PySem.EqMixed.eq_str_int (fin_bl I q (by simp))
    | str j => obtain ⟨t', rfl⟩ := ry; exact eq_str (fin_bl I q dec_str)
    | _ => exact absurd (show false = true from hs) Bool.false_ne_true
  | byt i =>
    obtain ⟨t, rfl⟩ := rx
    cases y with
    | byt j => obtain ⟨t', rfl⟩ := ry; exact PySem.W.eq_bytes (fin_bl I q dec_byt)
    | _ => exact absurd (show false = true from hs) Bool.false_ne_true
  | _ => cases y <;> exact absurd (show false = true from hs) Bool.false_ne_true
theorem op_ne : OpR X (compareOp .NotEq) rNe := by
  intro pins s σ H x y v u Q I rx ry h
  obtain ⟨hs, q⟩ := h
  cases x with
  | non =>
    cases rx
    cases y with
    | non => cases ry; exact PySem.EqNone.ne_none_none (fin_bl I q (by simp))
    | bl j => cases ry; exact PySem.EqNone.ne_none_bool (fin_bl I q (by simp))
    | int j => obtain ⟨t', rfl⟩ := ry; exact PySem.EqNone.ne_none_int (fin_bl I q (by simp))
    | str j => obtain ⟨t', rfl⟩ := ry; exact PySem.EqNone.ne_none_str (fin_bl I q (by simp))
    | _ => exact absurd (show false = true from hs) Bool.false_ne_true
  | bl i =>
    cases rx
    cases y with
    | non => cases ry; exact PySem.EqNone.ne_bool_none (fin_bl I q (by simp))
    | bl j => cases ry; exact ne_bool (fin_bl I q (congrArg not dec_bl))
    | str j => obtain ⟨t', rfl⟩ := ry; exact PySem.EqMixed.ne_bool_str (fin_bl I q (by simp))
    | _ => exact absurd (show false = true from hs) Bool.false_ne_true
  | int i =>
    obtain ⟨t, rfl⟩ := rx
    cases y with
    | non => cases ry; exact PySem.EqNone.ne_int_none (fin_bl I q (by simp))
    | int j => obtain ⟨t', rfl⟩ := ry; exact ne_int (fin_bl I q (congrArg not dec_int))
    | str j => obtain ⟨t', rfl⟩ := ry; exact PySem.EqMixed.ne_int_str (fin_bl I q (by simp))
    | _ => exact absurd (show false = true from hs) Bool.false_ne_true
  | str i =>
    obtain ⟨t, rfl⟩ := rx
    cases y with
    | non => cases ry; exact PySem.EqNone.ne_str_none (fin_bl I q (by simp))
    | bl j => cases ry; exact PySem.EqMixed.ne_str_bool (fin_bl I q (by simp))
    | int j => obtain ⟨t', rfl⟩ := ry; exact PySem.EqMixed.ne_str_int (fin_bl I q (by simp))
    | str j => obtain ⟨t', rfl⟩ := ry; exact ne_str (fin_bl I q (congrArg not dec_str))
    | _ => exact absurd (show false = true from hs) Bool.false_ne_true
  | byt i =>
    obtain ⟨t, rfl⟩ := rx
    cases y with
    | byt j => obtain ⟨t', rfl⟩ := ry; exact PySem.W.ne_bytes (fin_bl I q (congrArg not dec_byt))
    | _ => exact absurd (show false = true from hs) Bool.false_ne_true
  | _ => cases y <;> exact absurd (show false = true from hs) Bool.false_ne_true
theorem op_lt : OpR X (compareOp .Lt) (rI0 fun i j => .bl (decide (i < j))) := opB0 fun _ _ _ _ _ _ _ q => lt_int q
theorem op_le : OpR X (compareOp .LtE) (rI0 fun i j => .bl (decide (i ≤ j))) := opB0 fun _ _ _ _ _ _ _ q => le_int q
theorem op_gt : OpR X (compareOp .Gt) (rI0 fun i j => .bl (decide (j < i))) := opB0 fun _ _ _ _ _ _ _ q => gt_int q
theorem op_ge : OpR X (compareOp .GtE) (rI0 fun i j => .bl (decide (j ≤ i))) := opB0 fun _ _ _ _ _ _ _ q => ge_int q
theorem op_in_str : OpR X (compareOp .In) (fun x y H Q => ∃ i j, x = .str i ∧ y = .str j ∧ Q (.bl (!(Builtin.Str.occurrences j i 0 j.length 1).isEmpty)) H) := by
  intro pins s σ H x y v u Q I rx ry h
  obtain ⟨i, j, rfl, rfl, q⟩ := h
  obtain ⟨t, rfl⟩ := rx
  obtain ⟨t', rfl⟩ := ry
  exact in_str (fin_bl I q rfl)
theorem nomark (b : Expr) {op : CmpOp} (h : op ≠ .In := by decide) (h2 : op ≠ .NotIn := by decide) : behindInMarks op b = false := by
  have e1 : (op == CmpOp.In) = false := by cases op <;> first | rfl | exact absurd rfl h
  have e2 : (op == CmpOp.NotIn) = false := by cases op <;> first | rfl | exact absurd rfl h2
  cases b <;> simp [behindInMarks, e1, e2]
theorem pe_cmpR {op : CmpOp} {r : R2} (ho : OpR X (compareOp op) r) (ha : PE X a ta) (hb : PE X b tb) (hm : behindInMarks op b = false) : PE X (.Compare a [op] [b] pos) (tOp r ta tb) := by
  intro pins s σ H Q I h
  exact wpAny_Compare1 (binT ha hb I h fun v u s2 x y H2 I2 rx ry q => ho pins s2 σ H2 x y v u Q I2 rx ry q) hm
noncomputable def tTest (t : TE) : TT := fun σ H Q => t σ H fun x H' => ∃ k, x = .bl k ∧ Q k H'
theorem pt_cmpR {op : CmpOp} {r : R2} (ho : OpR X (compareOp op) r) (ha : PE X a ta) (hb : PE X b tb) (hm : behindInMarks op b = false) : PT X (.Compare a [op] [b] pos) (tTest (tOp r ta tb)) := by
  intro pins s σ H Q I h
  refine wpAny_isTrue_Compare1 (thn (ha pins s σ H _ I h) fun v s1 ⟨x, H1, I1, r1, q1⟩ => thn (hb pins s1 σ H1 _ I1 q1) fun u s2 ⟨y, H2, I2, r2, q2⟩ =>
    thn (ho pins s2 σ H2 x y v u _ I2 r1 r2 q2) fun c s3 ⟨z, H3, I3, r3, k, e, q3⟩ => ?_) hm
  subst e
  cases r3
  exact wpAny_truthy_bool ⟨H3, I3, q3⟩
noncomputable def tChain (r r' : R2) (ta tb tc : TE) : TE := fun σ H Q => ta σ H fun x H1 => tb σ H1 fun y H2 => r x y H2 fun z H3 => ∃ k, z = .bl k ∧
  (if k = true then tc σ H3 fun w' H4 => r' y w' H4 Q else Q (.bl false) H3)
theorem pe_chain {op op' : CmpOp} {r r' : R2} (ho : OpR X (compareOp op) r) (ho' : OpR X (compareOp op') r') (ha : PE X a ta) (hb : PE X b tb) (hc : PE X c tc)
    (hm : lastMarks [op, op'] [b, c] = false := by with_unfolding_all rfl) : PE X (.Compare a [op, op'] [b, c] pos) (tChain r r' ta tb tc) := by
  intro pins s σ H Q I h
  refine Compare_chain (thn (ha pins s σ H _ I h) fun v s1 ⟨x, H1, I1, r1, q1⟩ => chain_link (thn (hb pins s1 σ H1 _ I1 q1) fun u s2 ⟨y, H2, I2, r2, q2⟩ =>
    thn (ho pins s2 σ H2 x y v u _ I2 r1 r2 q2) fun d s3 ⟨z, H3, I3, r3, k, e, q3⟩ => ?_)) hm
  subst e
  cases r3
  refine wpAny_truthy_bool ?_
  cases k with
  | false => exact ite_ff ⟨.bl false, H3, I3, rfl, q3⟩
  | true => exact ite_tt (chain_last (thn (hc pins s3 σ H3 _ I3 q3) fun w' s4 ⟨z', H4, I4, r4, q4⟩ => ho' pins s4 σ H4 y z' u w' Q I4 r2 r4 q4))
theorem pt_chain {op op' : CmpOp} {r r' : R2} (ho : OpR X (compareOp op) r) (ho' : OpR X (compareOp op') r') (ha : PE X a ta) (hb : PE X b tb) (hc : PE X c tc)
    (hm : lastMarks [op, op'] [b, c] = false := by with_unfolding_all rfl) : PT X (.Compare a [op, op'] [b, c] pos) (tTest (tChain r r' ta tb tc)) := by
  intro pins s σ H Q I h
  refine isTrue_chain (thn (ha pins s σ H _ I h) fun v s1 ⟨x, H1, I1, r1, q1⟩ => test_link (thn (hb pins s1 σ H1 _ I1 q1) fun u s2 ⟨y, H2, I2, r2, q2⟩ =>
    thn (ho pins s2 σ H2 x y v u _ I2 r1 r2 q2) fun d s3 ⟨z, H3, I3, r3, k, e, q3⟩ => ?_)) hm
  subst e
  cases r3
  refine wpAny_truthy_bool ?_
  cases k with
  | false =>
    obtain ⟨k', e', q'⟩ := q3
    cases e'
    exact ite_ff ⟨H3, I3, q'⟩
  | true =>
    refine ite_tt (test_last (thn (hc pins s3 σ H3 _ I3 q3) fun w' s4 ⟨z', H4, I4, r4, q4⟩ => thn (ho' pins s4 σ H4 y z' u w' _ I4 r2 r4 q4) fun d' s5 ⟨z2, H5, I5, r5, k2, e2, q5⟩ => ?_))
    subst e2
    cases r5
    exact wpAny_truthy_bool ⟨H5, I5, q5⟩
theorem line63 : (sizeLine : Nat) < 2 ^ 63 := by rw [sizeLine_eq]; decide
theorem op_add_str : OpR X (binaryOp .Add) (fun x y H Q => ∃ i j, x = .str i ∧ y = .str j ∧ i.length + j.length ≤ sizeLine ∧ Q (.str (i ++ j)) H) := by
  intro pins s σ H x y v u Q I rx ry h
  obtain ⟨i, j, rfl, rfl, hz, q⟩ := h
  obtain ⟨t, rfl⟩ := rx
  obtain ⟨t', rfl⟩ := ry
  exact add_str (fun t' tk => ⟨.str (i ++ j), H, I.tok _, ⟨_, rfl⟩, q⟩) hz
theorem vals1 {x : V} {us : List Value} (r : Vals [x] us) : ∃ u, us = [u] ∧ RelV x u := by
  cases r with
  | cons r1 r2 => cases r2; exact ⟨_, rfl, r1⟩
theorem call_str_int : CallR X (.type "str") (fun xs H Q => ∃ i, xs = [.int i] ∧ i.natAbs.log2 < 1920 ∧ Q (.str (toString i)) H) := by
  intro pins s σ H xs us Q I r h
  obtain ⟨i, rfl, hz, q⟩ := h
  obtain ⟨u, rfl, t, rfl⟩ := vals1 r
  exact PySem.P.str_of_int hz ⟨.str _, H, I.tok _, ⟨_, rfl⟩, q⟩
end
end L2
namespace L2
open PySem PySem.Spec PyProof.Rows
structure ObjM (h : Heap) (x dx C : Addr) (mA : Str → Option Value) : Prop where
  obj : h.get? x = some (PySem.W.instObj C dx)
  ns : h.Ns1 dx mA
  ne : dx ≠ x
theorem lookIn_ns {h : Heap} {dx : Addr} {mA : Str → Option Value} (n : h.Ns1 dx mA) : ∃ od, h.get? dx = some od ∧ ∀ name, PySem.W.lookIn name od = some (mA name) := by
  obtain ⟨o, es, ep, ho, hd, hk, _, hm⟩ := n
  refine ⟨o, ho, fun name => ?_⟩
  have e := hm name
  unfold nsFind findBy at e
  rw [← Array.find?_toList] at e
  unfold PySem.W.lookIn
  rw [hd]
  dsimp only
  split
  · rename_i y q
    rw [q] at e
    exact congrArg some e
  · rename_i q
    rw [q] at e
    have a : es.toList.any (·.refKey) = false := by
      rw [List.any_eq_false]
      intro y hy
      obtain ⟨z, t, hkey⟩ := hk y (Array.mem_toList_iff.mp hy)
      simp [DictEntry.refKey, hkey]
    have a' : ¬ es.toList.any (·.refKey) = true := by rw [a]; exact Bool.false_ne_true
    rw [if_neg a']
    exact congrArg some e
theorem ObjM.look {h : Heap} {x dx C : Addr} {mA : Str → Option Value} (I : ObjM h x dx C mA) : ∃ od, PySem.W.InstAt h x (PySem.W.instObj C dx) C (some od) ∧ ∀ name, PySem.W.lookIn name od = some (mA name) :=
  let ⟨od, ho, hl⟩ := lookIn_ns I.ns
  ⟨od, ⟨I.obj, rfl, rfl, ho⟩, hl⟩
section
variable {prog : Program} {w : World} {A : Around} {E : Value → Shared → Prop} {s : Shared} {K : PySem.W.Frag} {x dx C f : Addr} {mA : Str → Option Value} {name : Str} {v : Value}
end
theorem RelO.some_of {v : V} {o : Option Value} (r : RelO (some v) o) : ∃ u, o = some u ∧ RelV v u := by
  cases o with
  | none => exact (show False from r).elim
  | some u => exact ⟨u, rfl, r⟩
theorem handed_of {v : V} {u : Value} (r : RelV v u) : PySem.W.handedIn u = true := by
  cases v with
  | non => cases (show u = Value.none from r); rfl
  | bl b => cases (show u = Value.bool b from r); rfl
  | int i => obtain ⟨t, e⟩ := (show ∃ t, u = Value.int i t from r); cases e; rfl
  | str x => obtain ⟨t, e⟩ := (show ∃ t, u = Value.str x t from r); cases e; rfl
  | byt b => obtain ⟨t, e⟩ := (show ∃ t, u = Value.bytes b t from r); cases e; rfl
  | flt b => obtain ⟨t, e⟩ := (show ∃ t, u = Value.float b t from r); cases e; rfl
  | ref a => cases (show u = Value.ref a from r); rfl
  | ty n => cases (show u = Value.type n from r); rfl
section
variable {P : Program} {w : World} {H H' : Hp} {h h' : Heap} {a C dx : Addr} {fs fs' : List (Str × V)}
theorem ins_get (hok : HOk P w H h) (e : H a = some (.ins C dx fs)) : ∃ mA, ObjM h a dx C mA ∧ (∀ f, RelO (fs.lookup f) (mA f)) ∧ PySem.Within mA (fs.map (·.1)) ∧ fs.length ≤ 1000 ∧ H dx = some (.own a) := by
  obtain ⟨d, z, ne, ob, mA, n, r, q⟩ := (show ObjOk P w H h a (.ins C dx fs) from hok a _ e)
  exact ⟨mA, ⟨ob, n, ne⟩, r, q, z, d⟩
end
structure Cls (K : PySem.W.Frag) (C : Addr) : Prop where
  pg : PySem.W.plainGet K C Str.empty = true
  hd : PySem.W.hasDictIn K C = true
  po : PySem.W.plainOver K C = true
  sa : PySem.W.findIn K (.ref C) "__setattr__" = some (some (.builtin "object.__setattr__"))
theorem Cls.get {K : PySem.W.Frag} {C : Addr} (c : Cls K C) (f : Str) : PySem.W.plainGet K C f = true := c.pg
structure Meth (K : PySem.W.Frag) (C : Addr) (m : Str) (f : Addr) : Prop where
  at_ : PySem.W.findIn K (.ref C) m = some (some (.ref f))
  fn : PySem.W.isFn K (.ref f) = true
  kp : PySem.W.keepIn K (.ref f) = true
section
variable {X : Cx} {pins : List (Addr × Obj)} {σ : St} {H : Hp} {s : Shared} {a C dx : Addr} {fs : List (Str × V)} {f : Str} {v : V} {A : Around} {E : Value → Shared → Prop}
theorem attr_of {prog : Program} {w : World} {env : Env} {e : Expr} {f : Str} {pos : Pos} {s : Shared} {Q : Value → Shared → Prop} (hb : attributeBase e f env (eval e env) = eval e env)
    (h : wpAny (model prog w) A (eval e env) (fun o s₁ => wpAny (model prog w) A (getAttr o f true) Q E s₁) E s) : wpAny (model prog w) A (eval (.Attribute e f pos) env) Q E s :=
  Attribute_any_ h (by rw [arm_eval_Attribute, hb])
end
section
variable {X : Cx} {o e value : Expr} {f : Str} {pos pos' tpos : Pos} {ta tv : TE}
end
section
variable {X : Cx} {pins : List (Addr × Obj)} {σ : St} {H : Hp} {s : Shared} {A : Around} {E : Value → Shared → Prop} {Q : Value → Shared → Prop} {c : Value} {b : Bool}
inductive TyOf (K : PySem.W.Frag) (H : Hp) : V → Value → Prop where
  | non : TyOf K H .non (.type "NoneType")
  | bl (x : Bool) : TyOf K H (.bl x) (.type "bool")
  | int (i : Int) : TyOf K H (.int i) (.type "int")
  | str (x : Str) : TyOf K H (.str x) (.type "str")
  | flt (x : UInt64) : TyOf K H (.flt x) (.type "float")
  | lst {a : Addr} {xs : List V} (e : H a = some (.lst xs)) : TyOf K H (.ref a) (.type "list")
  | frz {a : Addr} {o : Obj} {xs : List V} (e : H a = some (.frz o (.lst xs))) : TyOf K H (.ref a) (.type "list")
  | tup {a : Addr} {xs : List V} (e : H a = some (.tup xs)) : TyOf K H (.ref a) (.type "tuple")
  | dK {a : Addr} {kvs : List (Key × V)} (e : H a = some (.dK kvs)) : TyOf K H (.ref a) (.type "dict")
  | dT {a : Addr} {kvs : List (List Key × V)} (e : H a = some (.dT kvs)) : TyOf K H (.ref a) (.type "dict")
  | ins {a C dx : Addr} {fs : List (Str × V)} (e : H a = some (.ins C dx fs)) (cl : Cls K C) (ha : PySem.W.findIn K (.ref C) "__class__" = some (some (.builtin "object.__class__")))
      (hn : PySem.W.specialIn K (.builtin "object.__class__") "__get__" = some (some (.builtin "getset_descriptor.__get__"))) (htk : PySem.W.takesIn K (.builtin "object.__class__") = some true)
      (hm : PySem.W.mroIn K C (.type "object") = some true) : TyOf K H (.ref a) (.ref C)
theorem isinst_ok {x : V} {u t : Value} (I : Inv X pins σ H s) (rx : RelV x u) (ty : TyOf X.K H x t) (e : PySem.W.kitOne X.K t c = some b) (h : ∀ tk, Q (.bool b) { s with toks := tk }) :
    wpAny (model X.prog X.w) A (call (.builtin "isinstance") [u, c]) Q E s := by
  cases ty with
  | non => cases (show u = Value.none from rx); exact PySem.W.kia_one PySem.W.kitx_none I.kIn True.intro e (fun z => nomatch z) h
  | bl y => cases (show u = Value.bool y from rx); exact PySem.W.kia_one PySem.W.kitx_bool I.kIn True.intro e (fun z => nomatch z) h
  | int i => obtain ⟨t, q⟩ := (show ∃ t, u = Value.int i t from rx); cases q; exact PySem.W.kia_one PySem.W.kitx_int I.kIn True.intro e (fun z => nomatch z) h
  | str y => obtain ⟨t, q⟩ := (show ∃ t, u = Value.str y t from rx); cases q; exact PySem.W.kia_one PySem.W.kitx_str I.kIn True.intro e (fun z => nomatch z) h
  | flt y => obtain ⟨t, q⟩ := (show ∃ t, u = Value.float y t from rx); cases q; exact PySem.W.kia_one PySem.W.kitx_float I.kIn True.intro e (fun z => nomatch z) h
  | @lst a xs ea =>
    cases (show u = Value.ref a from rx)
    obtain ⟨_, _, n, _, h1⟩ := (show ObjOk X.prog X.w H s.heap a (.lst xs) from I.hok a _ ea)
    exact PySem.W.kia_one PySem.W.kitx_list I.kIn ⟨_, h1, rfl⟩ e (fun z => nomatch z) h
  | @frz a ob xs ea =>
    cases (show u = Value.ref a from rx)
    obtain ⟨_, _, _, n, _, h1⟩ := (show ObjOk X.prog X.w H s.heap a (.frz ob (.lst xs)) from I.hok a _ ea)
    exact PySem.W.kia_one PySem.W.kitx_list I.kIn ⟨_, h1, rfl⟩ e (fun z => nomatch z) h
  | @tup a xs ea =>
    cases (show u = Value.ref a from rx)
    obtain ⟨_, _, _, p⟩ := (show ObjOk X.prog X.w H s.heap a (.tup xs) from I.hok a _ ea)
    obtain ⟨o, h1, h2, _⟩ := p
    exact PySem.W.kia_one PySem.W.kitx_tuple I.kIn ⟨o, h1, h2⟩ e (fun z => nomatch z) h
  | @dK a kvs ea =>
    cases (show u = Value.ref a from rx)
    obtain ⟨_, _, vs, _, p⟩ := (show ObjOk X.prog X.w H s.heap a (.dK kvs) from I.hok a _ ea)
    obtain ⟨o, es, ep, h1, h2, _⟩ := p
    exact PySem.W.kia_one PySem.W.kitx_dict I.kIn ⟨o, h1, h2.1⟩ e (fun z => nomatch z) h
  | @dT a kvs ea =>
    cases (show u = Value.ref a from rx)
    obtain ⟨_, _, xs, _, o, es, ep, h1, h2, _⟩ := (show ObjOk X.prog X.w H s.heap a (.dT kvs) from I.hok a _ ea)
    exact PySem.W.kia_one PySem.W.kitx_dict I.kIn ⟨o, h1, h2.1⟩ e (fun z => nomatch z) h
  | @ins a C dx fs ea cl ha hn htk hm =>
    cases (show u = Value.ref a from rx)
    obtain ⟨mA, O, _⟩ := ins_get I.hok ea
    obtain ⟨od, J, _⟩ := O.look
    exact PySem.W.kia_one (PySem.W.kitx_own (cl.get _) cl.hd ha hn htk hm) I.kIn J e (fun z => nomatch z) h
end
end L2
namespace L2
open PySem PySem.Spec PyProof.Rows
structure Room (k : Nat) (A : Around) : Prop where
  hd : A.handled = none
  dp : A.depth + 3 * k + 5 < recursionLimit
  un : A.units + 16 * k + 200 < cLine
theorem Room.mono {j k : Nat} {A : Around} (r : Room k A) (h : j ≤ k) : Room j A := ⟨r.hd, by have := r.dp; omega, by have := r.un; omega⟩
theorem Room.deeper {k : Nat} {A : Around} (r : Room (k + 1) A) (env : Env) : Room k (A.deeper env) :=
  ⟨r.hd, by have := r.dp; show A.depth + 1 + 3 * k + 5 < _; omega, by have := r.un; show A.units + 3 + 16 * k + 200 < _; omega⟩
theorem make_depth {A : Around} {C : Addr} {us : List Value} {kw : List (Str × Value)} : (A.under (.builtin "type.__call__" ⟨.ref C :: us, kw⟩)).depth = A.depth + 1 := by
  first | rfl | simp [Around.under, Code.weight, Code.isCreation, Code.isGuard, Code.isCaller, Code.frames, Code.isFrame, guardIds]
theorem make_units {A : Around} {C : Addr} {us : List Value} {kw : List (Str × Value)} : (A.under (.builtin "type.__call__" ⟨.ref C :: us, kw⟩)).units = A.units + 1 := by
  first | rfl | simp [Around.under, Code.cUnits, Code.frames, Code.isFrame]
theorem Room.make {k : Nat} {A : Around} (r : Room (k + 1) A) (C : Addr) (us : List Value) (kw : List (Str × Value)) : Room k (A.under (.builtin "type.__call__" ⟨.ref C :: us, kw⟩)) :=
  ⟨r.hd, by have := r.dp; rw [make_depth]; omega, by have := r.un; rw [make_units]; omega⟩
theorem Room.depth {k : Nat} {A : Around} (r : Room k A) : A.depth < recursionLimit := by have := r.dp; omega
theorem Room.units {k : Nat} {A : Around} (r : Room k A) : A.units + 64 < cLine := by have := r.un; omega
noncomputable def tNil : TA := fun _ H Q => Q [] H
noncomputable def tCons (ta : TE) (tr : TA) : TA := fun σ H Q => ta σ H fun x H1 => tr σ H1 fun xs H2 => Q (x :: xs) H2
section
variable {X : Cx} {e : Expr} {es : List Expr} {te : TE} {t : TA} {pos : Pos}
theorem pa_nil : PA X [] tNil := fun _ _ _ _ H Q I h => Calls.spliced_nil ⟨[], H, I, .nil, h⟩
theorem pa_cons (ha : PE X e te) (hr : PA X es t) (hs : starEach (e :: es) X.env = (false, eval e X.env) :: starEach es X.env := by rfl) : PA X (e :: es) (tCons te t) := by
  intro pos pins s σ H Q I h
  rw [hs]
  show wpAny _ _ (spliced ((false, eval e X.env) :: backTo pos (starEach es X.env))) _ _ s
  refine Calls.spliced_cons (thn (ha pins s σ H _ I h) fun u s1 ⟨x, H1, I1, r1, q1⟩ => ?_)
  exact thn (hr pos pins s1 σ H1 _ I1 q1) fun us s2 ⟨xs, H2, I2, r2, q2⟩ => ⟨x :: xs, H2, I2, .cons r1 r2, q2⟩
noncomputable def tTup (t : TA) : TE := fun σ H Q => t σ H fun xs H1 => xs.length ≤ sizeLine ∧ ∀ p, H1 p = none → Q (.ref p) (upd H1 p (.tup xs))
noncomputable def tLst (t : TA) : TE := fun σ H Q => t σ H fun xs H1 => xs.length ≤ sizeLine ∧ ∀ p, H1 p = none → Q (.ref p) (upd H1 p (.lst xs))
theorem pe_tup {x1} (h : PA X es t) : PE X (.Tuple es x1 pos) (tTup t) := by
  intro pins s σ H Q I hq
  refine wpAny_Tuple_spliced (thn (h pos pins s σ H _ I hq) fun us s1 ⟨xs, H1, I1, r, z, q⟩ => ⟨by rw [← r.length]; exact z, ?_⟩)
  have hf : H1 s1.heap.objs.size = none := I1.hok.fresh (Nat.le_refl _)
  refine ⟨.ref s1.heap.objs.size, upd H1 s1.heap.objs.size (.tup xs), I1.laid (t' := s1.toks) (fun b u e => Heap.get?_push_of_some _ e) (Nat.le_refl _) ?_, rfl, q _ hf⟩
  exact ⟨z, us, r, ⟨_, Heap.get?_push_size _ rfl, rfl, _, rfl⟩⟩
theorem pe_lst (h : PA X es t) : PE X (.List es pos) (tLst t) := by
  intro pins s σ H Q I hq
  refine wpAny_List_spliced (thn (h pos pins s σ H _ I hq) fun us s1 ⟨xs, H1, I1, r, z, q⟩ => ⟨by rw [← r.length]; exact z, ?_⟩)
  have hf : H1 s1.heap.objs.size = none := I1.hok.fresh (Nat.le_refl _)
  refine ⟨.ref s1.heap.objs.size, upd H1 s1.heap.objs.size (.lst xs), I1.laid (t' := s1.toks) (fun b u e => Heap.get?_push_of_some _ e) (Nat.le_refl _) ?_, rfl, q _ hf⟩
  exact ⟨z, us, 0, r, Heap.get?_push_size _ rfl⟩
end
noncomputable abbrev Sp := List V → Hp → VK → XK → Prop
noncomputable abbrev CXT := List Env → Hp → Shared → XK → Value → Shared → Prop
structure Env0 (P : Program) (w : World) (K : PySem.W.Frag) (mg : Str → Option Value) (base : Heap) (A : Around) (outer : List Env) (s : Shared) (H : Hp) : Prop where
  frames : A.frames = some outer
  mod : Mod K mg base
  bs : ∀ b o, base.get? b = some o → s.heap.get? b = some o ∧ H b = none
  bsz : base.objs.size ≤ s.heap.objs.size
  funs : s.heap.FunFrames base outer
  frf : ∀ b ∈ frs outer, H b = none
  hok : HOk P w H s.heap
  bare : AllBare s.gens
noncomputable def CE (outer : List Env) (P : Program) (w : World) (H : Hp) (s : Shared) (Q : VK) (u : Value) (s' : Shared) : Prop :=
  ∃ v H', s'.os = s.os ∧ AllBare s'.gens ∧ Un (frs outer) [] H H' s.heap s'.heap ∧ HOk P w H' s'.heap ∧ RelV v u ∧ Q v H'
noncomputable def CR (CX : CXT) (outer : List Env) (P : Program) (w : World) (H : Hp) (s : Shared) (Q : VK) (E : XK) (r : Result) (s' : Shared) : Prop :=
  match r with
  | .ok (.ret u) => CE outer P w H s Q u s'
  | .ok _ => False
  | .error e => CX outer H s E e s'
structure FnOk (P : Program) (w : World) (K : PySem.W.Frag) (mg : Str → Option Value) (base : Heap) (CX : CXT) (k : Nat) (f : Addr) (fd : FuncData) (ps : List Str) (sp : Sp) : Prop where
  len : ∀ vs H Q E, sp vs H Q E → vs.length = ps.length
  run : ∀ (A : Around) (outer : List Env) (s : Shared) (H : Hp) (args : Args) (us : List Value) (vs : List V) (Q : VK) (E : XK), Room k A → Env0 P w K mg base A outer s H → BindsTo s fd args (ps.zip us) → Vals vs us → sp vs H Q E →
    codeAny (model P w) A (.call (.ref f) args) (CR CX outer P w H s Q E) s
theorem Env0.make {P : Program} {w : World} {K : PySem.W.Frag} {mg : Str → Option Value} {base : Heap} {A : Around} {outer : List Env} {s : Shared} {H : Hp} (e : Env0 P w K mg base A outer s H) (C : Addr) (us : List Value) (kw : List (Str × Value)) :
    Env0 P w K mg base (A.under (.builtin "type.__call__" ⟨.ref C :: us, kw⟩)) outer s H := ⟨by first | exact e.frames | (simpa [Around.under, Code.envs, Code.isFrame, pushEnvs] using e.frames), e.mod, e.bs, e.bsz, e.funs, e.frf, e.hok, e.bare⟩
section
variable {X : Cx} {pins : List (Addr × Obj)} {σ : St} {H : Hp} {s s' : Shared}
theorem Inv.env0 (I : Inv X pins σ H s) : Env0 X.prog X.w X.K X.mg X.base X.A X.stack s H :=
  ⟨I.ok.frames, I.ok.mod, I.bs, Nat.le_trans I.ok.bsz I.sz, I.stack, I.stkFree, I.hok, I.bare⟩
theorem Inv.after {Q : VK} {u : Value} (I : Inv X pins σ H s) (h : CE X.stack X.prog X.w H s Q u s') : EP X pins σ Q u s' := by
  obtain ⟨v, H', os, bare, un, hok, r, q⟩ := h
  obtain ⟨hh, g, d, t, os'⟩ := s'
  obtain rfl : os' = s.os := os
  exact ⟨v, H', I.call (h' := hh) (g' := g) (d' := d) (t' := t) (ch := []) un hok bare (fun b z => absurd z (by simp)), r, q⟩
end
noncomputable def tCall (sp : Sp) (dvs : List V) (E : XK) (t : TA) : TE := fun σ H Q => t σ H fun vs H1 => sp (vs ++ dvs) H1 Q E
noncomputable def Binds (K : PySem.W.Frag) (fd : FuncData) (ps : List Str) (ds : List Value) : Prop :=
  ∀ (s : Shared) (us : List Value), K.In s.heap → (us ++ ds).length = ps.length → BindsTo s fd ⟨us, []⟩ (ps.zip (us ++ ds))
theorem Binds.all {K : PySem.W.Frag} {fd : FuncData} {ps : List Str} (h : ∀ us : List Value, us.length = ps.length → bindArgs fd ⟨us, []⟩ = pure (ps.zip us)) : Binds K fd ps [] := fun s us _ hl => by
  rw [List.append_nil] at hl ⊢
  exact .of_eq (h us hl)
noncomputable def Passes (CX : CXT) (X : Cx) (E : XK) : Prop := ∀ (pins : List (Addr × Obj)) (σ : St) (H : Hp) (s : Shared) (e : Value) (s' : Shared), Inv X pins σ H s → CX X.stack H s E e s' → X.xe e s'
section
variable {X : Cx} {CX : CXT} {k : Nat} {f C : Addr} {fd : FuncData} {ps : List Str} {sp : Sp} {dvs : List V} {ds : List Value} {E : XK} {x m : Str} {p pos apos : Pos} {e o : Expr} {es : List Expr} {ta : TE} {t : TA}
theorem run_fn {pins : List (Addr × Obj)} {σ : St} {H : Hp} {s : Shared} {Q : VK} {us : List Value} {vs : List V} (F : FnOk X.prog X.w X.K X.mg X.base CX k f fd ps sp) (hr : Room k X.A) (hb : Binds X.K fd ps ds) (hd : Vals dvs ds) (hx : Passes CX X E)
    (I : Inv X pins σ H s) (r : Vals vs us) (h : sp (vs ++ dvs) H Q E) : wpAny (model X.prog X.w) X.A (call (.ref f) us) (EP X pins σ Q) X.xe s := by
  have r2 : Vals (vs ++ dvs) (us ++ ds) := r.append hd
  have hl : (us ++ ds).length = ps.length := by rw [← r2.length]; exact F.len _ _ _ _ h
  refine wpAny_call (codeAny_mono (F.run X.A X.stack s H ⟨us, []⟩ (us ++ ds) (vs ++ dvs) Q E hr I.env0 (hb s us I.kIn hl) r2 h) fun r s' hq => ?_)
  cases r with
  | error e => exact hx pins σ H s e s' I hq
  | ok fl =>
    cases fl with
    | ret u => exact I.after hq
    | next => exact False.elim hq
    | brk => exact False.elim hq
    | cont => exact False.elim hq
theorem pe_call (F : FnOk X.prog X.w X.K X.mg X.base CX k f fd ps sp) (hr : Room k X.A) (hg : Gl X x) (hm : X.mg x = some (.ref f)) (hk : PySem.W.keepIn X.K (.ref f) = true) (hb : Binds X.K fd ps ds) (hd : Vals dvs ds) (hx : Passes CX X E)
    (ha : PA X (e :: es) t) (hdb : (x == ("__debug__" : Str)) = false := by decide) (he : starEach (e :: es) X.env = (false, eval e X.env) :: starEach es X.env := by rfl) (hpl : (backTo pos (starEach es X.env)).any (·.1) = false := by rfl) :
    PE X (.Call (.Name x p) (e :: es) [] pos) (tCall sp dvs E t) := by
  intro pins s σ H Q I h
  refine wpAny_Call_Name_kw (ld_glob I hg hm ?_ hdb)
  refine PySem.W.callWith_K (h₀ := X.base) I.ok.mod.kin hk (thn (ha pos pins s σ H _ I h) fun us s1 ⟨vs, H1, I1, r, q⟩ => ⟨I1.kIn, ?_⟩) he hpl
  exact run_fn F hr hb hd hx I1 r q
end
section
variable {X : Cx} {CX : CXT} {k : Nat} {f C : Addr} {fd : FuncData} {ps ks : List Str} {sp : Sp} {E : XK} {x m : Str} {p pos apos kpos : Pos} {e o : Expr} {es : List Expr} {kws : List Keyword} {te ta : TE} {t tk : TA} {nm : Option Str}
structure KBinds (K : PySem.W.Frag) (fd : FuncData) (ps ks : List Str) (g : List Value → List Value → List Value) (gV : List V → List V → List V) : Prop where
  to : ∀ (s : Shared) (us ws : List Value), K.In s.heap → (g us ws).length = ps.length → BindsTo s fd ⟨us, ks.zip ws⟩ (ps.zip (g us ws))
  rel : ∀ {vs : List V} {us : List Value} {zs : List V} {ws : List Value}, Vals vs us → Vals zs ws → Vals (gV vs zs) (g us ws)
variable {g : List Value → List Value → List Value} {gV : List V → List V → List V}
end
structure FnScope (N P : List Str) (sc : Scope) : Prop where
  kind : sc.kind = .function
  co : sc.isCoroutine = false
  gen : sc.isGenerator = false
  nd : N.Nodup
  pre : N.take P.length = P
  par : ∀ x ∈ P, sc.names.lookup x = some .local ∨ sc.names.lookup x = some .cell
  nofree : ∀ y ∈ sc.names, y.2 ≠ .free
theorem bindL_out {kindOf : Str → Option NameKind} {x : Str} : ∀ {binds : List (Str × Value)} {m : Str → Option Value}, (∀ v, (x, v) ∉ binds) → bindL kindOf binds m x = m x
  | [], _, _ => rfl
  | (n, v) :: r, m, h => by
    unfold bindL
    rw [bindL_out fun w hw => h w (List.mem_cons_of_mem _ hw)]
    split
    · have : x ≠ n := by rintro rfl; exact h v List.mem_cons_self
      simp [this]
    · rfl
theorem bindC_out {kindOf : Str → Option NameKind} {x : Str} : ∀ {binds : List (Str × Value)} {m : Str → Option Value}, (∀ v, (x, v) ∉ binds) → bindC kindOf binds m x = m x
  | [], _, _ => rfl
  | (n, v) :: r, m, h => by
    unfold bindC
    rw [bindC_out fun w hw => h w (List.mem_cons_of_mem _ hw)]
    split
    · rfl
    · have : x ≠ n := by rintro rfl; exact h v List.mem_cons_self
      simp [this]
theorem bindL_get {kindOf : Str → Option NameKind} {x : Str} {v : Value} : ∀ {P : List Str} {vs : List Value} {i : Nat} {m : Str → Option Value}, P.Nodup → P[i]? = some x → vs[i]? = some v → kindOf x = some .local →
    bindL kindOf (P.zip vs) m x = some v
  | [], _, _, _, _, h, _, _ => by simp at h
  | _ :: _, [], _, _, _, _, h, _ => by simp at h
  | p :: P, w :: vs, 0, m, nd, h1, h2, hk => by
    simp at h1 h2; subst h1; subst h2
    show bindL kindOf ((p, w) :: P.zip vs) m p = _
    unfold bindL
    rw [bindL_out fun v hv => (List.nodup_cons.mp nd).1 (List.of_mem_zip hv).1, if_pos hk]
    simp
  | p :: P, w :: vs, i + 1, m, nd, h1, h2, hk => by
    show bindL kindOf ((p, w) :: P.zip vs) m x = _
    unfold bindL
    exact bindL_get (i := i) (List.nodup_cons.mp nd).2 (by simpa using h1) (by simpa using h2) hk
theorem bindC_get {kindOf : Str → Option NameKind} {x : Str} {v : Value} : ∀ {P : List Str} {vs : List Value} {i : Nat} {m : Str → Option Value}, P.Nodup → P[i]? = some x → vs[i]? = some v → kindOf x ≠ some .local →
    bindC kindOf (P.zip vs) m x = some v
  | [], _, _, _, _, h, _, _ => by simp at h
  | _ :: _, [], _, _, _, _, h, _ => by simp at h
  | p :: P, w :: vs, 0, m, nd, h1, h2, hk => by
    simp at h1 h2; subst h1; subst h2
    show bindC kindOf ((p, w) :: P.zip vs) m p = _
    unfold bindC
    rw [bindC_out fun v hv => (List.nodup_cons.mp nd).1 (List.of_mem_zip hv).1, if_neg hk]
    simp
  | p :: P, w :: vs, i + 1, m, nd, h1, h2, hk => by
    show bindC kindOf ((p, w) :: P.zip vs) m x = _
    unfold bindC
    exact bindC_get (i := i) (List.nodup_cons.mp nd).2 (by simpa using h1) (by simpa using h2) hk
noncomputable def start (N : List Str) (vs : List V) : St := vs.map some ++ List.replicate (N.length - vs.length) none
noncomputable def cxOf (CX : CXT) (P : Program) (w : World) (K : PySem.W.Frag) (mg : Str → Option Value) (base : Heap) (N : List Str) (qual : Str) (scope : Scope) (f : Addr) (cd : Value) (A : Around) (outer : List Env) (s : Shared) (H : Hp) (E : XK) : Cx where
  prog := P
  w := w
  K := K
  mg := mg
  base := base
  A := A.deeper (envOfC qual scope s.heap.objs.size f cd)
  N := N
  s₀ := s
  H₀ := H
  env := envOfC qual scope s.heap.objs.size f cd
  outer := outer
  stack := envOfC qual scope s.heap.objs.size f cd :: outer
  ex := []
  calm := true
  fn := fun _ => true
  pn := []
  xe := fun e s' => wpAny (model P w) (A.deeper (envOfC qual scope s.heap.objs.size f cd)) (leaving (envOfC qual scope s.heap.objs.size f cd) e) (fun _ s'' => CX outer H s E e s'') (fun e' s'' => CX outer H s E e' s'') s'
theorem cell_has {sc : Scope} {n : Nat} {x : Str} (h : sc.names.lookup x = some .cell) : ∃ c, (cellsFrom n sc.names []).lookup x = some c := by
  have q := PySem.W.cellsFrom_some sc.names n [] (.inl h)
  exact Option.isSome_iff_exists.mp q
theorem inv_start {CX : CXT} {P : Program} {w : World} {K : PySem.W.Frag} {mg : Str → Option Value} {base : Heap} {N ps : List Str} {qual : Str} {scope : Scope} {f : Addr} {cd : Value} {A : Around} {outer : List Env} {s s1 : Shared} {H : Hp} {E : XK} {us : List Value} {vs : List V}
    (S : FnScope N ps scope) (hd : A.handled = none) (e0 : Env0 P w K mg base A outer s H) (hl : vs.length = ps.length) (r : Vals vs us)
    (x : InCallC s s.heap.objs.size (bindL (envOfC qual scope s.heap.objs.size f cd).kindOf (ps.zip us) fun _ => none) (cellsFrom (s.heap.objs.size + 1) scope.names []) (bindC (envOfC qual scope s.heap.objs.size f cd).kindOf (ps.zip us) fun _ => none) s1) :
    Inv (cxOf CX P w K mg base N qual scope f cd A outer s H E) [] (start N vs) H s1 := by
  have hpl : ps.length ≤ N.length := by have := congrArg List.length S.pre; rw [List.length_take] at this; omega
  obtain ⟨h1, tk, rfl, hk⟩ := x.done
  have noA : ∀ b : Addr, b ∉ (cxOf CX P w K mg base N qual scope f cd A outer s H E).ex := fun b z => absurd (show b ∈ ([] : List Addr) from z) (by simp)
  refine ⟨⟨e0.mod, S.kind, rfl, rfl, Nat.le_refl _, fun y z c h1 h2 => ?_, fun y hy => ?_, fun y c _ h => ?_, fun _ => hd, Around.frames_deeper e0.frames, .inr ⟨rfl, rfl⟩, fun b z => absurd z (noA b), e0.bs, e0.bsz, fun b _ _ => noA b, fun b z => absurd z (noA b), e0.funs, e0.frf⟩,
    rfl, e0.bare, Un.kept hk, ⟨_, x.toInCall.ns, fun i y v h1 h2 h3 => ?_⟩, fun y c h => ⟨_, x.cell y c h⟩, e0.hok.fresh (Nat.le_refl _), fun y c h => ?_, fun p hp => absurd (show p ∈ ([] : List (Addr × Obj)) from hp) (by simp), e0.hok.kept hk, ?_⟩
  · exact name_of_addr x.apart (PySem.mem_of_lookup h1) (PySem.mem_of_lookup h2)
  · have hy : scope.names.lookup y = some .cell ∨ scope.names.lookup y = some .free := hy
    rcases hy with hy | hy
    · exact cell_has hy
    · exact absurd rfl (S.nofree _ (PySem.mem_of_lookup hy))
  · exact Nat.le_of_lt (x.above y c (PySem.mem_of_lookup h))
  · have hi : i < vs.length := by
      unfold start at h2
      by_cases hi : i < vs.length
      · exact hi
      · rw [List.getElem?_append_right (by simpa using hi)] at h2
        rw [List.getElem?_replicate] at h2
        split at h2 <;> cases h2
    have ha : vs[i]? = some v := by
      unfold start at h2
      rw [List.getElem?_append_left (by simpa using hi), List.getElem?_map] at h2
      cases e : vs[i]? with
      | none => rw [e] at h2; cases h2
      | some a => rw [e] at h2; cases h2; rfl
    obtain ⟨u, hu, rv⟩ := r.get ha
    have hp : ps[i]? = some y := by
      rw [← S.pre, List.getElem?_take_of_lt (by omega)]; exact h1
    have ndP : ps.Nodup := by rw [← S.pre]; exact S.nd.sublist (List.take_sublist _ _)
    refine ⟨u, rv, ?_⟩
    rcases S.par y (List.mem_of_getElem? hp) with k | k
    · exact .inl ⟨k, bindL_get ndP hp hu k⟩
    · obtain ⟨c, e⟩ := cell_has (n := s.heap.objs.size + 1) k
      refine .inr ⟨.inl k, c, e, ?_⟩
      have q := x.cell y c e
      rw [bindC_get ndP hp hu (by show scope.names.lookup y ≠ _; rw [k]; decide)] at q
      exact q
  · exact e0.hok.fresh (Nat.le_of_lt (x.above y c (PySem.mem_of_lookup h)))
  · unfold start
    show _ = N.length
    rw [List.length_append, List.length_map, List.length_replicate]
    omega
theorem fn_of {CX : CXT} {P : Program} {w : World} {K : PySem.W.Frag} {mg : Str → Option Value} {base : Heap} {k : Nat} {f : Addr} {name qual : Str} {params : Arguments} {body : List Stmt} {scope : Scope} {dV kV doc pm cdv ct oc : Value} {an od : Option Addr}
    {osl : Array (Option Value)} {N ps : List Str} {sp : Sp} (lk : K.lookup f = some ⟨oc, od, .func (PySem.W.fnOf name qual params body scope dV kV doc pm an cdv ct), osl⟩) (hcd : PySem.W.codeIn K cdv qual = true) (S : FnScope N ps scope)
    (len : ∀ vs H Q E, sp vs H Q E → vs.length = ps.length)
    (hbody : ∀ (A : Around) (outer : List Env) (s : Shared) (H : Hp) (vs : List V) (Q : VK) (E : XK), Room k (A.deeper (envOfC qual scope s.heap.objs.size f cdv)) → sp vs H Q E →
      ∃ t, PSs (cxOf CX P w K mg base N qual scope f cdv A outer s H E) body t ∧ t { nx := fun _ H' => Q .non H', rt := Q } (start N vs) H) :
    FnOk P w K mg base CX (k + 1) f (PySem.W.fnOf name qual params body scope dV kV doc pm an cdv ct) ps sp := by
  refine ⟨len, fun A outer s H args us vs Q E hr e0 hb r hsp => ?_⟩
  have hl := len _ _ _ _ hsp
  have KX : K.In s.heap := e0.mod.kin.keeps fun b o e => (e0.bs b o e).1
  have lim : s.heap.NoLimit := e0.mod.nolimit.keeps fun b o e => (e0.bs b o e).1
  have hkind : ∀ y ∈ ps.zip us, scope.names.lookup y.1 = some .local ∨ (scope.names.lookup y.1 = some .cell ∧ ((cellsFrom (s.heap.objs.size + 1) scope.names []).lookup y.1).isSome = true) := fun ⟨n, v⟩ hy => by
    rcases S.par n (List.of_mem_zip hy).1 with q | q
    · exact .inl q
    · exact .inr ⟨q, PySem.W.cellsFrom_some _ _ _ (.inl q)⟩
  refine codeAny_call_function hr.depth (KX _ _ lk) rfl S.co S.gen rfl (PySem.W.codeRec_of KX hcd) (hb _ _ _ _ ?_)
  refine wpAny_newFunctionEnv_cells S.kind hkind fun env he s1 x => ?_
  subst he
  refine ⟨lim.keeps x.toInCall.keep, codeAny_func ?_⟩
  obtain ⟨t, ht, hq⟩ := hbody A outer s H vs Q E (hr.deeper _) hsp
  have I : Inv (cxOf CX P w K mg base N qual scope f cdv A outer s H E) [] (start N vs) H s1 := inv_start S hr.hd e0 hl r x
  refine wpAny_mono (ht [] s1 (start N vs) H _ I hq) (fun fl s' hs => ?_) fun e s' hs => hs
  have fin : ∀ {σ' : St} {H' : Hp} {v : V} {u : Value}, Inv (cxOf CX P w K mg base N qual scope f cdv A outer s H E) [] σ' H' s' → RelV v u → Q v H' → CE outer P w H s Q u s' :=
    fun {σ' H' v u} J rv q => ⟨v, H', J.os, J.bare, J.base, J.hok, rv, q⟩
  cases fl with
  | ret u =>
    obtain ⟨v, σ', H', J, rv, q⟩ := hs
    exact fin J rv q
  | next =>
    obtain ⟨σ', H', J, q⟩ := hs
    exact fin (v := V.non) (u := Value.none) J rfl q
  | brk =>
    obtain ⟨_, _, _, q⟩ := hs
    exact False.elim q
  | cont =>
    obtain ⟨_, _, _, q⟩ := hs
    exact False.elim q
end L2
namespace L2
open PySem PySem.Spec PyProof.Rows
section
variable {X : Cx} {x : Str} {p pos : Pos} {e : Expr} {es : List Expr} {t : TA} {id T : String} {r : List V → Hp → VK → Prop}
noncomputable def tCB (r : List V → Hp → VK → Prop) (t : TA) : TE := fun σ H Q => t σ H fun vs H1 => r vs H1 Q
theorem pe_callB (hc : CallR X (.builtin id) r) (hg : Gl X x) (hm : X.mg x = none) (hv : bootBuiltins x = some (.builtin id)) (ha : PA X (e :: es) t) (hn : x ≠ "__name__" := by decide) (hdb : (x == ("__debug__" : Str)) = false := by decide)
    (he : starEach (e :: es) X.env = (false, eval e X.env) :: starEach es X.env := by rfl) (hpl : (backTo pos (starEach es X.env)).any (·.1) = false := by rfl) : PE X (.Call (.Name x p) (e :: es) [] pos) (tCB r t) := by
  intro pins s σ H Q I h
  refine wpAny_Call_Name_kw (ld_blt I hg hm hv ?_ hn hdb)
  exact PyProof.Rows.callWith_builtin1 (thn (ha pos pins s σ H _ I h) fun us s1 ⟨vs, H1, I1, r1, q1⟩ => hc pins s1 σ H1 vs us Q I1 r1 q1) he hpl
theorem pe_callTy (hc : CallR X (.type T) r) (hg : Gl X x) (hm : X.mg x = none) (hv : bootBuiltins x = some (.type T)) (ha : PA X (e :: es) t) (hn : x ≠ "__name__" := by decide) (hdb : (x == ("__debug__" : Str)) = false := by decide)
    (he : starEach (e :: es) X.env = (false, eval e X.env) :: starEach es X.env := by rfl) (hpl : (backTo pos (starEach es X.env)).any (·.1) = false := by rfl) : PE X (.Call (.Name x p) (e :: es) [] pos) (tCB r t) := by
  intro pins s σ H Q I h
  refine wpAny_Call_Name_kw (ld_blt I hg hm hv ?_ hn hdb)
  exact PyProof.Rows.callWith_type1 (thn (ha pos pins s σ H _ I h) fun us s1 ⟨vs, H1, I1, r1, q1⟩ => hc pins s1 σ H1 vs us Q I1 r1 q1) he hpl
end
end L2
namespace HT
open PySem PyProof.Rows
section
open PySem.SeqAt
open PySem.AutoSeq1 (wpAny_loadPart')
open PySem.MeetsSeq PySem.MeetsSeq2 PySem.MeetsSeq3
end
section
variable {prog : Program} {w : World} {A : Around} {E : Value → Shared → Prop} {s : Shared}
theorem cat_tup {t b : Addr} {vs ws : List Value} {Q : Value → Shared → Prop} (ht : IsTup s.heap t vs.toArray) (hb : IsTup s.heap b ws.toArray) (hv : vs ≠ [])
    (h1 : ws = [] → Q (.ref t) s) (h2 : ws ≠ [] → Q (.ref s.heap.objs.size) { s with heap := s.heap.push { cls := .type "tuple", data := .seq (vs ++ ws).toArray } })
    (hsz : vs.length + ws.length ≤ sizeLine) : wpAny (model prog w) A (binaryOp .Add (.ref t) (.ref b)) Q E s := by
  obtain ⟨⟨cls, dd, data, sl⟩, ho, hc, n, hd⟩ := id ht
  obtain ⟨⟨cls2, dd2, data2, sl2⟩, ho2, hc2, n2, hd2⟩ := id hb
  simp only at hc hd hc2 hd2
  subst hc hd hc2 hd2
  have e : vs.toArray ++ ws.toArray = (vs ++ ws).toArray := by simp
  by_cases hw : ws = []
  · exact concat_meets ⟨_, ho, rfl⟩ ⟨_, ho2, rfl⟩ noFill_tuple_add seq_tuple_add PySem.F.slot_tuple_add PySem.F.entry_tuple_add (PySem.F.args_tuple_add_2 _ _)
      (tuple_addW1 t b vs.toArray ws.toArray n n2 dd dd2 sl sl2 (by simpa using hv) (by simp [hw])) ⟨ho, ho2, h1 hw⟩
  · refine concat_meets ⟨_, ho, rfl⟩ ⟨_, ho2, rfl⟩ noFill_tuple_add seq_tuple_add PySem.F.slot_tuple_add PySem.F.entry_tuple_add (PySem.F.args_tuple_add_2 _ _)
      (tuple_addW2 t b vs.toArray ws.toArray n n2 dd dd2 sl sl2 (by simpa using hv) (by simpa using hw) (by rw [List.size_toArray, List.size_toArray]; exact hsz)) ⟨ho, ho2, ?_⟩
    rw [e]
    exact h2 hw
noncomputable def sIx (n d : Nat) : Option Int → Nat
  | none => d
  | some v => if v < 0 then (v + (n : Int)).toNat else min v.toNat n
theorem sIx_none (n d : Nat) : sIx n d none = d := rfl
theorem sIx_nat (n d k : Nat) : sIx n d (some (k : Int)) = min k n := by
  show (if (k : Int) < 0 then ((k : Int) + (n : Int)).toNat else min (k : Int).toNat n) = min k n
  rw [if_neg (by omega), Int.toNat_natCast]
end
end HT
namespace L2
open PySem PySem.Spec PyProof.Rows
noncomputable abbrev TO := St → Hp → (Option Int → Hp → Prop) → Prop
noncomputable def PO (X : Cx) (e : Option Expr) (t : TO) : Prop :=
  ∀ (pins : List (Addr × Obj)) (s : Shared) (σ : St) (H : Hp) (Q : Option Int → Hp → Prop), Inv X pins σ H s → t σ H Q →
    wpAny (model X.prog X.w) X.A (evalPart e X.env) (fun u s' => ∃ o H', Inv X pins σ H' s' ∧ IsPart u o ∧ Q o H') X.xe s
noncomputable def tNoPart : TO := fun _ H Q => Q none H
noncomputable def tPart (t : TE) : TO := fun σ H Q => t σ H fun x H1 => ∃ i, x = .int i ∧ Q (some i) H1
theorem intsAre_of {ns : List Int} : ∀ {us : List Value}, Vals (ns.map V.int) us → IntsAre us ns := by
  induction ns with
  | nil => intro us r; rw [List.map_nil] at r; cases r; exact .nil
  | cons n ns ih =>
    intro us r
    rw [List.map_cons] at r
    cases r with
    | cons r1 r2 =>
      obtain ⟨t, e⟩ := r1
      subst e
      exact .cons n t (ih r2)
section
variable {X : Cx} {e : Expr} {te : TE} {lo hi : Option Expr} {tl th : TO} {pos p2 : Pos}
theorem po_none : PO X none tNoPart := by
  intro pins s σ H Q I h
  rw [evalPart_none]
  exact wpAny_pure ⟨none, H, I, .none, h⟩
theorem po_some (h : PE X e te) : PO X (some e) (tPart te) := by
  intro pins s σ H Q I hw
  rw [evalPart_some]
  refine thn (h pins s σ H _ I hw) fun u s1 ⟨x, H1, I1, r1, q1⟩ => ?_
  obtain ⟨i, rfl, q⟩ := q1
  obtain ⟨t, rfl⟩ := r1
  exact ⟨some i, H1, I1, .int i t, q⟩
noncomputable def SlR (X : Cx) (r : V → Option Int → Option Int → Hp → VK → Prop) : Prop :=
  ∀ (pins : List (Addr × Obj)) (s : Shared) (σ : St) (H : Hp) (x : V) (v vl vu : Value) (lo hi : Option Int) (sl : Addr) (Q : VK), Inv X pins σ H s → RelV x v → s.heap.IsSliceOf sl vl vu .none → IsPart vl lo → IsPart vu hi → r x lo hi H Q →
    ∃ T id, typeLookup (.type T) "__getitem__" = pure (some (.builtin id)) ∧ s.TypeIs v T ∧ wpAny (model X.prog X.w) X.A (getItem v (.ref sl)) (EP X pins σ Q) X.xe s
noncomputable def tSl (r : V → Option Int → Option Int → Hp → VK → Prop) (te : TE) (tl th : TO) : TE := fun σ H Q => te σ H fun x H1 => tl σ H1 fun l H2 => th σ H2 fun u H3 => r x l u H3 Q
theorem pe_slice {r : V → Option Int → Option Int → Hp → VK → Prop} (hr : SlR X r) (he : PE X e te) (hl : PO X lo tl) (hu : PO X hi th) : PE X (.Subscript e (.Slice lo hi none p2) pos) (tSl r te tl th) := by
  intro pins s σ H Q I h
  refine Subscript_ (thn (he pins s σ H _ I h) fun v s1 ⟨x, H1, I1, r1, q1⟩ => ?_)
  refine wpAny_Slice (thn (hl pins s1 σ H1 _ I1 q1) fun vl s2 ⟨l, H2, I2, pl, q2⟩ => thn (hu pins s2 σ H2 _ I2 q2) fun vu s3 ⟨u, H3, I3, pu, q3⟩ => ?_)
  rw [evalPart_none]
  refine wpAny_pure ?_
  have I4 : Inv X pins σ H3 { s3 with heap := s3.heap.push { cls := .type "slice", data := .fields #[vl, vu, .none] } } := I3.kept (t' := s3.toks) fun b ob q => Heap.get?_push_of_some _ q
  obtain ⟨T, id, hT, ht, hg⟩ := hr pins { s3 with heap := s3.heap.push { cls := .type "slice", data := .fields #[vl, vu, .none] } } σ H3 x v vl vu l u s3.heap.objs.size Q I4 r1 (Heap.IsSliceOf.new ..) pl pu q3
  show wpAny (model X.prog X.w) X.A (subscriptTail e (.Slice lo hi none p2) v (.ref s3.heap.objs.size)) (EP X pins σ Q) X.xe { s3 with heap := s3.heap.push { cls := .type "slice", data := .fields #[vl, vu, .none] } }
  exact tail_any (ops := [.ref s3.heap.objs.size, v]) ht hT hg (by with_unfolding_all rfl)
noncomputable def cutV (xs : List V) (lo hi : Option Int) : List V := (xs.drop (HT.sIx xs.length 0 lo)).take (HT.sIx xs.length xs.length hi - HT.sIx xs.length 0 lo)
theorem cutV_length (xs : List V) (lo hi : Option Int) : (cutV xs lo hi).length ≤ xs.length := by
  unfold cutV
  rw [List.length_take, List.length_drop]
  omega
noncomputable def rCatT (K : PySem.W.Frag) : R2 := fun x y H Q => ∃ a b xs ys, x = .ref a ∧ y = .ref b ∧ SqT K H a xs ∧ SqT K H b ys ∧ xs ≠ [] ∧ xs.length + ys.length ≤ sizeLine ∧
  (ys = [] → Q (.ref a) H) ∧ (ys ≠ [] → ∀ p, H p = none → Q (.ref p) (upd H p (.tup (xs ++ ys))))
theorem Vals.nil_iff {xs : List V} {us : List Value} (r : Vals xs us) : us = [] ↔ xs = [] := by
  cases r with
  | nil => simp
  | cons _ _ => simp
theorem op_catT : OpR X (binaryOp .Add) (rCatT X.K) := by
  intro pins s σ H x y v u Q I rx ry h
  obtain ⟨a, b, xs, ys, rfl, rfl, ha, hb, hx, hz, q1, q2⟩ := h
  cases rx
  cases ry
  obtain ⟨its, r1, p1, _⟩ := I.tuple ha
  obtain ⟨its2, r2, p2, _⟩ := I.tuple hb
  refine HT.cat_tup p1 p2 (fun z => hx (r1.nil_iff.mp z)) (fun z => ⟨.ref a, H, I, rfl, q1 (r2.nil_iff.mp z)⟩) (fun z => ?_) (by rw [← r1.length, ← r2.length]; exact hz)
  refine ⟨.ref s.heap.objs.size, _, I.laid (t' := s.toks) (o := .tup (xs ++ ys)) (fun b ob q => Heap.get?_push_of_some _ q) (Nat.le_refl _) ?_, rfl, q2 (fun w => z (r2.nil_iff.mpr w)) _ (I.hok.fresh (Nat.le_refl _))⟩
  exact ⟨by rw [List.length_append]; exact hz, _, r1.append r2, IsTup.new _ _⟩
end
end L2
namespace L2
open PySem PySem.Spec PyProof.Rows
noncomputable def ixN (n : Nat) (i : Int) : Option Nat := if 0 ≤ i then (if i < n then some i.toNat else none) else if -(n : Int) ≤ i then some (i + n).toNat else none
noncomputable def atI {α : Type} (xs : List α) (i : Int) : Option α := (ixN xs.length i).bind fun j => xs[j]?
theorem ixN_seq {n : Nat} {i : Int} {j : Nat} (h : ixN n i = some j) : seqIndex? i n = some j ∧ j < n ∧ -(n : Int) ≤ i ∧ i < n := by
  unfold ixN at h
  by_cases h0 : 0 ≤ i
  · rw [if_pos h0] at h
    by_cases h1 : i < n
    · rw [if_pos h1] at h
      have e : i.toNat = j := Option.some.inj h
      exact ⟨by rw [seqIndex_of h0 h1, e], by omega, by omega, h1⟩
    · rw [if_neg h1] at h; cases h
  · rw [if_neg h0] at h
    by_cases h1 : -(n : Int) ≤ i
    · rw [if_pos h1] at h
      have e : (i + n).toNat = j := Option.some.inj h
      exact ⟨by rw [seqIndex_neg (by omega) h1, e], by omega, h1, by omega⟩
    · rw [if_neg h1] at h; cases h
theorem atI_get {α : Type} {xs : List α} {i : Int} {v : α} (h : atI xs i = some v) : ∃ j, seqIndex? i xs.length = some j ∧ xs[j]? = some v ∧ j < xs.length ∧ -(xs.length : Int) ≤ i ∧ i < xs.length := by
  unfold atI at h
  cases e : ixN xs.length i with
  | none => rw [e] at h; cases h
  | some j =>
    rw [e] at h
    obtain ⟨h1, h2, h3, h4⟩ := ixN_seq e
    exact ⟨j, h1, h, h2, h3, h4⟩
theorem atI_nat {α : Type} {xs : List α} {j : Nat} {v : α} (h : xs[j]? = some v) : atI xs (j : Int) = some v := by
  have hj : j < xs.length := (List.getElem?_eq_some_iff.mp h).1
  have e : ixN xs.length (j : Int) = some j := by
    unfold ixN
    rw [if_pos (by omega), if_pos (by omega)]; simp
  unfold atI; rw [e]; exact h
noncomputable def PlainIx (b : Expr) : Prop := ∀ o i, subscripted b false o i = operate [o, i] (getItem o i)
noncomputable def IxR (X : Cx) (r : R2) : Prop :=
  ∀ (value slice : Expr) (pins : List (Addr × Obj)) (s : Shared) (σ : St) (H : Hp) (x y : V) (v u : Value) (Q : VK), Inv X pins σ H s → RelV x v → RelV y u → r x y H Q →
    subscripted slice false v u = operate [v, u] (getItem v u) → wpAny (model X.prog X.w) X.A (subscriptTail value slice v u) (EP X pins σ Q) X.xe s
noncomputable def MtR (X : Cx) (id : String) (r : V → List V → Hp → VK → Prop) : Prop :=
  ∀ (pins : List (Addr × Obj)) (s : Shared) (σ : St) (H : Hp) (x : V) (xs : List V) (v : Value) (us : List Value) (Q : VK), Inv X pins σ H s → RelV x v → Vals xs us → r x xs H Q →
    wpAny (model X.prog X.w) X.A (call (.builtin id) (v :: us)) (EP X pins σ Q) X.xe s
section
variable {X : Cx} {a b : Expr} {ta tb : TE} {pos : Pos}
theorem pe_ix {r : R2} (hr : IxR X r) (ha : PE X a ta) (hb : PE X b tb) (hs : PlainIx b) : PE X (.Subscript a b pos) (tOp r ta tb) := by
  intro pins s σ H Q I h
  exact Subscript_ (binT ha hb I h fun v u s2 x y H2 I2 rx ry q => hr a b pins s2 σ H2 x y v u Q I2 rx ry q (hs _ _))
noncomputable def rIxL (K : PySem.W.Frag) : R2 := fun x y H Q => ∃ p xs i v, x = .ref p ∧ y = .int i ∧ SqL K H p xs ∧ atI xs i = some v ∧ Q v H
noncomputable def rIxT (K : PySem.W.Frag) : R2 := fun x y H Q => ∃ p xs i v, x = .ref p ∧ y = .int i ∧ SqT K H p xs ∧ atI xs i = some v ∧ Q v H
noncomputable def rIxS : R2 := fun x y H Q => ∃ z i c, x = .str z ∧ y = .int i ∧ z.length ≤ sizeLine ∧ atI z.cps.toList i = some c ∧ Q (.str ⟨#[c]⟩) H
theorem ix_list : IxR X (rIxL X.K) := by
  intro value slice pins s σ H x y v u Q I rx ry h hs
  obtain ⟨p, xs, i, z, rfl, rfl, hq, he, q⟩ := h
  cases rx
  obtain ⟨t, rfl⟩ := ry
  obtain ⟨its, r, pl, hz⟩ := I.list hq
  obtain ⟨j, h1, h2, h3, h4, h5⟩ := atI_get he
  obtain ⟨w, ew, rw'⟩ := r.get h2
  have hl := r.length
  have hn := line63
  have fin : EP X pins σ Q w s := ⟨z, H, I, rw', q⟩
  by_cases h0 : 0 ≤ i
  · have hj : i.toNat = j := by
      rw [seqIndex_of h0 h5] at h1
      exact Option.some.inj h1
    exact item_listR pl.isList h0 (by omega) (by rw [hj]; simpa using ew) fin hs
  · have hj : (i + (its.toArray.size : Int)).toNat = j := by
      rw [seqIndex_neg (by omega) h4] at h1
      rw [List.size_toArray, ← hl]
      exact Option.some.inj h1
    exact subscriptTail_builtinR (x := w) pl.isList.typeIs slot_list_getitem.lookup
      (wpAny_getItem_list_neg (Q := fun r s' => r = w ∧ EP X pins σ Q r s') pl.isList (by omega) (by rw [List.size_toArray] <;> omega) (by omega) (by rw [hj]; simpa using ew) ⟨rfl, fin⟩) hs
theorem ix_tup : IxR X (rIxT X.K) := by
  intro value slice pins s σ H x y v u Q I rx ry h hs
  obtain ⟨p, xs, i, z, rfl, rfl, hq, he, q⟩ := h
  cases rx
  obtain ⟨t, rfl⟩ := ry
  obtain ⟨its, r, pl, hz⟩ := I.tuple hq
  obtain ⟨j, h1, h2, h3, h4, h5⟩ := atI_get he
  obtain ⟨w, ew, rw'⟩ := r.get h2
  have hl := r.length
  have hn := line63
  have fin : EP X pins σ Q w s := ⟨z, H, I, rw', q⟩
  exact subscriptTail_builtinR (x := w) pl.typeIs slot_tuple_getitem.lookup
    (getItem_tuple (j := j) (Q := fun r s' => r = w ∧ EP X pins σ Q r s') pl (by omega) (by omega) (by rw [List.size_toArray, ← hl]; exact h1) (by simpa using ew) ⟨rfl, fin⟩) hs
theorem ix_str : IxR X rIxS := by
  intro value slice pins s σ H x y v u Q I rx ry h hs
  obtain ⟨z, i, c, rfl, rfl, hz, he, q⟩ := h
  obtain ⟨t, rfl⟩ := rx
  obtain ⟨t', rfl⟩ := ry
  obtain ⟨j, h1, h2, h3, h4, h5⟩ := atI_get he
  have hl : z.cps.toList.length = z.length := by simp [Str.length]
  rw [hl] at h1 h4 h5
  have hn := line63
  exact tail_any (typeIs_str s z t) slot_str_getitem.lookup (getItem_str (c := c) (by
    have e1 : decide (i < -(2 ^ 63 : Int)) = false := decide_eq_false (by omega)
    have e2 : decide (i ≥ 2 ^ 63) = false := decide_eq_false (by omega)
    rw [e1, e2, Bool.or_false]) (by rw [h1]; simpa using h2) ⟨.str ⟨#[c]⟩, H, I.tok _, ⟨_, rfl⟩, q⟩) hs
theorem mapSeq_set (its : List Value) (n j : Nat) (u : Value) : Obj.mapSeq (·.setIfInBounds j u) { cls := .type "list", data := .seq its.toArray n } = { cls := .type "list", data := .seq (its.set j u).toArray n } := by
  simp [Obj.mapSeq]
theorem Inv.lst {pins : List (Addr × Obj)} {σ : St} {H : Hp} {s : Shared} {p : Addr} {xs : List V} (I : Inv X pins σ H s) (h : H p = some (.lst xs)) :
    ∃ (its : List Value) (n : Nat), Vals xs its ∧ s.heap.get? p = some { cls := .type "list", data := .seq its.toArray n } ∧ xs.length ≤ sizeLine := by
  obtain ⟨z, its, n, r, e⟩ := I.hok p _ h
  exact ⟨its, n, r, e, z⟩
theorem Inv.lstUpd {pins : List (Addr × Obj)} {σ : St} {H : Hp} {s : Shared} {p : Addr} {xs ys : List V} {its its' : List Value} {n n' : Nat} {f : Obj → Obj} (I : Inv X pins σ H s) (h : H p = some (.lst xs))
    (ho : s.heap.get? p = some { cls := .type "list", data := .seq its.toArray n }) (hf : f { cls := .type "list", data := .seq its.toArray n } = { cls := .type "list", data := .seq its'.toArray n' }) (r : Vals ys its') (hz : ys.length ≤ sizeLine) (t : Nat) :
    Inv X pins σ (upd H p (.lst ys)) { s with heap := s.heap.update p f, toks := t } := by
  have e : (s.heap.update p f).get? p = some { cls := .type "list", data := .seq its'.toArray n' } := by
    rw [Heap.get?_update_self f ho (by rw [hf] <;> rfl), hf]
  refine I.write (x := p) (e := p) (by rw [h]; trivial) (.inl rfl) (fun b u hb q => (Heap.get?_update_other _ _ (Ne.symm hb)).trans q) ⟨_, e⟩ ?_
  exact ⟨hz, its', n', r, e⟩
noncomputable def rSetL : V → V → V → Hp → (Hp → Prop) → Prop := fun o i v H Q => ∃ p xs k j, o = .ref p ∧ i = .int k ∧ H p = some (.lst xs) ∧ ixN xs.length k = some j ∧ Q (upd H p (.lst (xs.set j v)))
theorem set_list : PSet X rSetL := by
  intro pins s σ H o i v ov iv u Q I ro ri rv h
  obtain ⟨p, xs, k, j, rfl, rfl, hp, hj, q⟩ := h
  cases ro
  obtain ⟨t, rfl⟩ := ri
  obtain ⟨its, n, r, ho, hz⟩ := I.lst hp
  obtain ⟨h1, h2, h3, h4⟩ := ixN_seq hj
  have hl := r.length
  have hn := line63
  have I' : Inv X pins σ (upd H p (.lst (xs.set j v))) { s with heap := s.heap.update p (Obj.mapSeq (·.setIfInBounds j u)) } :=
    I.lstUpd hp ho (mapSeq_set its n j u) (r.set rv j) (by rw [List.length_set]; exact hz) s.toks
  by_cases h0 : 0 ≤ k
  · have hk : k.toNat = j := by
      rw [seqIndex_of h0 h4] at h1
      exact Option.some.inj h1
    exact PySem.W.ki_setAt ho h0 (by omega) (by rw [List.size_toArray, ← hl]; exact h4) (by rw [hk]; exact ⟨_, I', q⟩)
  · have hk : (k + (its.toArray.size : Int)).toNat = j := by
      rw [seqIndex_neg (by omega) h3] at h1
      rw [List.size_toArray, ← hl]
      exact Option.some.inj h1
    exact PySem.W.ki_setBack ho (by omega) (by rw [List.size_toArray, ← hl]; exact h3) (by omega) (by rw [hk]; exact ⟨_, I', q⟩)
theorem slice_bounds (lo hi : Option Int) (n : Nat) : (sliceBounds lo hi none n).1 = ((HT.sIx n 0 lo : Nat) : Int) ∧ (sliceBounds lo hi none n).2.1 = ((HT.sIx n n hi : Nat) : Int) ∧ (sliceBounds lo hi none n).2.2 = 1 := by
  refine ⟨?_, ?_, rfl⟩
  · cases lo with
    | none => simp [sliceBounds, HT.sIx]
    | some i =>
      simp only [sliceBounds, HT.sIx, Option.getD_none, show (1 : Int) > 0 by decide, if_true]
      by_cases h : i < 0
      · simp only [h, if_true] <;> omega
      · simp only [h, if_false] <;> omega
  · cases hi with
    | none => simp [sliceBounds, HT.sIx]
    | some i =>
      simp only [sliceBounds, HT.sIx, Option.getD_none, show (1 : Int) > 0 by decide, if_true]
      by_cases h : i < 0
      · simp only [h, if_true] <;> omega
      · simp only [h, if_false] <;> omega
theorem slicePick_cut (its : List Value) (lo hi : Option Int) : slicePick its.toArray lo hi none = ((its.drop (HT.sIx its.length 0 lo)).take (HT.sIx its.length its.length hi - HT.sIx its.length 0 lo)).toArray := by
  obtain ⟨h1, h2, h3⟩ := slice_bounds lo hi its.toArray.size
  unfold slicePick
  rw [h1, h2, h3]
  simp only [sliceRange_one, pick_run, List.size_toArray] <;> rfl
noncomputable def rSlL (K : PySem.W.Frag) : V → Option Int → Option Int → Hp → VK → Prop := fun x lo hi H Q => ∃ a xs, x = .ref a ∧ SqL K H a xs ∧ ∀ p, H p = none → Q (.ref p) (upd H p (.lst (cutV xs lo hi)))
theorem sl_list : SlR X (rSlL X.K) := by
  intro pins s σ H x v vl vu lo hi sl Q I rx hs pl pu h
  obtain ⟨a, xs, rfl, hx, q⟩ := h
  cases rx
  obtain ⟨its, r, ht, hz⟩ := I.list hx
  have hlen := r.length
  refine ⟨"list", _, slot_list_getitem.lookup, ht.isList.typeIs, ?_⟩
  refine wpAny_getItem_list_slice ht.isList hs pl pu .none (by simp) ?_ (by rw [List.size_toArray] <;> omega)
  rw [slicePick_cut, ← hlen]
  refine ⟨.ref s.heap.objs.size, _, I.laid (t' := s.toks) (o := .lst (cutV xs lo hi)) (fun b ob q => Heap.get?_push_of_some _ q) (Nat.le_refl _) ?_, rfl, q _ (I.hok.fresh (Nat.le_refl _))⟩
  exact ⟨Nat.le_trans (cutV_length xs lo hi) hz, _, 0, (r.drop (HT.sIx xs.length 0 lo)).take (HT.sIx xs.length xs.length hi - HT.sIx xs.length 0 lo), Heap.get?_push_size _ rfl⟩
noncomputable def flatV : V → Bool
  | .non => true
  | .bl _ => true
  | .int _ => true
  | .str _ => true
  | _ => false
noncomputable def eqV : V → V → Bool
  | .non, .non => true
  | .bl a, .bl b => a == b
  | .bl a, .int b => (if a then 1 else 0) == b
  | .int a, .bl b => a == (if b then 1 else 0)
  | .int a, .int b => a == b
  | .str a, .str b => a == b
  | _, _ => false
theorem eqAt_V {A : Around} {s : Shared} {y x : V} {u v : Value} (ry : RelV y u) (rx : RelV x v) (fy : flatV y = true) (fx : flatV x = true) : SeqAt.EqAt A s u v (eqV y x) := by
  cases y with
  | non =>
    cases ry
    cases x with
    | non => cases rx; exact SeqAt.EqAt.same _
    | bl b => cases rx; exact SeqAt.EqAt.none_bool b
    | int b => obtain ⟨t, rfl⟩ := rx; exact SeqAt.EqAt.none_int b t
    | str b => obtain ⟨t, rfl⟩ := rx; exact SeqAt.EqAt.none_str b t
    | _ => exact absurd (show false = true from fx) Bool.false_ne_true
  | bl a =>
    cases ry
    cases x with
    | non => cases rx; exact SeqAt.EqAt.bool_none a
    | bl b => cases rx; exact SeqAt.EqAt.bool_bool a b
    | int b => obtain ⟨t, rfl⟩ := rx; exact SeqAt.EqAt.bool_int a b t
    | str b => obtain ⟨t, rfl⟩ := rx; exact SeqAt.EqAt.bool_str a b t
    | _ => exact absurd (show false = true from fx) Bool.false_ne_true
  | int a =>
    obtain ⟨t', rfl⟩ := ry
    cases x with
    | non => cases rx; exact SeqAt.EqAt.int_none a t'
    | bl b => cases rx; exact SeqAt.EqAt.int_bool a t' b
    | int b => obtain ⟨t, rfl⟩ := rx; exact SeqAt.EqAt.int_int a t' b t
    | str b => obtain ⟨t, rfl⟩ := rx; exact SeqAt.EqAt.int_str a t' b t
    | _ => exact absurd (show false = true from fx) Bool.false_ne_true
  | str a =>
    obtain ⟨t', rfl⟩ := ry
    cases x with
    | non => cases rx; exact SeqAt.EqAt.str_none a t'
    | bl b => cases rx; exact SeqAt.EqAt.str_bool a t' b
    | int b => obtain ⟨t, rfl⟩ := rx; exact SeqAt.EqAt.str_int a t' b t
    | str b => obtain ⟨t, rfl⟩ := rx; exact SeqAt.EqAt.str_str a t' b t
    | _ => exact absurd (show false = true from fx) Bool.false_ne_true
  | _ => exact absurd (show false = true from fy) Bool.false_ne_true
noncomputable def eqU (x : V) (u : Value) : Bool := match u with
  | .none => eqV .non x
  | .bool b => eqV (.bl b) x
  | .int i _ => eqV (.int i) x
  | .str z _ => eqV (.str z) x
  | _ => false
theorem eqU_of {x y : V} {u : Value} (r : RelV y u) (f : flatV y = true) : eqU x u = eqV y x := by
  cases y with
  | non => cases r; rfl
  | bl b => cases r; rfl
  | int i => obtain ⟨t, rfl⟩ := r; rfl
  | str z => obtain ⟨t, rfl⟩ := r; rfl
  | _ => exact absurd (show false = true from f) Bool.false_ne_true
theorem any_eqU {x : V} : ∀ {xs : List V} {us : List Value}, Vals xs us → xs.all flatV = true → us.any (eqU x) = xs.any fun y => eqV y x
  | _, _, .nil, _ => rfl
  | y :: xs, u :: us, .cons r t, f => by
    rw [List.all_cons, Bool.and_eq_true] at f
    rw [List.any_cons, List.any_cons, eqU_of r f.1, any_eqU t f.2]
theorem mem_eqAt {A : Around} {s : Shared} {x : V} {v : Value} (rx : RelV x v) (fx : flatV x = true) : ∀ {xs : List V} {us : List Value}, Vals xs us → xs.all flatV = true → ∀ u ∈ us, SeqAt.EqAt A s u v (eqU x u)
  | _, _, .nil, _ => fun u hu => by cases hu
  | y :: xs, u :: us, .cons r t, f => fun u' hu => by
    rw [List.all_cons, Bool.and_eq_true] at f
    rcases List.mem_cons.mp hu with rfl | hu
    · rw [eqU_of r f.1]; exact eqAt_V r rx f.1 fx
    · exact mem_eqAt rx fx t f.2 u' hu
noncomputable def inV (x : V) (xs : List V) : Bool := xs.any fun y => eqV y x
noncomputable def rIn (K : PySem.W.Frag) (neg : Bool) : R2 := fun x y H Q => ∃ p xs, y = .ref p ∧ (SqL K H p xs ∨ SqT K H p xs) ∧ flatV x = true ∧ xs.all flatV = true ∧ Q (.bl (if neg then !inV x xs else inV x xs)) H
theorem op_in_seq : OpR X (compareOp .In) (rIn X.K false) := by
  intro pins s σ H x y v u Q I rx ry h
  obtain ⟨p, xs, rfl, hq, fx, fs, q⟩ := h
  cases ry
  rcases hq with hq | hq
  · obtain ⟨its, r, pl, hz⟩ := I.list hq
    refine SeqAt.in_listAt (eqU x) pl.isList (fun w hw => mem_eqAt rx fx r fs w (by simpa using hw)) ⟨.bl _, H, I, rfl, ?_⟩
    rw [show its.toArray.any (eqU x) = its.any (eqU x) by simp, any_eqU r fs]
    exact q
  · obtain ⟨its, r, pl, hz⟩ := I.tuple hq
    refine SeqAt.in_tupleAt (eqU x) pl (fun w hw => mem_eqAt rx fx r fs w (by simpa using hw)) ⟨.bl _, H, I, rfl, ?_⟩
    rw [show its.toArray.any (eqU x) = its.any (eqU x) by simp, any_eqU r fs]
    exact q
theorem op_notIn_seq : OpR X (compareOp .NotIn) (rIn X.K true) := by
  intro pins s σ H x y v u Q I rx ry h
  obtain ⟨p, xs, rfl, hq, fx, fs, q⟩ := h
  cases ry
  rcases hq with hq | hq
  · obtain ⟨its, r, pl, hz⟩ := I.list hq
    refine SeqAt.notIn_listAt (eqU x) pl.isList (fun w hw => mem_eqAt rx fx r fs w (by simpa using hw)) ⟨.bl _, H, I, rfl, ?_⟩
    rw [show its.toArray.any (eqU x) = its.any (eqU x) by simp, any_eqU r fs]
    exact q
  · obtain ⟨its, r, pl, hz⟩ := I.tuple hq
    refine SeqAt.notIn_tupleAt (eqU x) pl (fun w hw => mem_eqAt rx fx r fs w (by simpa using hw)) ⟨.bl _, H, I, rfl, ?_⟩
    rw [show its.toArray.any (eqU x) = its.any (eqU x) by simp, any_eqU r fs]
    exact q
theorem op_notIn_str : OpR X (compareOp .NotIn) (fun x y H Q => ∃ i j, x = .str i ∧ y = .str j ∧ Q (.bl (!(!(Builtin.Str.occurrences j i 0 j.length 1).isEmpty))) H) := by
  intro pins s σ H x y v u Q I rx ry h
  obtain ⟨i, j, rfl, rfl, q⟩ := h
  obtain ⟨t, rfl⟩ := rx
  obtain ⟨t', rfl⟩ := ry
  exact notIn_str ⟨.bl _, H, I, rfl, q⟩
theorem call_len_seq : CallR X (.builtin "len") (fun xs H Q => ∃ p ys, xs = [.ref p] ∧ (SqL X.K H p ys ∨ SqT X.K H p ys) ∧ Q (.int ys.length) H) := by
  intro pins s σ H xs us Q I r h
  obtain ⟨p, ys, rfl, hq, q⟩ := h
  obtain ⟨u, rfl, rx⟩ := vals1 r
  cases rx
  have hn := line63
  rcases hq with hq | hq
  · obtain ⟨its, r', pl, hz⟩ := I.list hq
    have hlen := r'.length
    exact Calls.call_len_list pl.isList (by simp only [List.size_toArray] <;> omega) ⟨.int ys.length, H, I.tok _, ⟨s.toks + 1, by rw [List.size_toArray, hlen]⟩, q⟩
  · obtain ⟨its, r', pl, hz⟩ := I.tuple hq
    have hlen := r'.length
    exact len_tuple pl (by simp only [List.size_toArray] <;> omega) ⟨.int ys.length, H, I.tok _, ⟨s.toks + 1, by rw [List.size_toArray, hlen]⟩, q⟩
theorem call_len_str : CallR X (.builtin "len") (fun xs H Q => ∃ z, xs = [.str z] ∧ z.length ≤ sizeLine ∧ Q (.int z.length) H) := by
  intro pins s σ H xs us Q I r h
  obtain ⟨z, rfl, hz, q⟩ := h
  obtain ⟨u, rfl, t, rfl⟩ := vals1 r
  have hn := line63
  exact len_str (by omega) ⟨.int z.length, H, I.tok _, ⟨_, rfl⟩, q⟩
theorem call_list_of : CallR X (.type "list") (fun xs H Q => ∃ p ys, xs = [.ref p] ∧ (SqL X.K H p ys ∨ SqT X.K H p ys) ∧ ∀ l, H l = none → Q (.ref l) (upd H l (.lst ys))) := by
  intro pins s σ H xs us Q I r h
  obtain ⟨p, ys, rfl, hq, q⟩ := h
  obtain ⟨u, rfl, rx⟩ := vals1 r
  cases rx
  have fin : ∀ (its : List Value), Vals ys its → ys.length ≤ sizeLine → ∀ (h' : Heap) (c' : Nat), (∀ b o', s.heap.get? b = some o' → h'.get? b = some o') →
      h'.get? s.heap.objs.size = some { cls := .type "list", dict := none, data := .seq its.toArray c', slots := #[] } → EP X pins σ Q (.ref s.heap.objs.size) { s with heap := h' } := fun its r' hz h' c' kp e =>
    ⟨.ref s.heap.objs.size, _, I.laid (t' := s.toks) kp (Nat.le_refl _) (show ObjOk X.prog X.w _ h' _ (.lst ys) from ⟨hz, its, c', r', e⟩), rfl, q _ (I.hok.fresh (Nat.le_refl _))⟩
  rcases hq with hq | hq
  · obtain ⟨its, r', pl, hz⟩ := I.list hq
    have hlen := r'.length
    obtain ⟨o, ho, hc, n, hd⟩ := pl.isList
    exact call_list_seq p (.inl rfl) ho hc hd (fun h' c' kp e => fin its r' hz h' c' kp e) (by simp only [List.size_toArray] <;> omega)
  · obtain ⟨its, r', pl, hz⟩ := I.tuple hq
    have hlen := r'.length
    obtain ⟨o, ho, hc, n, hd⟩ := pl
    exact call_list_seq p (.inr rfl) ho hc hd (fun h' c' kp e => fin its r' hz h' c' kp e) (by simp only [List.size_toArray] <;> omega)
theorem call_tuple_of : CallR X (.type "tuple") (fun xs H Q => ∃ p ys, xs = [.ref p] ∧ ((SqL X.K H p ys ∧ ∀ l, H l = none → Q (.ref l) (upd H l (.tup ys))) ∨ (SqT X.K H p ys ∧ Q (.ref p) H))) := by
  intro pins s σ H xs us Q I r h
  obtain ⟨p, ys, rfl, h⟩ := h
  obtain ⟨u, rfl, rx⟩ := vals1 r
  cases rx
  rcases h with ⟨hq, q⟩ | ⟨hq, q⟩
  · obtain ⟨its, r', pl, hz⟩ := I.list hq
    have hlen := r'.length
    refine call_tuple_list pl.isList (fun h' kp => ?_) (by simp only [List.size_toArray] <;> omega)
    have I1 : Inv X pins σ H { s with heap := h' } := I.kept (t' := s.toks) kp
    have I2 : Inv X pins σ (upd H h'.objs.size (.tup ys)) { s with heap := h'.push { cls := .type "tuple", data := .seq its.toArray } } :=
      I1.laid (t' := s.toks) (fun b o e => Heap.get?_push_of_some _ e) (Nat.le_refl _) (show ObjOk X.prog X.w _ _ _ (.tup ys) from ⟨hz, its, r', IsTup.new _ _⟩)
    exact ⟨.ref h'.objs.size, _, I2, rfl, q _ (I1.hok.fresh (Nat.le_refl _))⟩
  · obtain ⟨its, r', pl, hz⟩ := I.tuple hq
    exact call_tuple_same pl ⟨.ref p, H, I, rfl, q⟩
noncomputable def tyV (K : PySem.W.Frag) (T : String) (x : V) (H : Hp) : Prop := match x with
  | .str _ => T = "str"
  | .int _ => T = "int"
  | .ref p => (T = "list" ∧ ∃ xs, SqL K H p xs) ∨ (T = "tuple" ∧ ∃ o, K.lookup p = some o ∧ o.cls = .type "tuple" ∧ o.dict = none) ∨
      (T = "dict" ∧ ((∃ kvs, H p = some (.dK kvs)) ∨ ∃ kvs, H p = some (.dT kvs))) ∨ (T = "set" ∧ ∃ S n, H p = some (.set S n))
  | _ => False
theorem tyV_is {pins : List (Addr × Obj)} {σ : St} {H : Hp} {s : Shared} {T : String} {x : V} {v : Value} (I : Inv X pins σ H s) (r : RelV x v) (ty : tyV X.K T x H) :
    s.TypeIs v T ∧ ∀ a, v = .ref a → ∃ ob, s.heap.get? a = some ob ∧ ob.dict = none := by
  cases x with
  | str z =>
    obtain ⟨t, rfl⟩ := r
    cases (show T = "str" from ty)
    exact ⟨typeIs_str s z t, fun _ e => nomatch e⟩
  | int i =>
    obtain ⟨t, rfl⟩ := r
    cases (show T = "int" from ty)
    exact ⟨typeIs_int s i t, fun _ e => nomatch e⟩
  | ref p =>
    cases r
    rcases ty with ⟨rfl, xs, hq⟩ | ⟨rfl, o, hk, hc, hd⟩ | ⟨rfl, hk⟩ | ⟨rfl, S, n, hk⟩
    · obtain ⟨its, _, pl, _⟩ := I.list hq
      refine ⟨pl.isList.typeIs, fun a e => ?_⟩
      cases e
      obtain ⟨o, n, e, c, hd, _⟩ := pl
      exact ⟨o, e, hd⟩
    · refine ⟨⟨o, I.kIn p o hk, hc⟩, fun a e => ?_⟩
      cases e
      exact ⟨o, I.kIn _ o hk, hd⟩
    · have z : ∃ o, s.heap.get? p = some o ∧ o.ExactDict := by
        rcases hk with ⟨kvs, hk⟩ | ⟨kvs, hk⟩
        · obtain ⟨_, _, _, _, o, _, _, e, ex, _⟩ := I.hok p _ hk
          exact ⟨o, e, ex⟩
        · obtain ⟨_, _, _, _, o, _, _, e, ex, _⟩ := I.hok p _ hk
          exact ⟨o, e, ex⟩
      obtain ⟨o, e, ex⟩ := z
      refine ⟨⟨o, e, ex.1⟩, fun a e2 => ?_⟩
      cases e2
      exact ⟨o, e, ex.2.1⟩
    · obtain ⟨o, _, _, _, e, ex, _⟩ := I.hok p _ hk
      refine ⟨⟨o, e, ex.1⟩, fun a e2 => ?_⟩
      cases e2
      exact ⟨o, e, ex.2.1⟩
  | _ => exact False.elim ty
noncomputable def tBM (K : PySem.W.Frag) (T : String) (r : V → List V → Hp → VK → Prop) (to : TE) (t : TA) : TE := fun σ H Q => to σ H fun x H1 => tyV K T x H1 ∧ t σ H1 fun xs H2 => r x xs H2 Q
variable {o e : Expr} {es : List Expr} {to : TE} {t : TA} {name : Str} {apos cpos : Pos} {T id : String} {r : V → List V → Hp → VK → Prop}
theorem pe_bm (pa : PlainAttrs T) (slot : Slot T name id) (hty : typeOf (.builtin id) = pure (.type "method_descriptor")) (hm : MtR X id r) (ho : PE X o to) (ha : PA X (e :: es) t)
    (hbase : attributeBase o name X.env (eval o X.env) = eval o X.env := by rfl)
    (hfew : ((backTo cpos (starEach (e :: es) X.env)).all (fun x => !x.1) && (backToKw cpos (keywordEach [] X.env)).all (fun x => x.1.isSome)
      && decide ((e :: es).length + ([] : List Keyword).length + (if ([] : List Keyword).isEmpty then 0 else 1) < 30)) = true := by rfl)
    (hline : (apos.endLine == cpos.line) = true := by rfl) (hs : starEach (e :: es) X.env = (false, eval e X.env) :: starEach es X.env := by rfl) (hplain : (backTo cpos (starEach es X.env)).any (·.1) = false := by rfl) :
    PE X (.Call (.Attribute o name apos) (e :: es) [] cpos) (tBM X.K T r to t) := by
  intro pins s σ H Q I h
  refine wpAny_Call_method_late hbase hfew hline rfl (thn (ho pins s σ H _ I h) fun v s1 ⟨x, H1, I1, r1, ty, q1⟩ => ?_)
  obtain ⟨h1, h2⟩ := tyV_is I1 r1 ty
  refine ⟨T, id, pa, slot, hty, h1, h2, ?_⟩
  have hA := ha cpos pins s1 σ H1 _ I1 q1
  rw [hs] at hA ⊢
  refine Calls.callWith_builtin (by show (false || (backTo cpos (starEach es X.env)).any (·.1)) = false; rw [hplain] <;> rfl) (Calls.evalArgs_plain ?_)
  exact thn hA fun us s2 ⟨vs, H2, I2, r2, q2⟩ => hm pins s2 σ H2 x vs v us Q I2 r1 r2 q2
end
end L2
namespace L2
open PySem PySem.Spec PyProof.Rows
noncomputable def MtM (X : Cx) (id : String) (r : V → List V → Hp → VK → Prop) : Prop :=
  ∀ (pins : List (Addr × Obj)) (s : Shared) (σ : St) (H : Hp) (x : V) (xs : List V) (v : Value) (us : List Value) (Q : VK), Inv X pins σ H s → RelV x v → Vals xs us → r x xs H Q →
    wpAny (model X.prog X.w) X.A (call (.builtin id) (v :: us)) (EP X pins σ Q) X.xe s
theorem Vals.one : ∀ {x : V} {us : List Value}, Vals [x] us → ∃ u, us = [u] ∧ RelV x u
  | _, _, .cons r .nil => ⟨_, rfl, r⟩
theorem Vals.two : ∀ {x y : V} {us : List Value}, Vals [x, y] us → ∃ u v, us = [u, v] ∧ RelV x u ∧ RelV y v
  | _, _, _, .cons r (.cons q .nil) => ⟨_, _, rfl, r, q⟩
theorem Vals.eraseIdx : ∀ {xs : List V} {us : List Value} (i : Nat), Vals xs us → Vals (xs.eraseIdx i) (us.eraseIdx i)
  | _, _, _, .nil => .nil
  | _, _, 0, .cons _ t => t
  | _, _, i + 1, .cons r t => .cons r (Vals.eraseIdx i t)
theorem len_erase {α : Type} : ∀ (l : List α) (i : Nat), (l.eraseIdx i).length ≤ l.length
  | [], _ => Nat.le_refl _
  | _ :: _, 0 => Nat.le_succ _
  | _ :: r, i + 1 => Nat.succ_le_succ (len_erase r i)
section
variable {X : Cx} {pins : List (Addr × Obj)} {σ : St} {H : Hp} {s : Shared} {l b : Addr} {xs ys zs : List V}
theorem Inv.lset {its its' : List Value} {n : Nat} {f : Array Value → Array Value} {t' : Nat} (I : Inv X pins σ H s) (hH : H l = some (.lst xs))
    (e : s.heap.get? l = some { cls := .type "list", data := .seq its.toArray n }) (hf : f its.toArray = its'.toArray) (hv : Vals ys its') (hz : ys.length ≤ sizeLine) :
    Inv X pins σ (upd H l (.lst ys)) { s with heap := s.heap.update l (Obj.mapSeq f), toks := t' } := by
  have q := PySem.IsL.update e f
  rw [hf] at q
  refine I.write (x := l) (e := l) (by rw [hH]; exact trivial) (.inl rfl) (fun b' u hb hu => (Heap.get?_update_other s.heap (Obj.mapSeq f) (Ne.symm hb)).trans hu) ⟨_, q⟩ ?_
  exact ⟨hz, its', _, hv, q⟩
theorem Inv.lnew {its : List Value} {t' : Nat} (I : Inv X pins σ H s) (hv : Vals ys its) (hz : ys.length ≤ sizeLine) :
    Inv X pins σ (upd H s.heap.objs.size (.lst ys)) { s with heap := s.heap.push { cls := .type "list", data := .seq its.toArray }, toks := t' } :=
  I.laid (fun _ _ q => Heap.get?_push_of_some _ q) (Nat.le_refl _) ⟨hz, its, 0, hv, Heap.get?_push_size _ rfl⟩
theorem Inv.fresh (I : Inv X pins σ H s) : H s.heap.objs.size = none := I.hok.fresh (Nat.le_refl _)
theorem Inv.lstM (I : Inv X pins σ H s) (hH : H l = some (.lst xs)) : xs.length ≤ sizeLine ∧ ∃ (its : List Value) (n : Nat), Vals xs its ∧ xs.length = its.length ∧ s.heap.get? l = some { cls := .type "list", data := .seq its.toArray n } := by
  obtain ⟨z, its, n, r, e⟩ := I.hok l _ hH
  exact ⟨z, its, n, r, r.length, e⟩
end
section
variable {X : Cx}
noncomputable def rAppend : V → List V → Hp → VK → Prop := fun x vs H Q => ∃ l xs y, x = .ref l ∧ vs = [y] ∧ H l = some (.lst xs) ∧ xs.length < sizeLine ∧ Q .non (upd H l (.lst (xs ++ [y])))
theorem mt_append : MtM X "list.append" rAppend := by
  intro pins s σ H x vs v us Q I rx rv h
  obtain ⟨l, xs, y, rfl, rfl, hH, hz, q⟩ := h
  cases rx
  obtain ⟨u, rfl, ru⟩ := rv.one
  obtain ⟨z, its, n, r, hl, e⟩ := I.lstM hH
  refine call_meets F.slot_list_append ⟨_, e, rfl⟩ F.entry_list_append (F.args_list_append_2 _ _) (PySem.list_append l its.toArray n u (by rw [List.size_toArray]; omega)) ⟨e, ?_⟩
  refine ⟨.non, _, I.lset (its' := its ++ [u]) hH e (by simp) (r.append (.cons ru .nil)) ?_, rfl, q⟩
  rw [List.length_append, List.length_singleton]
  omega
noncomputable def rPopAt : V → List V → Hp → VK → Prop := fun x vs H Q => ∃ l xs i k y, x = .ref l ∧ vs = [.int i] ∧ H l = some (.lst xs) ∧ -(2 ^ 63) ≤ i ∧ i < 2 ^ 63 ∧ seqIndex? i xs.length = some k ∧ xs[k]? = some y ∧ Q y (upd H l (.lst (xs.eraseIdx k)))
theorem mt_popAt : MtM X "list.pop" rPopAt := by
  intro pins s σ H x vs v us Q I rx rv h
  obtain ⟨l, xs, i, k, y, rfl, rfl, hH, h1, h2, hk, hy, q⟩ := h
  cases rx
  obtain ⟨u, rfl, ru⟩ := rv.one
  obtain ⟨t, rfl⟩ := ru
  obtain ⟨z, its, n, r, hl, e⟩ := I.lstM hH
  obtain ⟨w, hw, rw'⟩ := r.get hy
  refine call_meets F.slot_list_pop ⟨_, e, rfl⟩ F.entry_list_pop (F.args_list_pop_2 _ _)
    (MeetsSeq.list_pop_at l its.toArray n i t k w (fitsIndex_both h1 h2) (by rw [List.size_toArray, ← hl]; exact hk) (by rw [← Array.getElem?_toList]; exact hw) (by rw [List.size_toArray]; omega)) ⟨e, ?_⟩
  refine ⟨y, _, I.lset (its' := its.eraseIdx k) hH e ?_ (r.eraseIdx k) ?_, rw', q⟩
  · show its.toArray.eraseIdxIfInBounds k = (its.eraseIdx k).toArray
    rw [List.eraseIdxIfInBounds_toArray]
  · have := len_erase xs k
    omega
end
section
variable {prog : Program} {w : World} {A : Around} {E : Value → Shared → Prop} {s : Shared}
end
section
variable {X : Cx}
end
end L2
namespace Att
open PySem PySem.W PySem.Calls PyProof.Rows
theorem ints_of_wellAll {P : Params} {h : Heap} : ∀ (ns : List Int) (vs : List Value), WellAll P h vs (ns.map WData.int) → IntsAre vs ns := by
  intro ns
  induction ns with
  | nil =>
    intro vs w
    rw [List.map_nil] at w
    cases w
    exact .nil
  | cons n ns ih =>
    intro vs w
    rw [List.map_cons] at w
    cases w with
    | cons a b =>
      cases a
      exact .cons _ _ (ih _ b)
theorem script_of {l : OpenLaw} {n : Nat} (hn : l.most = some n) {P : Params} {h : Heap} {args : List WData} {vals : List Value}
    (hpre : l.row.toRowW.claim.pre args = true) (hwl : WellAll P h vals args) :
    ∃ a vs ns, vals = [Value.ref a] ∧ args = [WData.list (ns.map WData.int)] ∧ h.get? a = some { cls := .type "list", data := .seq vs.toArray } ∧ IntsAre vs ns ∧ ns.length ≤ n := by
  have hsh : WShape.hasAll [] args [.list .int] = true := (pre_splitW hpre).1
  have hc : l.pre.holds [] { args := args } = true := (pre_splitW hpre).2
  obtain ⟨d, r, rfl, h1, h2⟩ := hasAllW_cons hsh
  obtain rfl := hasAllW_nil h2
  obtain ⟨xs, rfl, h3⟩ := hasW_list h1
  obtain ⟨ns, rfl⟩ := items_int h3
  have hlen : ns.length ≤ n := by
    unfold OpenLaw.pre at hc
    have h4 : (WTm.not (.lt (.lit (.int (n : Int))) (.len (.arg 0)))).holds [] { args := [.list (ns.map .int)] } = true := by
      have h4 := (holds_andW hc).1
      rw [hn] at h4
      exact h4
    have h5 := condW_of h4 (w_not (w_lt w_lit (w_len_list (w_arg rfl))))
    rw [List.length_map] at h5
    refine Nat.le_of_not_lt fun q => ?_
    have q' : (n : Int) < ((ns.length : Nat) : Int) := by omega
    first
      | (rw [decide_eq_true q'] at h5; exact absurd h5 (by decide))
      | (simp at h5; omega)
  cases hwl with
  | cons w1 w2 =>
    cases w2
    cases w1 with
    | list ho hall => exact ⟨_, _, ns, rfl, rfl, ho, ints_of_wellAll ns _ hall, hlen⟩
theorem post_true (l : OpenLaw) (args : List WData) : l.row.toRowW.claim.post args (.bool true) args = true :=
  postW_of (r := l.row.toRowW) (X := (true == true))
    (show WShape.has [] (.bool true) .bool = true by first | rfl | decide | simp [WShape.has, WShape.arms, WShape.armsAll])
    (show (WTm.eq .res (.lit (.bool true))).value [] { args := args, res := some (.bool true), after := args } = some (.bool (true == true)) from w_eq_bool (w_res rfl) w_lit) rfl
theorem attach_call {l : OpenLaw} {n : Nat} {q : Program} {loose : List Str} {XP : (Str → Option Value) → Heap → Prop} {YP : World → Heap → Prop} {d : DefRec}
    (hn : l.most = some n) (hdf : d.params.defaults = [])
    (call : ∀ (w : World) (s₀ s₁ : Shared) (mg mb : Str → Option Value) (fa : Addr) (o : Obj) (pm cd doc : Value) (a : Addr) (vs : List Value) (ns : List Int),
      Ground q loose [] XP w s₀ mg mb s₁.heap → YP w s₁.heap →
      s₁.heap.get? fa = some o → o.data = .func (docDef d.name d.params d.body d.scope pm cd doc) → s₁.heap.CodeRec cd d.name → mg d.name = some (.ref fa) →
      s₁.heap.get? a = some { cls := .type "list", data := .seq vs.toArray } → IntsAre vs ns → ns.length ≤ n → s₁.gens = #[] →
      codeAny (model l.prog w) callerA (.call (.ref fa) ⟨[.ref a], []⟩) (fun r s' => r = .ok (.ret (.bool true)) ∧ OldK s₁.heap s'.heap ∧ s'.os = s₁.os ∧ AllBare s'.gens) s₁) :
    WalkO q loose XP YP l.row.toRowW d [] (fun f vs => PySem.call f vs) := by
  intro w s₀ s₁ mg mb G Y fa o pm cd doc dV kV ho hd hcd hD hmg hg args vals as hpre hlay hrd hwl hlo
  obtain rfl : dV = .none := Dflts.none hD hdf
  obtain rfl : kV = .none := Dflts.noKw hD
  obtain ⟨a, vs, ns, rfl, rfl, hobj, hints, hlen⟩ := script_of hn hpre hwl
  refine enter_call (codeAny_mono (call w s₀ s₁ mg mb fa o pm cd doc a vs ns G Y ho (fd_plain hd) hcd hmg hobj hints hlen hg) fun r s' hq => ?_)
  obtain ⟨rfl, h2, h3, h4⟩ := hq
  exact ⟨.inl ⟨.bool true, .bool true, [], rfl, fun _ => rfl, .bool true, post_true l _, fun _ => ⟨List.Pairwise.nil, fun _ hm => (nomatch hm)⟩⟩, h2, h3, h4⟩
section
variable {prog : Program} {w : World} {A : Around} {E : Value → Shared → Prop} {s : Shared} {K : Frag}
end
end Att
namespace L2
open PySem PySem.Spec PyProof.Rows
theorem vals_ints : ∀ {vs : List Value} {ns : List Int}, IntsAre vs ns → Vals (ns.map V.int) vs
  | _, _, .nil => .nil
  | _, _, .cons n t h => .cons ⟨t, rfl⟩ (vals_ints h)
noncomputable def Only (H : Hp) : Prop := ∀ b, H b = none ∨ ∃ o xs, H b = some (.frz o (.lst xs))
theorem law_call {P : Program} {w : World} {K : PySem.W.Frag} {mg mb : Str → Option Value} {CX : CXT} {k : Nat} {fa a : Addr} {fd : FuncData} {x : Str} {sp : Sp} {s₁ : Shared} {vs : List Value} {ns : List Int}
    (KX : K.In s₁.heap) (hns : s₁.heap.Ns mainGlobals mg) (hb : s₁.heap.Ns builtinsNs mb) (hbb : ∀ x : Str, x ≠ "__name__" → mb x = bootBuiltins x) (hlim : s₁.heap.NoLimit) (hg : s₁.gens = #[])
    (ha : s₁.heap.get? a = some { cls := .type "list", data := .seq vs.toArray }) (hi : IntsAre vs ns) (hl : ns.length ≤ sizeLine) (hr : Room k callerA)
    (F : ∀ base : Heap, K.In base → base.Ns mainGlobals mg → FnOk P w K mg base CX k fa fd [x] sp) (hbind : ∀ (s : Shared) (u : Value), BindsTo s fd ⟨[u], []⟩ [(x, u)])
    (hsp : ∀ H : Hp, Only H → SqL K H a (ns.map V.int) → sp [.ref a] H (fun v _ => v = .bl true) fun _ _ _ => False)
    (hCX : ∀ H e s', CX [] H s₁ (fun _ _ _ => False) e s' → False) :
    codeAny (model P w) callerA (.call (.ref fa) ⟨[.ref a], []⟩) (fun r s' => r = .ok (.ret (.bool true)) ∧ OldK s₁.heap s'.heap ∧ s'.os = s₁.os ∧ AllBare s'.gens) s₁ := by
  have rv := vals_ints hi
  have lenV := hi.length
  -- from an abstract heap in which nothing but the script may be tracked
  have core : ∀ H : Hp, Only H → SqL K H a (ns.map V.int) → HOk P w H s₁.heap → (∀ b, H b ≠ none → b = a) → (H a ≠ none → K.lookup a = none) →
      codeAny (model P w) callerA (.call (.ref fa) ⟨[.ref a], []⟩) (fun r s' => r = .ok (.ret (.bool true)) ∧ OldK s₁.heap s'.heap ∧ s'.os = s₁.os ∧ AllBare s'.gens) s₁ := by
    intro H hO hS hok hA hK
    have base_of : ∀ {b : Addr} {o : Obj}, s₁.heap.get? b = some o → H b = none → (hidT s₁.heap H).get? b = some o := fun e n => hidT_get e n
    have noA : ∀ {b : Addr} {o : Obj} {es : Array DictEntry} {ep : Nat}, s₁.heap.get? b = some o → o.data = .dict es ep → H b = none := fun {b o es ep} e d => by
      cases q : H b with
      | none => rfl
      | some u =>
        have e' : b = a := hA b (by rw [q]; simp)
        subst e'
        rw [ha] at e; cases e
        have d' : Data.seq vs.toArray _ = Data.dict es ep := d
        cases d'
    have nsK : ∀ {b : Addr} {m : Str → Option Value}, s₁.heap.Ns b m → (hidT s₁.heap H).Ns b m := fun {b m} ⟨o, es, ep, e, d, r⟩ => ⟨o, es, ep, base_of e (noA e d), d, r⟩
    have hKb : K.In (hidT s₁.heap H) := fun b o e => base_of (KX b o e) (by
      cases q : H b with
      | none => rfl
      | some u =>
        have e' : b = a := hA b (by rw [q]; simp)
        subst e'
        rw [hK (by rw [q]; simp)] at e; cases e)
    have hM : Mod K mg (hidT s₁.heap H) := ⟨hKb, nsK hns, ⟨mb, nsK hb, hbb⟩, let ⟨mc, h1, h2⟩ := hlim; ⟨mc, nsK h1, h2⟩⟩
    have e0 : Env0 P w K mg (hidT s₁.heap H) callerA [] s₁ H := ⟨rfl, hM, fun b o e => of_hidT e, Nat.le_of_eq (hidT_size _ _), trivial, fun b hb => absurd (show b ∈ ([] : List Addr) from hb) (by simp), hok, .of_eq hg⟩
    refine codeAny_mono ((F _ hKb (nsK hns)).run callerA [] s₁ H ⟨[.ref a], []⟩ [.ref a] [.ref a] _ _ hr e0 (hbind s₁ (.ref a)) (.cons rfl .nil) (hsp H hO hS)) fun r s' h => ?_
    cases r with
    | error e => exact (hCX H e s' h).elim
    | ok fl =>
      cases fl with
      | next => exact False.elim h
      | brk => exact False.elim h
      | cont => exact False.elim h
      | ret u =>
        obtain ⟨v, H', os, bare, un, hok', r', q⟩ := h
        have q' : v = .bl true := q
        subst q'
        obtain rfl : u = Value.bool true := r'
        refine ⟨rfl, OldK.of_keep fun b o e => ?_, os, bare⟩
        cases q : H b with
        | none => exact un.keep b o e q (by intro z; exact absurd (show b ∈ ([] : List Addr) from z) (by simp)) (by simp)
        | some u =>
          rcases hO b with z | ⟨ob, xs, z⟩
          · rw [q] at z; cases z
          · have z2 := un.frzs b ob _ z
            obtain ⟨e1, _⟩ := hok b _ z
            obtain ⟨e2, _⟩ := hok' b _ z2
            rw [e] at e1; cases e1
            exact e2
  cases hk : K.lookup a with
  | some o =>
    -- the script is one of the module's own objects
    have e := KX a o hk
    rw [ha] at e
    cases e
    refine core (fun _ => none) (fun _ => .inl rfl) (.inr ⟨_, vs.toArray, _, hk, rfl, rfl, rfl, by rw [List.size_toArray, lenV]; exact hl, by simpa using rv⟩) (fun b u z => by have z' : (none : Option HO) = some u := z; cases z') (fun b z => absurd rfl z) fun z => absurd rfl z
  | none =>
    refine core (fun b => if b = a then some (.frz { cls := .type "list", data := .seq vs.toArray } (.lst (ns.map V.int))) else none) (fun b => ?_) (.inl (.inr ⟨{ cls := .type "list", data := .seq vs.toArray }, if_pos rfl⟩)) (fun b u z => ?_) (fun b z => ?_) fun _ => hk
    · by_cases hb : b = a
      · exact .inr ⟨_, _, if_pos hb⟩
      · exact .inl (if_neg hb)
    · by_cases hb : b = a
      · have z' := (if_pos hb).symm.trans z
        cases z'
        subst hb
        exact ⟨ha, by rw [List.length_map]; exact hl, vs, _, rv, ha⟩
      · have z' := (if_neg hb).symm.trans z
        cases z'
    · by_cases hb : b = a
      · exact hb
      · exact absurd (if_neg hb) z
end L2
namespace L2
open PySem PySem.Spec PyProof.Rows
theorem walk_of {l : PySem.W.OpenLaw} {n k : Nat} {q : Program} {loose : List Str} {XP : (Str → Option Value) → Heap → Prop} {YP : World → Heap → Prop} {d : DefRec} {K : Params → PySem.W.Frag} {CX : World → CXT} {sp : World → Sp} {x : Str}
    (hn : l.most = some n) (hn2 : n ≤ sizeLine) (hdf : d.params.defaults = []) (hr : Room k callerA)
    (hY : ∀ (w : World) (h : Heap), YP w h → (K w.params).In h)
    (F : ∀ (w : World) (mg : Str → Option Value) (fa : Addr) (h : Heap), (K w.params).In h → h.Ns mainGlobals mg → mg d.name = some (.ref fa) →
      ∃ fd : FuncData, (∀ (s : Shared) (u : Value), BindsTo s fd ⟨[u], []⟩ [(x, u)]) ∧
        ∀ base : Heap, (K w.params).In base → base.Ns mainGlobals mg → FnOk l.prog w (K w.params) mg base (CX w) k fa fd [x] (sp w))
    (hsp : ∀ (w : World) (H : Hp) (a : Addr) (ns : List Int), ns.length ≤ n → Only H → SqL (K w.params) H a (ns.map V.int) → sp w [.ref a] H (fun v _ => v = .bl true) fun _ _ _ => False)
    (hCX : ∀ (w : World) (H : Hp) (s : Shared) (e : Value) (s' : Shared), CX w [] H s (fun _ _ _ => False) e s' → False) :
    PySem.W.WalkO q loose XP YP l.row.toRowW d [] (fun f vs => PySem.call f vs) := by
  refine Att.attach_call hn hdf fun w s₀ s₁ mg mb fa o pm cd doc a vs ns G Y ho hd hcd hmg hobj hints hlen hg => ?_
  have KX := hY w _ Y
  obtain ⟨fd, hb, hF⟩ := F w mg fa _ KX G.T.g hmg
  exact law_call KX G.T.g G.T.b G.T.builtins G.T.nolimit hg hobj hints (Nat.le_trans hlen hn2) hr hF hb (fun H hO hS => hsp w H a ns hlen hO hS) fun H e s' => hCX w H s₁ e s'
end L2
namespace L2
open PySem PySem.Spec PyProof.Rows
noncomputable def defArgs (s : Stmt) : Arguments := match s with
  | .FunctionDef _ a _ _ _ _ _ _ _ _ => a
  | _ => { posonlyargs := [], args := [], vararg := none, kwonlyargs := [], kw_defaults := [], kwarg := none, defaults := [] }
noncomputable def defBody (s : Stmt) : List Stmt := match s with
  | .FunctionDef _ _ b _ _ _ _ _ _ _ => b
  | _ => []
noncomputable def defScope (s : Stmt) : Scope := match s with
  | .FunctionDef _ _ _ _ _ _ sc _ _ _ => sc
  | _ => { kind := .function, names := [], isGenerator := false, isCoroutine := false }
noncomputable abbrev CX0 : CXT := fun _ _ _ _ _ _ => False
noncomputable abbrev E0 : XK := fun _ _ _ => False
theorem pass0 {X : Cx} : Passes CX0 X E0 := fun _ _ _ _ _ _ _ h => h.elim
structure Fun (K : PySem.W.Frag) (x qual : Str) (st : Stmt) (f : Addr) (fd : FuncData) : Prop where
  ex : ∃ (oc : Value) (od : Option Addr) (kV doc pm : Value) (an : Option Addr) (cdv ct : Value) (osl : Array (Option Value)),
    fd = PySem.W.fnOf x qual (defArgs st) (defBody st) (defScope st) .none kV doc pm an cdv ct ∧ K.lookup f = some ⟨oc, od, .func fd, osl⟩ ∧ PySem.W.codeIn K cdv qual = true
  kp : PySem.W.keepIn K (.ref f) = true
section
variable {P : Program} {w : World} {K : PySem.W.Frag} {mg : Str → Option Value} {base : Heap}
theorem Fun.ok {x qual : Str} {st : Stmt} {f : Addr} {fd : FuncData} {N ps : List Str} {k : Nat} {sp : Sp} (F : Fun K x qual st f fd) (S : FnScope N ps (defScope st)) (len : ∀ vs H Q E, sp vs H Q E → vs.length = ps.length)
    (hbody : ∀ (cdv : Value) (A : Around) (outer : List Env) (s : Shared) (H : Hp) (vs : List V) (Q : VK) (E : XK), Room k (A.deeper (envOfC qual (defScope st) s.heap.objs.size f cdv)) → sp vs H Q E →
      ∃ t, PSs (cxOf CX0 P w K mg base N qual (defScope st) f cdv A outer s H E).nox (defBody st) t ∧ t { nx := fun _ H' => Q .non H', rt := Q } (start N vs) H) : FnOk P w K mg base CX0 (k + 1) f fd ps sp := by
  obtain ⟨oc, od, kV, doc, pm, an, cdv, ct, osl, rfl, lk, hcd⟩ := F.ex
  refine fn_of lk hcd S len fun A outer s H vs Q E hr hsp => ?_
  obtain ⟨t, h, q⟩ := hbody cdv A outer s H vs Q E hr hsp
  exact ⟨t, h.nox, q⟩
theorem Fun.binds {x qual : Str} {st : Stmt} {f : Addr} {fd : FuncData} {ps : List Str} (F : Fun K x qual st f fd)
    (h : ∀ (kV doc pm : Value) (an : Option Addr) (cdv ct : Value) (us : List Value), us.length = ps.length → bindArgs (PySem.W.fnOf x qual (defArgs st) (defBody st) (defScope st) .none kV doc pm an cdv ct) ⟨us, []⟩ = pure (ps.zip us)) : Binds K fd ps [] := by
  obtain ⟨oc, od, kV, doc, pm, an, cdv, ct, osl, rfl, lk, hcd⟩ := F.ex
  exact .all (h kV doc pm an cdv ct)
theorem fun_mk {x qual : Str} {st : Stmt} {f : Addr} {oc : Value} {od an : Option Addr} {osl : Array (Option Value)} {kV doc pm cdv ct : Value} (l : K.lookup f = some ⟨oc, od, .func (PySem.W.fnOf x qual (defArgs st) (defBody st) (defScope st) .none kV doc pm an cdv ct), osl⟩)
    (c : PySem.W.codeIn K cdv qual = true) (k : PySem.W.keepIn K (.ref f) = true) : Fun K x qual st f (PySem.W.fnOf x qual (defArgs st) (defBody st) (defScope st) .none kV doc pm an cdv ct) := ⟨⟨oc, od, kV, doc, pm, an, cdv, ct, osl, rfl, l, c⟩, k⟩
end
theorem small1000 {n : Nat} (h : n ≤ 1000) : n < sizeLine := Nat.lt_of_le_of_lt h (by decide)
section
variable {X : Cx}
end
theorem ite2 {c A B : Prop} [Decidable c] (h1 : c → A) (h2 : ¬ c → B) : if c then A else B := by
  by_cases h : c
  · rw [if_pos h]
    exact h1 h
  · rw [if_neg h]
    exact h2 h
noncomputable def Same (H H' : Hp) : Prop := ∀ b o, H b = some o → H' b = some o
theorem Same.refl (H : Hp) : Same H H := fun _ _ h => h
theorem Same.trans {H H1 H2 : Hp} (a : Same H H1) (b : Same H1 H2) : Same H H2 := fun c o h => b c o (a c o h)
theorem Same.free {H H' : Hp} (e : Same H H') {l : Addr} (h : H' l = Option.none) : H l = Option.none := by
  cases q : H l with
  | none => rfl
  | some o =>
    rw [e l o q] at h
    cases h
theorem Same.seq {K : PySem.W.Frag} {H H' : Hp} {a : Addr} {xs : List V} (e : Same H H') (h : SqL K H a xs) : SqL K H' a xs := by
  rcases h with (h | ⟨o, h⟩) | h
  · exact .inl (.inl (e _ _ h))
  · exact .inl (.inr ⟨o, e _ _ h⟩)
  · exact .inr h
end L2
set_option maxHeartbeats 4000000
namespace L2
open PySem PySem.Spec PyProof.Rows
section
variable {κ : Type} [DecidableEq κ]
noncomputable def valV (kvs : List (κ × V)) (k : κ) : Option V := (kvs.find? fun kv => decide (kv.1 = k)).map (·.2)
noncomputable def putK (kvs : List (κ × V)) (k : κ) (v : V) : List (κ × V) :=
  if (kvs.any fun kv => decide (kv.1 = k)) = true then kvs.map (fun kv => if kv.1 = k then (kv.1, v) else kv) else kvs ++ [(k, v)]
noncomputable def dropK (kvs : List (κ × V)) (k : κ) : List (κ × V) := kvs.filter fun kv => decide (kv.1 ≠ k)
theorem valV_pos {p : κ × V} {r : List (κ × V)} {k : κ} (e : p.1 = k) : valV (p :: r) k = some p.2 := by simp [valV, List.find?_cons, e]
theorem valV_neg {p : κ × V} {r : List (κ × V)} {k : κ} (e : ¬ p.1 = k) : valV (p :: r) k = valV r k := by simp [valV, List.find?_cons, e]
theorem valV_any (k : κ) : ∀ kvs : List (κ × V), (kvs.any fun kv => decide (kv.1 = k)) = (valV kvs k).isSome
  | [] => rfl
  | p :: r => by
    rw [List.any_cons]
    by_cases e : p.1 = k
    · simp only [valV_pos e, decide_eq_true e, Bool.true_or, Option.isSome_some]
    · rw [valV_neg e, decide_eq_false e, Bool.false_or]; exact valV_any k r
theorem length_putK (kvs : List (κ × V)) (k : κ) (v : V) : (putK kvs k v).length ≤ kvs.length + 1 := by
  unfold putK
  split
  · rw [List.length_map]; omega
  · rw [List.length_append, List.length_cons, List.length_nil]; omega
theorem putK_new {kvs : List (κ × V)} {k : κ} (v : V) (h : valV kvs k = none) : putK kvs k v = kvs ++ [(k, v)] := by
  unfold putK
  rw [valV_any, h]
  exact if_neg (by decide)
theorem RelO.isSome_eq {o : Option V} {u : Option Value} (r : RelO o u) : o.isSome = u.isSome := by
  cases o with
  | none => cases u with
    | none => rfl
    | some _ => exact (show False from r).elim
  | some _ => cases u with
    | none => exact (show False from r).elim
    | some _ => rfl
theorem RelO.getD {o : Option V} {u : Option Value} {d : V} {d' : Value} (r : RelO o u) (rd : RelV d d') : RelV (o.getD d) (u.getD d') := by
  cases o with
  | none => cases u with
    | none => exact rd
    | some _ => exact (show False from r).elim
  | some _ => cases u with
    | none => exact (show False from r).elim
    | some _ => exact r
theorem KV.val {kvs : List (κ × V)} {vs : List (κ × Value)} (r : KV kvs vs) (k : κ) : RelO (valV kvs k) (valueAt vs k) := by
  unfold KV at r
  induction r with
  | nil => exact True.intro
  | @cons p q ps qs h t ih =>
    obtain ⟨h1, h2⟩ := h
    by_cases e : p.1 = k
    · have e' : q.1 = k := h1.symm.trans e
      have b : valueAt (q :: qs) k = some q.2 := by simp [valueAt, List.find?_cons, e']
      rw [valV_pos e, b]; exact h2
    · have e' : ¬ q.1 = k := fun z => e (h1.trans z)
      have b : valueAt (q :: qs) k = valueAt qs k := by simp [valueAt, List.find?_cons, e']
      rw [valV_neg e, b]; exact ih
theorem KV.any {kvs : List (κ × V)} {vs : List (κ × Value)} (r : KV kvs vs) (k : κ) : (kvs.any fun kv => decide (kv.1 = k)) = vs.any fun kv => decide (kv.1 = k) := by
  unfold KV at r
  induction r with
  | nil => rfl
  | cons h t ih => rw [List.any_cons, List.any_cons, ih, h.1]
theorem KV.repl {kvs : List (κ × V)} {vs : List (κ × Value)} (r : KV kvs vs) (k : κ) {y : V} {u : Value} (ry : RelV y u) :
    KV (kvs.map fun kv => if kv.1 = k then (kv.1, y) else kv) (vs.map fun kv => if kv.1 = k then (kv.1, u) else kv) := by
  unfold KV at r ⊢
  induction r with
  | nil => exact .nil
  | @cons p q ps qs h t ih =>
    rw [List.map_cons, List.map_cons]
    refine .cons ?_ ih
    obtain ⟨h1, h2⟩ := h
    by_cases e : p.1 = k
    · rw [if_pos e, if_pos (h1.symm.trans e)]; exact ⟨h1, ry⟩
    · rw [if_neg e, if_neg (fun z => e (h1.trans z))]; exact ⟨h1, h2⟩
theorem KV.put {kvs : List (κ × V)} {vs : List (κ × Value)} (r : KV kvs vs) (k : κ) {y : V} {u : Value} (ry : RelV y u) : KV (putK kvs k y) (stored vs k u) := by
  unfold putK stored
  rw [r.any k]
  by_cases e : (vs.any fun kv => decide (kv.1 = k)) = true
  · rw [if_pos e, if_pos e]; exact r.repl k ry
  · rw [if_neg e, if_neg e]; exact Paired.snoc r ⟨rfl, ry⟩
theorem KV.drop {kvs : List (κ × V)} {vs : List (κ × Value)} (r : KV kvs vs) (k : κ) : KV (dropK kvs k) (without vs k) := by
  unfold KV at r ⊢
  unfold dropK without
  induction r with
  | nil => exact .nil
  | @cons p q ps qs h t ih =>
    obtain ⟨h1, h2⟩ := h
    rw [List.filter_cons, List.filter_cons]
    by_cases e : p.1 = k
    · have a : ¬ decide (p.1 ≠ k) = true := by simp [e]
      have b : ¬ decide (q.1 ≠ k) = true := by simp [h1.symm.trans e]
      rw [if_neg a, if_neg b]; exact ih
    · have e' : ¬ q.1 = k := fun z => e (h1.trans z)
      have a : decide (p.1 ≠ k) = true := by simp [e]
      have b : decide (q.1 ≠ k) = true := by simp [e']
      rw [if_pos a, if_pos b]; exact .cons ⟨h1, h2⟩ ih
theorem KV.keys {kvs : List (κ × V)} {vs : List (κ × Value)} (r : KV kvs vs) : kvs.map (·.1) = vs.map (·.1) := by
  unfold KV at r
  induction r with
  | nil => rfl
  | cons h t ih => rw [List.map_cons, List.map_cons, ih, h.1]
theorem KV.length {kvs : List (κ × V)} {vs : List (κ × Value)} (r : KV kvs vs) : kvs.length = vs.length := Paired.length r
end
theorem kV_is {P : Program} {w : World} {k : Key} {u : Value} (r : RelV (kV k) u) : (mixKind P w).is k u = true := by
  cases k with
  | inl i => obtain ⟨t, e⟩ := (show ∃ t, u = Value.int i t from r); subst e; exact mixKind_int P w i t
  | inr x => obtain ⟨t, e⟩ := (show ∃ t, u = Value.str x t from r); subst e; exact mixKind_str P w x t
theorem items_are {P : Program} {w : World} : ∀ {ks : List Key} {us : List Value}, Vals (ks.map kV) us → ItemsAre (mixKind P w) ks us
  | [], _, r => by rw [List.map_nil] at r; cases r; exact .nil
  | k :: ks, _, r => by
    rw [List.map_cons] at r
    cases r with
    | cons h t => exact .cons (kV_is h) (items_are t)
noncomputable abbrev KT (H : Hp) : List (List Key × V) → List (List Key × Addr × Value) → Prop := Paired fun p q => p.1 = q.1 ∧ H q.2.1 = some (.tup (p.1.map kV)) ∧ RelV p.2 q.2.2
theorem KT.val {H : Hp} {kvs : List (List Key × V)} {xs : List (List Key × Addr × Value)} (r : KT H kvs xs) (k : List Key) : RelO (valV kvs k) ((atKey xs k).map (·.2)) := by
  induction r with
  | nil => exact True.intro
  | @cons p q ps qs h t ih =>
    obtain ⟨h1, _, h2⟩ := h
    by_cases e : p.1 = k
    · have e' : q.1 = k := h1.symm.trans e
      have b : atKey (q :: qs) k = some q.2 := by simp [atKey, List.find?_cons, e']
      rw [valV_pos e, b]; exact h2
    · have e' : ¬ q.1 = k := fun z => e (h1.trans z)
      have b : atKey (q :: qs) k = atKey qs k := by simp [atKey, List.find?_cons, e']
      rw [valV_neg e, b]; exact ih
theorem KT.repl {H : Hp} {kvs : List (List Key × V)} {xs : List (List Key × Addr × Value)} (r : KT H kvs xs) (k : List Key) {y : V} {u : Value} (ry : RelV y u) :
    KT H (kvs.map fun kv => if kv.1 = k then (kv.1, y) else kv) (xs.map (putAt k u)) := by
  induction r with
  | nil => exact .nil
  | @cons p q ps qs h t ih =>
    rw [List.map_cons, List.map_cons]
    refine .cons ?_ ih
    obtain ⟨h1, h2, h3⟩ := h
    unfold putAt
    by_cases e : p.1 = k
    · rw [if_pos e, if_pos (h1.symm.trans e)]; exact ⟨h1, h2, ry⟩
    · rw [if_neg e, if_neg (fun z => e (h1.trans z))]; exact ⟨h1, h2, h3⟩
theorem KT.put {H : Hp} {kvs : List (List Key × V)} {xs : List (List Key × Addr × Value)} (r : KT H kvs xs) (k : List Key) {b : Addr} {y : V} {u : Value} (hb : H b = some (.tup (k.map kV))) (ry : RelV y u) :
    KT H (putK kvs k y) (storedH xs k b u) := by
  have e : (kvs.any fun kv => decide (kv.1 = k)) = (atKey xs k).isSome := by
    rw [valV_any, (r.val k).isSome_eq, Option.isSome_map]
  unfold putK storedH
  rw [e]
  by_cases q : (atKey xs k).isSome = true
  · rw [if_pos q, if_pos q]; exact r.repl k ry
  · rw [if_neg q, if_neg q]; exact Paired.snoc r ⟨rfl, hb, ry⟩
theorem KT.keeps {H H' : Hp} {kvs : List (List Key × V)} {xs : List (List Key × Addr × Value)} (r : KT H kvs xs) (ht : ∀ b ys, H b = some (.tup ys) → H' b = some (.tup ys)) : KT H' kvs xs :=
  Paired.mapP r fun _ _ z => ⟨z.1, ht _ _ z.2.1, z.2.2⟩
section
variable {P : Program} {w : World} {H : Hp} {h : Heap} {a : Addr}
theorem rd_of {u : HO} (ok : HOk P w H h) (e : Rd H a u) : ObjOk P w H h a u := e.ok ok
theorem dk_rd {kvs : List (Key × V)} (ok : HOk P w H h) (e : Rd H a (.dK kvs)) : kvs.length ≤ sizeLine ∧ (a == sysModules) = false ∧ ∃ vs, KV kvs vs ∧ h.DictOf (mixKind P w) a vs :=
  show ObjOk P w H h a (.dK kvs) from rd_of ok e
theorem dk_of {kvs : List (Key × V)} (ok : HOk P w H h) (e : H a = some (.dK kvs)) : kvs.length ≤ sizeLine ∧ (a == sysModules) = false ∧ ∃ vs, KV kvs vs ∧ h.DictOf (mixKind P w) a vs := dk_rd ok (.inl e)
theorem key_of {ks : List Key} (ok : HOk P w H h) (e : H a = some (.tup (ks.map kV))) : (tupleKind (mixKind P w)).is h ks a := by
  obtain ⟨_, its, r, o, h1, h2, n, h3⟩ := (show ObjOk P w H h a (.tup (ks.map kV)) from ok a _ e)
  exact ⟨o, its.toArray, n, h1, h2, h3, by simpa using items_are r⟩
theorem dt_rd {kvs : List (List Key × V)} (ok : HOk P w H h) (e : Rd H a (.dT kvs)) : kvs.length ≤ sizeLine ∧ (a == sysModules) = false ∧
    ∃ xs, KT H kvs xs ∧ h.DictOfH (tupleKind (mixKind P w)) a xs := by
  obtain ⟨z, y, xs, r, o, es, ep, h1, h2, h3, h4, h5⟩ := (show ObjOk P w H h a (.dT kvs) from rd_of ok e)
  refine ⟨z, y, xs, r, o, es, ep, h1, h2, h3, h4, fun x hx => ?_, h5⟩
  have all : ∀ {l : List (List Key × V)} {m : List (List Key × Addr × Value)}, KT H l m → ∀ x ∈ m, (tupleKind (mixKind P w)).is h x.1 x.2.1 := by
    intro l m q
    induction q with
    | nil => intro x hx; exact nomatch hx
    | @cons p q ps qs hq t ih =>
      intro x hx
      rcases List.mem_cons.mp hx with e | hx
      · subst e
        exact key_of ok (by rw [← hq.1]; exact hq.2.1)
      · exact ih x hx
  exact all r x hx
theorem dt_of {kvs : List (List Key × V)} (ok : HOk P w H h) (e : H a = some (.dT kvs)) : kvs.length ≤ sizeLine ∧ (a == sysModules) = false ∧
    ∃ xs, KT H kvs xs ∧ h.DictOfH (tupleKind (mixKind P w)) a xs := dt_rd ok (.inl e)
end
noncomputable def DGet (H : Hp) (a : Addr) (y : V) (r : Option V) : Prop :=
  (∃ kvs k, Rd H a (.dK kvs) ∧ y = kV k ∧ r = valV kvs k) ∨ ∃ kvs k b, Rd H a (.dT kvs) ∧ y = .ref b ∧ H b = some (.tup (k.map kV)) ∧ r = valV kvs k
noncomputable def DPut (H : Hp) (a : Addr) (y v : V) (H' : Hp) : Prop :=
  (∃ kvs k, H a = some (.dK kvs) ∧ y = kV k ∧ kvs.length < sizeLine ∧ H' = upd H a (.dK (putK kvs k v))) ∨
  ∃ kvs k b, H a = some (.dT kvs) ∧ y = .ref b ∧ H b = some (.tup (k.map kV)) ∧ kvs.length < sizeLine ∧ H' = upd H a (.dT (putK kvs k v))
theorem DGet.k {H : Hp} {a : Addr} {kvs : List (Key × V)} {k : Key} (e : H a = some (.dK kvs)) : DGet H a (kV k) (valV kvs k) := .inl ⟨kvs, k, .inl e, rfl, rfl⟩
theorem DGet.t {H : Hp} {a b : Addr} {kvs : List (List Key × V)} {k : List Key} (e : H a = some (.dT kvs)) (eb : H b = some (.tup (k.map kV))) : DGet H a (.ref b) (valV kvs k) := .inr ⟨kvs, k, b, .inl e, rfl, eb, rfl⟩
theorem DPut.k {H : Hp} {a : Addr} {kvs : List (Key × V)} {k : Key} {v : V} (e : H a = some (.dK kvs)) (hl : kvs.length < sizeLine) : DPut H a (kV k) v (upd H a (.dK (putK kvs k v))) := .inl ⟨kvs, k, e, rfl, hl, rfl⟩
theorem DPut.t {H : Hp} {a b : Addr} {kvs : List (List Key × V)} {k : List Key} {v : V} (e : H a = some (.dT kvs)) (eb : H b = some (.tup (k.map kV))) (hl : kvs.length < sizeLine) :
    DPut H a (.ref b) v (upd H a (.dT (putK kvs k v))) := .inr ⟨kvs, k, b, e, rfl, eb, hl, rfl⟩
section
variable {X : Cx} {pins : List (Addr × Obj)} {σ : St} {H : Hp} {s : Shared} {a : Addr} {y v : V} {u r : Value} {o : Option V} {A : Around} {E : Value → Shared → Prop}
theorem Inv.big (I : Inv X pins σ H s) : sysModules < s.heap.objs.size := by
  have h : mainGlobals < s.heap.objs.size := (I.mod.glob.keeps I.bk).lt
  exact Nat.lt_trans (by decide) h
theorem d_getItem {Q : Value → Shared → Prop} (hu : A.units + 1 < cLine) (I : Inv X pins σ H s) (g : DGet H a y (some v)) (ry : RelV y u) (h : ∀ w' s', Inv X pins σ H s' → RelV v w' → Q w' s') :
    wpAny (model X.prog X.w) A (getItem (.ref a) u) Q E s := by
  rcases g with ⟨kvs, k, e, ey, l⟩ | ⟨kvs, k, b, e, ey, eb, l⟩
  · subst ey
    obtain ⟨z, hd, vs, rel, dd⟩ := dk_rd I.hok e
    obtain ⟨w', hw, rw'⟩ := RelO.some_of (v := v) (o := valueAt vs k) (by rw [l]; exact rel.val k)
    exact wpAny_getItem_of (kV_is ry) dd.mapOf hw (h w' _ (I.tok _) rw')
  · subst ey
    cases (show u = Value.ref b from ry)
    obtain ⟨z, hd, xs, rel, dd⟩ := dt_rd I.hok e
    obtain ⟨w', hw, rw'⟩ := RelO.some_of (v := v) (o := (atKey xs k).map (·.2)) (by rw [l]; exact rel.val k)
    obtain ⟨p, hp, hp2⟩ := Option.map_eq_some_iff.mp hw
    refine wpAny_getItem_heap (tupleKind_room_in1 hu) (key_of I.hok eb) dd hp ?_
    rw [hp2]
    exact h w' _ (I.tok _) rw'
theorem d_in {Q : Value → Shared → Prop} (hu : A.units + 1 < cLine) (I : Inv X pins σ H s) (g : DGet H a y o) (ry : RelV y u) (h : ∀ s', Inv X pins σ H s' → Q (.bool o.isSome) s') :
    wpAny (model X.prog X.w) A (compareOp .In u (.ref a)) Q E s := by
  rcases g with ⟨kvs, k, e, ey, l⟩ | ⟨kvs, k, b, e, ey, eb, l⟩
  · subst ey
    obtain ⟨z, hd, vs, rel, dd⟩ := dk_rd I.hok e
    refine wpAny_in_of (kV_is ry) hd dd.mapOf ?_
    rw [← (rel.val k).isSome_eq, ← l]
    exact h _ (I.tok _)
  · subst ey
    cases (show u = Value.ref b from ry)
    obtain ⟨z, hd, xs, rel, dd⟩ := dt_rd I.hok e
    refine wpAny_in_heap (tupleKind_room_in1 hu) (key_of I.hok eb) hd dd ?_
    have q := (rel.val k).isSome_eq
    rw [Option.isSome_map] at q
    rw [← q, ← l]
    exact h _ (I.tok _)
theorem d_write {h' : Heap} {t' : Nat} {ob : HO} (I : Inv X pins σ H s) (mu : Mut (H a)) (hs : Heap.SameBut a s.heap h') (he : ∃ q, h'.get? a = some q) (new : ObjOk X.prog X.w (upd H a ob) h' a ob) :
    Inv X pins σ (upd H a ob) { s with heap := h', toks := t' } :=
  I.write (x := a) (e := a) mu (.inl rfl) (fun b q hb z => (hs.2 b hb).trans z) he new
theorem dk_new {P : Program} {w : World} {H' : Hp} {h' : Heap} {kvs : List (Key × V)} {vs : List (Key × Value)} (z : kvs.length ≤ sizeLine) (hd : (a == sysModules) = false) (rel : KV kvs vs) (dd : h'.DictOf (mixKind P w) a vs) :
    ObjOk P w H' h' a (.dK kvs) := ⟨z, hd, vs, rel, dd⟩
theorem d_setItem {H' : Hp} {Q : Unit → Shared → Prop} (hu : A.units + 1 < cLine) (I : Inv X pins σ H s) (g : DPut H a y v H') (ry : RelV y u) (rv : RelV v r) (h : ∀ s', Inv X pins σ H' s' → Q () s') :
    wpAny (model X.prog X.w) A (setItem (.ref a) u r) Q E s := by
  rcases g with ⟨kvs, k, e, ey, l, eH⟩ | ⟨kvs, k, b, e, ey, eb, l, eH⟩
  · subst ey eH
    obtain ⟨z, hd, vs, rel, dd⟩ := dk_of I.hok e
    have hz : vs.length ≤ sizeLine := by rw [← rel.length]; exact z
    have hl : (putK kvs k v).length ≤ sizeLine := by have := length_putK kvs k v; omega
    refine wpAny_setItem_pairs (hsz := hz) (kV_is ry) dd fun h' dd' hs => h _ ?_
    have he : ∃ q, h'.get? a = some q := let ⟨q, _, _, hq, _⟩ := dd'; ⟨q, hq⟩
    exact d_write I (by rw [e]; exact True.intro) hs he (dk_new hl hd (rel.put k rv) dd')
  · subst ey eH
    cases (show u = Value.ref b from ry)
    obtain ⟨z, hd, xs, rel, dd⟩ := dt_of I.hok e
    have hz : xs.length ≤ sizeLine := by rw [← Paired.length rel]; exact z
    have hl : (putK kvs k v).length ≤ sizeLine := by have := length_putK kvs k v; omega
    refine wpAny_setItem_heap (hsz := hz) (tupleKind_room_in1 hu) (key_of I.hok eb) dd fun h' dd' hs => h _ ?_
    obtain ⟨q, es, ep, hq, h2, h3, h4, _, h5⟩ := dd'
    refine d_write I (by rw [e]; exact True.intro) hs ⟨q, hq⟩ ⟨hl, hd, _, (rel.put k eb rv).keeps fun c ys ec => ?_, q, es, ep, hq, h2, h3, h4, h5⟩
    rw [upd_ne (ne_of ec e (fun z => nomatch z))]
    exact ec
end
section
variable {X : Cx} {pins : List (Addr × Obj)} {σ : St} {H : Hp} {s : Shared} {a : Addr} {kvs : List (Key × V)} {k : Key} {u : Value} {A : Around} {E : Value → Shared → Prop}
theorem d_len {Q : Value → Shared → Prop} (I : Inv X pins σ H s) (e : Rd H a (.dK kvs)) (h : ∀ t s', Inv X pins σ H s' → Q (.int kvs.length t) s') : wpAny (model X.prog X.w) A (call (.builtin "len") [.ref a]) Q E s := by
  obtain ⟨z, hd, vs, rel, dd⟩ := dk_rd I.hok e
  refine call_len_dict hd dd (by rw [← rel.length]; rw [sizeLine_eq] at z; omega) ?_
  rw [← rel.length]
  exact h _ _ (I.tok _)
end
noncomputable def NoSl (i : Expr) : Prop := ∀ ov iv, subscripted i false ov iv = operate [ov, iv] (getItem ov iv)
theorem subD_of {prog : Program} {w : World} {A : Around} {E : Value → Shared → Prop} {s : Shared} {env : Env} {value slice : Expr} {pos : Pos} {T id : String} {Q : Value → Shared → Prop}
    (hl : typeLookup (.type T) "__getitem__" = pure (some (.builtin id))) (hs : NoSl slice)
    (h : wpAny (model prog w) A (eval value env) (fun o s₁ => wpAny (model prog w) A (eval slice env) (fun i s₂ => s₂.TypeIs o T ∧ wpAny (model prog w) A (getItem o i) Q E s₂) E s₁) E s) :
    wpAny (model prog w) A (eval (.Subscript value slice pos) env) Q E s := by
  refine Subscript_ (wpAny_mono h (fun o s₁ h₁ => wpAny_mono h₁ (fun i s₂ h₂ => ?_) fun _ _ x => x) fun _ _ x => x)
  obtain ⟨hT, h₂⟩ := h₂
  unfold subscriptTail
  refine wpAny_bind ?_
  rw [getitemInPython_of_ne hT.not_modules]
  refine wpAny_bind (wpAny_specialOf hT hl ?_)
  have fin : wpAny (model prog w) A (subscripted slice false o i) (fun r s₃ => wpAny (model prog w) A (letTemporaryGo value o r >>= fun _ => pure r) Q E s₃) E s₂ := by
    rw [hs o i]
    exact wpAny_operating (wpAny_mono h₂ (fun r s₃ h₃ => wpAny_bind (wpAny_letTemporaryGo (wpAny_pure h₃))) fun _ _ x => x)
  first
    | exact wpAny_pure (wpAny_bind fin)
    | exact wpAny_bind (wpAny_pure (wpAny_bind fin))
    | exact wpAny_bind fin
theorem dict_typeIs {X : Cx} {pins : List (Addr × Obj)} {σ : St} {H : Hp} {s : Shared} {a : Addr} {y : V} {o : Option V} (I : Inv X pins σ H s) (g : DGet H a y o) : s.TypeIs (.ref a) "dict" := by
  rcases g with ⟨kvs, k, e, _, _⟩ | ⟨kvs, k, b, e, _, _, _⟩
  · obtain ⟨_, _, vs, _, dd⟩ := dk_rd I.hok e
    exact dd.typeIs
  · obtain ⟨_, _, xs, _, dd⟩ := dt_rd I.hok e
    exact dd.typeIs
noncomputable def tDGet (td ty : TE) : TE := fun σ H Q => td σ H fun x H1 => ty σ H1 fun y H2 => ∃ a v, x = .ref a ∧ DGet H2 a y (some v) ∧ Q v H2
noncomputable def tDIn (ty td : TE) : TE := fun σ H Q => ty σ H fun y H1 => td σ H1 fun x H2 => ∃ a o, x = .ref a ∧ DGet H2 a y o ∧ Q (.bl o.isSome) H2
noncomputable def sDPut (td ty tv : TE) : TS := fun D σ H => tv σ H fun v H1 => td σ H1 fun x H2 => ty σ H2 fun y H3 => ∃ a H4, x = .ref a ∧ DPut H3 a y v H4 ∧ D.nx σ H4
section
variable {X : Cx} {o i e value : Expr} {pos pos' tpos : Pos} {td ty tv : TE}
theorem pe_dget (hu : X.A.units + 1 < cLine) (ho : PE X o td) (hi : PE X i ty) (hs : NoSl i) : PE X (.Subscript o i pos) (tDGet td ty) := by
  intro pins s σ H Q I h
  refine subD_of PySem.F.slot_dict_getitem.lookup hs (thn (ho pins s σ H _ I h) fun u s1 ⟨x, H1, I1, rx, q1⟩ => thn (hi pins s1 σ H1 _ I1 q1) fun iv s2 ⟨y, H2, I2, ry, a, v, ex, g, q2⟩ => ?_)
  subst ex
  obtain rfl : u = Value.ref a := rx
  exact ⟨dict_typeIs I2 g, d_getItem hu I2 g ry fun w' s3 I3 rw' => ⟨v, H2, I3, rw', q2⟩⟩
theorem pc_din (hu : X.A.units + 1 < cLine) (hi : PE X i ty) (ho : PE X o td) : PC X .In i o (tDIn ty td) := by
  intro pins s σ H Q I h
  refine thn (hi pins s σ H _ I h) fun iv s1 ⟨y, H1, I1, ry, q1⟩ => thn (ho pins s1 σ H1 _ I1 q1) fun u s2 ⟨x, H2, I2, rx, a, ov, ex, g, q2⟩ => ?_
  subst ex
  obtain rfl : u = Value.ref a := rx
  exact d_in hu I2 g ry fun s3 I3 => ⟨.bl ov.isSome, H2, I3, rfl, q2⟩
theorem ps_dput (hu : X.A.units + 1 < cLine) (ho : PE X o td) (hi : PE X i ty) (hv : PE X value tv) (hs : swapsWith value (some (.Subscript o i pos')) pos.line X.env = pure false) :
    PS X (.Assign [.Subscript o i pos'] value pos) (sDPut td ty tv) := by
  intro pins s σ H D I h
  refine wpAny_Assign_Subscript (thn (hv pins s σ H _ I h) fun r s1 ⟨v, H1, I1, rv, q1⟩ => thn (ho pins s1 σ H1 _ I1 q1) fun u s2 ⟨x, H2, I2, rx, q2⟩ => thn (hi pins s2 σ H2 _ I2 q2) fun iv s3 ⟨y, H3, I3, ry, a, H4, ex, g, q3⟩ => ?_) hs
  subst ex
  obtain rfl : u = Value.ref a := rx
  exact d_setItem hu I3 g ry rv fun s4 I4 => ⟨σ, H4, I4, q3⟩
end
theorem dk_empty {P : Program} {w : World} {H : Hp} (h : Heap) (hb : sysModules < h.objs.size) : ObjOk P w H (h.push { cls := .type "dict", data := .dict #[] }) h.objs.size (.dK []) :=
  ⟨Nat.zero_le _, beq_eq_false_iff_ne.mpr (Ne.symm (Nat.ne_of_lt hb)), [], .nil, Heap.DictOf.new h⟩
noncomputable def tDNewK : TE := fun _ H Q => ∀ p, H p = none → Q (.ref p) (upd H p (.dK []))
section
variable {X : Cx} {pos : Pos}
theorem pe_dnewK : PE X (.Dict [] [] pos) tDNewK := fun pins s σ H Q I h =>
  wpAny_Dict_empty ⟨.ref s.heap.objs.size, _, I.laid (a := s.heap.objs.size) (o := .dK []) (t' := s.toks) (fun _ _ q => Heap.get?_push_of_some _ q) (Nat.le_refl _) (dk_empty s.heap I.big), rfl, h _ (I.hok.fresh (Nat.le_refl _))⟩
end
section
variable {X : Cx} {pins : List (Addr × Obj)} {σ : St} {H : Hp} {s : Shared} {a : Addr} {y d : V} {u r : Value} {o : Option V} {A : Around} {E : Value → Shared → Prop}
end
section
variable {X : Cx} {o e f : Expr} {apos cpos : Pos} {td ty tx : TE}
end
section
variable {X : Cx} {pins : List (Addr × Obj)} {σ : St} {H : Hp} {s : Shared} {a : Addr} {kvs : List (Key × V)} {A : Around} {E : Value → Shared → Prop}
end
section
variable {X : Cx} {pins : List (Addr × Obj)} {σ : St} {H : Hp} {s : Shared} {a : Addr} {y : V} {u : Value} {A : Around} {E : Value → Shared → Prop}
end
end L2
namespace L2
open PySem PySem.Spec PyProof.Rows
noncomputable def rl (scope osc : Scope) : Scope :=
  { scope with names := scope.names.map fun (n, k) => if (k == .free && osc.kind == .function && osc.names.lookup n == some .cell) then (n, .cell) else (n, k) }
noncomputable def cloL (env : Env) : List (Str × NameKind) → List (Str × Addr) → List (Str × Addr)
  | [], cs => cs
  | (n, k) :: r, cs => if (k == NameKind.free) = true then cloL env r ((n, (env.cells.lookup n).getD 0) :: cs) else cloL env r cs
theorem closureFor_go {env : Env} : ∀ (names : List (Str × NameKind)) (cs : List (Str × Addr)), (∀ x ∈ names, x.2 = .free → ∃ c, env.cells.lookup x.1 = some c) →
    (forIn names cs fun (x : Str × NameKind) (r : List (Str × Addr)) => if (x.2 == NameKind.free) = true then (do let y ← cellOf env x.1; pure (ForInStep.yield ((x.1, y) :: r))) else (pure (ForInStep.yield r) : Sem _)) = (pure (cloL env names cs) : Sem _)
  | [], cs, _ => rfl
  | (n, k) :: r, cs, h => by
    have ih := fun cs' => closureFor_go (env := env) r cs' fun x hx => h x (List.mem_cons_of_mem _ hx)
    rw [List.forIn_cons]
    by_cases hk : (k == NameKind.free) = true
    · obtain ⟨c, hc⟩ := h (n, k) List.mem_cons_self (by simpa using hk)
      have hc' : env.cells.lookup n = some c := hc
      have e1 : cellOf env n = (pure c : Sem Addr) := by unfold cellOf; rw [hc']
      simp only [hk, if_true, e1, pure_bind]
      rw [ih]
      have e2 : cloL env ((n, k) :: r) cs = cloL env r ((n, c) :: cs) := by
        show (if (k == NameKind.free) = true then cloL env r ((n, (env.cells.lookup n).getD 0) :: cs) else cloL env r cs) = _
        rw [if_pos hk, hc'] <;> rfl
      rw [e2]
    · simp only [hk, if_false, pure_bind]
      show (forIn r cs _ : Sem _) = _
      rw [ih]
      have e2 : cloL env ((n, k) :: r) cs = cloL env r cs := by
        show (if (k == NameKind.free) = true then cloL env r ((n, (env.cells.lookup n).getD 0) :: cs) else cloL env r cs) = _
        rw [if_neg hk]
      rw [e2]
theorem closureFor_is {scope : Scope} {env : Env} (h : ∀ x ∈ scope.names, x.2 = .free → ∃ c, env.cells.lookup x.1 = some c) : closureFor scope env = pure (cloL env scope.names []) := by
  have q := closureFor_go scope.names [] h
  show ((forIn scope.names ([] : List (Str × Addr)) fun (x : Str × NameKind) (r : List (Str × Addr)) => if (x.2 == NameKind.free) = true then (do let y ← cellOf env x.1; pure (ForInStep.yield ((x.1, y) :: r))) else (pure (ForInStep.yield r) : Sem _)) >>= fun cs => pure cs) = _
  rw [q, pure_bind]
theorem cloL_sub {env : Env} : ∀ (names : List (Str × NameKind)) (cs : List (Str × Addr)), (∀ x ∈ names, x.2 = .free → ∃ c, env.cells.lookup x.1 = some c) → (∀ x c, cs.lookup x = some c → env.cells.lookup x = some c) →
    ∀ x c, (cloL env names cs).lookup x = some c → env.cells.lookup x = some c
  | [], _, _, h, x, c, e => h x c e
  | (n, k) :: r, cs, hf, h, x, c, e => by
    have hr : ∀ x ∈ r, x.2 = .free → ∃ c, env.cells.lookup x.1 = some c := fun x hx => hf x (List.mem_cons_of_mem _ hx)
    unfold cloL at e
    by_cases hk : (k == NameKind.free) = true
    · rw [if_pos hk] at e
      obtain ⟨c', hc⟩ := hf (n, k) List.mem_cons_self (by simpa using hk)
      have hc' : env.cells.lookup n = some c' := hc
      refine cloL_sub r _ hr (fun y d q => ?_) x c e
      rw [List.lookup_cons] at q
      cases hy : y == n with
      | true =>
        rw [hy] at q
        have : y = n := by simpa using hy
        subst this
        rw [hc'] at q
        cases q
        exact hc'
      | false => rw [hy] at q; exact h y d q
    · rw [if_neg hk] at e
      exact cloL_sub r cs hr h x c e
theorem cloL_keep {env : Env} : ∀ (names : List (Str × NameKind)) (cs : List (Str × Addr)) (x : Str), (∃ c, cs.lookup x = some c) → ∃ c, (cloL env names cs).lookup x = some c
  | [], _, _, h => h
  | (n, k) :: r, cs, x, h => by
    unfold cloL
    split
    · refine cloL_keep r _ x ?_
      rw [List.lookup_cons]
      cases hy : x == n with
      | true => exact ⟨_, rfl⟩
      | false => exact h
    · exact cloL_keep r cs x h
theorem cloL_has {env : Env} : ∀ (names : List (Str × NameKind)) (cs : List (Str × Addr)) (x : Str), (x, NameKind.free) ∈ names → ∃ c, (cloL env names cs).lookup x = some c
  | [], _, _, h => (nomatch h)
  | (n, k) :: r, cs, x, h => by
    unfold cloL
    rcases List.mem_cons.mp h with e | h
    · cases e
      rw [if_pos (by rfl)]
      exact cloL_keep r _ _ ⟨_, by rw [List.lookup_cons, beq_self_eq_true]⟩
    · split
      · exact cloL_has r _ x h
      · exact cloL_has r cs x h
structure CSc (osc : Scope) (oN N : List Str) (scope : Scope) (fv : List (Option Nat)) : Prop where
  kind : scope.kind = .function
  okind : osc.kind = .function
  nocell : ∀ y ∈ scope.names, y.2 ≠ .cell
  loc : ∀ y ∈ scope.names, y.2 = .local → scope.names.lookup y.1 = some .local
  fre : ∀ y ∈ scope.names, y.2 = .free → osc.names.lookup y.1 = some .cell
  own : ∀ y ∈ (rl scope osc).names, y.2 ≠ .free
  len : fv.length = N.length
  up : ∀ (i j : Nat), i < 20 → fv[i]? = some (some j) → oN[j]? = N[i]? ∧ ∀ x, N[i]? = some x → (rl scope osc).names.lookup x = some .cell ∧ osc.names.lookup x = some .cell
  few : N.length < 20
noncomputable def upS (fv : List (Option Nat)) (σ : St) : St := fv.map fun o => match o with
  | none => none
  | some j => (σ[j]?).join
noncomputable def cxC (X : Cx) (N : List Str) (scope : Scope) (cl : List (Str × Addr)) (C : Addr) (fp : List Addr) (s : Shared) (H : Hp) : Cx where
  prog := X.prog
  w := X.w
  K := X.K
  mg := X.mg
  base := X.base
  A := X.A
  N := N
  s₀ := s
  H₀ := H
  env := compEnvC scope cl C X.env
  outer := X.stack
  stack := X.stack
  ex := fp
  fn := fun _ => false
  calm := true
  pn := []
  xe := fun _ _ => False
noncomputable def PIf (Y : Cx) (ifs : List Expr) (t : TT) : Prop :=
  ∀ (pins : List (Addr × Obj)) (s : Shared) (σ : St) (H : Hp) (Q : Bool → Hp → Prop), Inv Y pins σ H s → t σ H Q →
    wpAny (model Y.prog Y.w) Y.A (forIn ifs true fun c r => if r = true then do let ok ← isTrue c Y.env (eval c Y.env); pure (ForInStep.yield ok) else pure (ForInStep.yield r)) (TP Y pins σ Q) Y.xe s
noncomputable def tTrue : TT := fun _ H Q => Q true H
theorem pif_nil {Y : Cx} : PIf Y [] tTrue := fun _ _ _ H _ I h => wpAny_tests_nil ⟨H, I, h⟩
theorem pif_one {Y : Cx} {c : Expr} {t : TT} (h : PT Y c t) : PIf Y [c] t := fun pins s σ H Q I hw => wpAny_tests_one (h pins s σ H Q I hw)
noncomputable def rLC (g : TG) (tc : TT) (te : TE) (τ0 : St) (Q : VK) : It → Hp → Prop := fun J H1 => ∀ acc, H1 acc = none →
  ∃ W : Nat → Nat → St → Hp → Prop, (∃ m, W 0 m τ0 (upd H1 acc (.lst []))) ∧ ∀ i m τ H, W i m τ H →
    (J.stop i H ∧ Q (.ref acc) H) ∨ (J.go i H ∧ ∃ N : St → Hp → Prop, (∀ τ' H', N τ' H' → ∃ m', m' < m ∧ W (i + 1) m' τ' H') ∧
      ∀ x H', J.yld i H x H' → g x τ H' fun τ2 H2 => tc τ2 H2 fun b H3 => if b = true then te τ2 H3 fun v H4 => ∃ ys, H4 acc = some (.lst ys) ∧ ys.length < sizeLine ∧ N τ2 (upd H4 acc (.lst (ys ++ [v]))) else N τ2 H3)
section
variable {prog : Program} {w : World} {A : Around} {R : Result → Shared → Prop} {s : Shared}
theorem codeAny_compLoop_own {elt target iter : Expr} {ifs : List Expr} {scope : Scope} {pos : Pos} {it acc : Value} {env : Env} (I : Nat → Shared → Prop)
    (turn : ∀ n s, I n s → wpAny (model prog w) A (pyNext it) (fun r s₁ => match r with
      | none => R (.ok .next) s₁
      | some v => wpAny (model prog w) A (letOwnedTupleGo target it v) (fun _ s₁' => wpAny (model prog w) A (assign target env v) (fun _ s₂ =>
          wpAny (model prog w) A (forIn ifs true fun c r => if r = true then do let ok ← isTrue c env (eval c env); pure (ForInStep.yield ok) else pure (ForInStep.yield r)) (fun ok s₃ =>
            if ok = true then wpAny (model prog w) A (eval elt env) (fun x s₄ =>
              wpAny (model prog w) A (call (.builtin "list.append") [acc, x]) (fun _ s₅ => ∃ m, m < n ∧ I m s₅) (fun _ _ => False) s₄) (fun _ _ => False) s₃
            else ∃ m, m < n ∧ I m s₃) (fun _ _ => False) s₂) (fun _ _ => False) s₁') (fun _ _ => False) s₁) (fun _ _ => False) s)
    (n : Nat) (h : I n s) :
    codeAny (model prog w) A (.compLoop (.ListComp elt [⟨target, iter, ifs, 0⟩] scope pos) 0 it acc env) R s := by
  refine codeAny_loop rfl I (fun n s hI => ?_) n h
  show wpAny _ A ((compTurn (.ListComp elt [⟨target, iter, ifs, 0⟩] scope pos) 0 it acc env).onRaise (fun x => do noteFrame x env; theTreesLotGoes x)) _ _ s
  refine wpAny_noted ?_
  rw [compTurn_list]
  refine wpAny_bind (wpAny_standAt (wpAny_bind (wpAny_mono (turn n s hI) (fun r s₁ h₁ => ?_) fun _ _ h' => h'.elim)))
  cases r with
  | none => exact wpAny_pure h₁
  | some v =>
    refine wpAny_bind (wpAny_mono h₁ (fun _ s₁' h₁' => ?_) fun _ _ h' => h'.elim)
    refine wpAny_bind (wpAny_mono h₁' (fun _ s₂ h₂ => wpAny_bind (wpAny_mono h₂ (fun ok s₃ h₃ => ?_) fun _ _ h' => h'.elim)) fun _ _ h' => h'.elim)
    cases ok with
    | false => exact wpAny_pure ⟨rfl, h₃⟩
    | true =>
      exact wpAny_bind (wpAny_bind (wpAny_mono h₃ (fun x s₄ h₄ => wpAny_bind (wpAny_mono h₄ (fun _ s₅ h₅ => wpAny_pure (wpAny_pure ⟨rfl, h₅⟩)) fun _ _ h' => h'.elim)) fun _ _ h' => h'.elim))
end
section
variable {X : Cx} {elt target iter : Expr} {ifs : List Expr} {scope : Scope} {pos : Pos} {N : List Str} {fv : List (Option Nat)} {wi : TI} {g : TG} {tc : TT} {te : TE}
theorem lookup_join {σ : St} {j : Nat} {v : V} (h : (σ[j]?).join = some v) : σ[j]? = some (some v) := by
  cases e : σ[j]? with
  | none => rw [e] at h; cases h
  | some o => rw [e] at h; exact congrArg some h
theorem cxC_inv {pins : List (Addr × Obj)} {σ : St} {H : Hp} {s s4 : Shared} {fp : List Addr} {C : Addr} {m : Str → Option Value} (hc : X.calm = true) (S : CSc X.env.scope X.N N scope fv) (I : Inv X pins σ H s) (hC : s.heap.objs.size ≤ C)
    (hf : ∀ b ∈ fp, b < s.heap.objs.size ∧ FpOk X pins H b) (hk : ∀ b o, s.heap.get? b = some o → s4.heap.get? b = some o) (hn : s4.heap.Ns C m) (hos : s4.os = s.os) (hg : s4.gens = s.gens) :
    Inv (cxC X N scope (cloL X.env scope.names []) C fp s H) [] (upS fv σ) H s4 := by
  have hfree : ∀ x ∈ scope.names, x.2 = .free → ∃ c, X.env.cells.lookup x.1 = some c := fun x hx e => I.ok.has x.1 (.inl (S.fre x hx e))
  have sub := cloL_sub scope.names [] hfree (fun _ _ e => nomatch e)
  have hsz := I.sz
  have fresh : ∀ a, s.heap.objs.size ≤ a → H a = none := fun a ha => I.hok.fresh ha
  refine ⟨⟨I.ok.mod, S.kind, I.ok.glob, I.ok.blt, hC, fun x y c e1 e2 => I.ok.inj x y c (sub x c e1) (sub y c e2), fun x hx => ?_, fun x c z _ => (nomatch z), fun _ => I.ok.hd hc, I.ok.frames, .inl rfl, fun b hb => ⟨?_, fun x c e => (hf b hb).2.2.2.2.2.1 x c (sub x c e)⟩,
      I.bs, Nat.le_trans I.ok.bsz hsz, fun b o e hb => ?_, fun b hb z => ?_, I.stack, I.stkFree⟩,
    hos, ?_, Un.kept hk, ⟨m, hn, fun i x v e1 e2 e3 => ?_⟩, fun x c e => ?_, fresh C hC, fun x c e => I.freeC x c (sub x c e), fun p hp => absurd (show p ∈ ([] : List (Addr × Obj)) from hp) (by simp), I.hok.kept hk, ?_⟩
  · have hx' : (rl scope X.env.scope).names.lookup x = some .cell ∨ (rl scope X.env.scope).names.lookup x = some .free := hx
    rcases hx' with e | e
    · have hm := PySem.mem_of_lookup e
      obtain ⟨⟨n, k⟩, hm', e'⟩ := List.mem_map.mp hm
      have e'' : (if (k == NameKind.free && X.env.scope.kind == .function && X.env.scope.names.lookup n == some .cell) = true then (n, NameKind.cell) else (n, k)) = (x, NameKind.cell) := e'
      by_cases hcnd : (k == NameKind.free && X.env.scope.kind == .function && X.env.scope.names.lookup n == some .cell) = true
      · rw [if_pos hcnd] at e''
        have en : n = x := congrArg Prod.fst e''
        have ek : k = NameKind.free := by
          rw [Bool.and_eq_true, Bool.and_eq_true] at hcnd
          simpa using hcnd.1.1
        subst en ek
        exact cloL_has scope.names [] n hm'
      · rw [if_neg hcnd] at e''
        have ek : k = NameKind.cell := congrArg Prod.snd e''
        exact absurd ek (S.nocell _ hm')
    · exact absurd rfl (S.own _ (PySem.mem_of_lookup e))
  · exact Nat.ne_of_lt (Nat.lt_of_lt_of_le (hf b hb).1 hC)
  · rcases (hf b hb).2.2.2.2.1 with z | z
    · exact I.ok.noex b o e z
    · exact absurd (Nat.lt_of_lt_of_le (Heap.lt_size e) (Nat.le_trans I.ok.bsz z)) (Nat.lt_irrefl _)
  · rcases List.mem_cons.mp (I.stkSub b z) with q | q
    · exact (hf b hb).2.2.1 q
    · exact (hf b hb).2.2.2.1 q
  · show AllBare s4.gens
    rw [hg]
    exact I.bare
  · have hil : i < fv.length := by
      have := (List.getElem?_eq_some_iff.mp e2).1
      unfold upS at this
      rwa [List.length_map] at this
    have hi20 : i < 20 := by have := S.few; have := S.len; omega
    unfold upS at e2
    rw [List.getElem?_map] at e2
    cases ef : fv[i]? with
    | none => rw [ef] at e2; cases e2
    | some o =>
      rw [ef] at e2
      cases o with
      | none => cases e2
      | some j =>
        have e2' : (σ[j]?).join = some v := Option.some.inj e2
        have hσ := lookup_join e2'
        obtain ⟨en, hx⟩ := S.up i j hi20 ef
        obtain ⟨hcY, hcX⟩ := hx x e1
        obtain ⟨mX, hnX, hl⟩ := I.loc
        obtain ⟨u, r, l⟩ := hl j x v (en.trans e1) hσ (.inr (.inl hcX))
        refine ⟨u, r, ?_⟩
        rcases l with ⟨k, _⟩ | ⟨k, c, ec, cl⟩
        · have k' : X.env.scope.names.lookup x = some .local := k
          rw [hcX] at k'
          cases k'
        · obtain ⟨oc, hoc, hd⟩ := cl
          have hm : (x, NameKind.free) ∈ scope.names := by
            have hm := PySem.mem_of_lookup hcY
            obtain ⟨⟨n, k'⟩, hm', e'⟩ := List.mem_map.mp hm
            have e'' : (if (k' == NameKind.free && X.env.scope.kind == .function && X.env.scope.names.lookup n == some .cell) = true then (n, NameKind.cell) else (n, k')) = (x, NameKind.cell) := e'
            by_cases hcnd : (k' == NameKind.free && X.env.scope.kind == .function && X.env.scope.names.lookup n == some .cell) = true
            · rw [if_pos hcnd] at e''
              have en' : n = x := congrArg Prod.fst e''
              have ek : k' = NameKind.free := by
                rw [Bool.and_eq_true, Bool.and_eq_true] at hcnd
                simpa using hcnd.1.1
              subst en' ek
              exact hm'
            · rw [if_neg hcnd] at e''
              have ek : k' = NameKind.cell := congrArg Prod.snd e''
              exact absurd ek (S.nocell _ hm')
          obtain ⟨c', hc'⟩ := cloL_has (env := X.env) scope.names [] x hm
          have := sub x c' hc'
          rw [ec] at this
          cases this
          exact .inr ⟨.inl hcY, c, hc', oc, hk c oc hoc, hd⟩
  · obtain ⟨v, oc, hoc, hd⟩ := I.cell x c (sub x c e)
    exact ⟨v, oc, hk c oc hoc, hd⟩
  · show (upS fv σ).length = N.length
    unfold upS
    rw [List.length_map]
    exact S.len
theorem comp_core (hc : X.calm = true) (hi : PI X target iter wi) (S : CSc X.env.scope X.N N scope fv)
    (hB : ∀ cl C fp s H, PG (cxC X N scope cl C fp s H) target g ∧ PIf (cxC X N scope cl C fp s H) ifs tc ∧ PE (cxC X N scope cl C fp s H) elt te)
    {pins : List (Addr × Obj)} {s : Shared} {σ : St} {H : Hp} (I : Inv X pins σ H s) {use : Option (Value → Sem Unit)} {Q : VK} {Post : Value → Shared → Prop} {p2 : Pos}
    (h : wi σ H (rLC g tc te (upS fv σ) Q))
    (hPost : ∀ (acc C : Addr) (s' : Shared) (H' : Hp) (m : Str → Option Value), Inv X pins σ H' s' → s'.heap.Ns C m → FpOk X pins H' C → Q (.ref acc) H' → compPost (model X.prog X.w) X.A X.xe use Post (.ref acc) C (.ok .next) s')
    (hs : ∀ x, foldedSetIterable iter X.env x = pure x) :
    wpAny (model X.prog X.w) X.A (comprehension (.ListComp elt [⟨target, iter, ifs, 0⟩] scope pos) scope X.env p2 (newList []) false (eval iter X.env) use) Post X.xe s := by
  have hfree : ∀ x ∈ scope.names, x.2 = .free → ∃ c, X.env.cells.lookup x.1 = some c := fun x hx e => I.ok.has x.1 (.inl (S.fre x hx e))
  refine wpAny_comprehension_free (use := use) rfl hs (closureFor_is hfree) S.kind S.loc (thn (hi pins s σ H _ I h) fun xv s1 h1 => thn h1 fun itv s2 h2 => ?_)
  obtain ⟨it, fp, tn, J, H2, e, I2, T, st2, f2, rd⟩ := h2
  subst e
  have hacc : H2 s2.heap.objs.size = none := I2.fresh
  obtain ⟨W, ⟨m0, w0⟩, turn⟩ := rd s2.heap.objs.size hacc
  refine wpAny_newObj_type (wpAny_newFunctionEnv S.nocell (by intro y hy; simp at hy) (fun h₁ hns₁ hsb₁ => ?_) S.kind)
  dsimp only at hns₁ hsb₁ ⊢
  have IA : Inv X pins σ (upd H2 s2.heap.objs.size (.lst [])) { s2 with heap := s2.heap.push { cls := .type "list", data := .seq ([] : List Value).toArray } } := I2.lnew (t' := s2.toks) .nil (Nat.zero_le _)
  generalize hHA : s2.heap.push { cls := .type "list", dict := none, data := .seq ([] : List Value).toArray } = hA at hns₁ hsb₁ IA ⊢
  have hAsz : hA.objs.size = s2.heap.objs.size + 1 := by rw [← hHA, Heap.size_push]
  have hkA : ∀ b o, s2.heap.get? b = some o → hA.get? b = some o := fun b o e => by rw [← hHA]; exact Heap.get?_push_of_some _ e
  have hk1 : ∀ b o, hA.get? b = some o → h₁.get? b = some o := fun b o e => hsb₁.extBut b o (Nat.ne_of_lt (Heap.lt_size e)) (Heap.get?_push_of_some _ e)
  have fpl : ∀ b ∈ fp, b < s2.heap.objs.size := fun b hb => by
    obtain ⟨o, e, _⟩ := T.obj 0 _ st2 b hb
    exact Heap.lt_size e
  have fA : ∀ b ∈ fp, b < hA.objs.size ∧ FpOk X pins (upd H2 s2.heap.objs.size (.lst [])) b := fun b hb => ⟨by rw [hAsz]; exact Nat.lt_succ_of_lt (fpl b hb), by rw [upd_ne (Nat.ne_of_lt (fpl b hb))]; exact (f2 b hb).1, (f2 b hb).2⟩
  let sA : Shared := { s2 with heap := hA }
  let Y : Cx := cxC X N scope (cloL X.env scope.names []) hA.objs.size fp sA (upd H2 s2.heap.objs.size (.lst []))
  obtain ⟨hG, hIf, hE⟩ := hB (cloL X.env scope.names []) hA.objs.size fp sA (upd H2 s2.heap.objs.size (.lst []))
  have loop : ∀ s4 : Shared, s4 = { s2 with heap := h₁, toks := s2.toks + ([] : List (Str × Value)).length } →
      codeAny (model X.prog X.w) X.A (.compLoop (.ListComp elt [⟨target, iter, ifs, 0⟩] scope pos) 0 (.ref it) (.ref s2.heap.objs.size) (compEnvC scope (cloL X.env scope.names []) hA.objs.size X.env))
        (compPost (model X.prog X.w) X.A X.xe use Post (.ref s2.heap.objs.size) hA.objs.size) s4 := by
    rintro s4 rfl
    have IY : Inv Y [] (upS fv σ) (upd H2 s2.heap.objs.size (.lst [])) { s2 with heap := h₁, toks := s2.toks + ([] : List (Str × Value)).length } :=
      cxC_inv hc S IA (Nat.le_refl _) fA hk1 hns₁ rfl rfl
    have stat : ∀ {H' : Hp}, (∀ b ∈ fp, H' b = none) → ∀ b ∈ fp, FpOk Y [] H' b := fun hn b hb =>
      ⟨hn b hb, (IY.ok.exf b hb).1, IY.ok.exfs b hb, .inl hb, (IY.ok.exf b hb).2, fun p hp => absurd (show p ∈ ([] : List (Addr × Obj)) from hp) (by simp)⟩
    refine codeAny_compLoop_own (fun n s' => ∃ i τ H', Inv Y [] τ H' s' ∧ tn i s'.heap ∧ (∀ b ∈ fp, H' b = none) ∧ W i n τ H') ?_ m0
      ⟨0, upS fv σ, _, IY, T.keep _ _ _ st2 fun b hb o e => hk1 b o (hkA b o e), fun b hb => (fA b hb).2.1, w0⟩
    rintro n s5 ⟨i, τ, H5, I5, st5, fr5, w5⟩
    rcases turn i n τ H5 w5 with ⟨stop, q⟩ | ⟨go, NN, hN, step⟩
    · refine wpAny_mono (T.done Y rfl rfl rfl rfl i [] s5 τ H5 (fun _ _ => False) I5 (stat fr5) st5 stop) (fun r s6 ⟨hr, I6⟩ => ?_) fun _ _ z => z
      subst hr
      obtain ⟨m6, hn6, _⟩ := id I6.loc
      have IX : Inv X pins σ H5 s6 := IA.call' I6.os I6.base I6.hok I6.bare fun b hb => ⟨(fA b hb).2.2.2.2.1, (fA b hb).2.2.1, (fA b hb).2.2.2.2.2.1, (fA b hb).2.2.2.2.2.2⟩
      exact hPost _ _ _ _ m6 IX hn6 (IA.fpOk (Nat.le_refl _) I6.free) q
    · refine wpAny_mono (T.item Y rfl rfl rfl rfl i [] s5 τ H5 (fun _ _ => False) I5 (stat fr5) st5 go) (fun r s6 ⟨u, hr, h6⟩ => ?_) fun _ _ z => z
      subst hr
      refine wpAny_mono h6 (fun _ s7 ⟨x, H7, I7, r7, y7, st7, fr7⟩ => ?_) fun _ _ z => z
      have I7' := I7.pinned (stat fr7) (T.obj _ _ st7)
      refine wpAny_mono (hG _ s7 τ H7 x u _ I7' r7 (step x H7 y7)) (fun _ s8 ⟨τ8, H8, I8, q8⟩ => ?_) fun _ _ z => z
      refine wpAny_mono (hIf _ s8 τ8 H8 _ I8 q8) (fun b s9 ⟨H9, I9, q9⟩ => ?_) fun _ _ z => z
      have again : ∀ {τ' : St} {H' : Hp} {s' : Shared}, Inv Y ([] ++ pinsAt fp s7.heap) τ' H' s' → NN τ' H' → ∃ m, m < n ∧ ∃ i τ H', Inv Y [] τ H' s' ∧ tn i s'.heap ∧ (∀ b ∈ fp, H' b = none) ∧ W i m τ H' := fun {τ' H' s'} I' n' => by
        obtain ⟨m', hm, w'⟩ := hN τ' H' n'
        refine ⟨m', hm, i + 1, τ', H', I'.unpinned, T.keep _ _ _ st7 fun b hb o e => (I'.pin (b, o) (List.mem_append_right _ (List.mem_append_right _ (mem_pinsAt hb e)))).1, fun b hb => ?_, w'⟩
        obtain ⟨o, e, d⟩ := T.obj _ _ st7 b hb
        exact (I'.pin (b, o) (List.mem_append_right _ (List.mem_append_right _ (mem_pinsAt hb e)))).2.1
      cases b with
      | false => exact again I9 q9
      | true =>
        show wpAny _ _ _ _ _ _
        refine wpAny_mono (hE _ s9 τ8 H9 _ I9 q9) (fun v s10 ⟨y, H10, I10, r10, ys, hy, hz, q10⟩ => ?_) fun _ _ z => z
        refine wpAny_mono (mt_append (X := Y) _ s10 τ8 H10 (.ref s2.heap.objs.size) [y] (.ref s2.heap.objs.size) [v] (fun _ H' => NN τ8 H') I10 rfl (.cons r10 .nil) ⟨_, ys, y, rfl, rfl, hy, hz, q10⟩) (fun _ s11 ⟨_, H11, I11, _, q11⟩ => ?_) fun _ _ z => z
        exact again I11 q11
  have st1 : tn 0 h₁ := T.keep _ _ _ st2 fun b hb o e => hk1 b o (hkA b o e)
  exact codeAny_compStart_list (loop _ rfl) (T.self _ 0 _ _ _ st1 (loop _ rfl))
noncomputable def tLC (wi : TI) (g : TG) (tc : TT) (te : TE) (fv : List (Option Nat)) : TE := fun σ H Q => wi σ H (rLC g tc te (upS fv σ) Q)
theorem pe_lc (hc : X.calm = true) (hi : PI X target iter wi) (S : CSc X.env.scope X.N N scope fv)
    (hB : ∀ cl C fp s H, PG (cxC X N scope cl C fp s H) target g ∧ PIf (cxC X N scope cl C fp s H) ifs tc ∧ PE (cxC X N scope cl C fp s H) elt te)
    (hs : ∀ x, foldedSetIterable iter X.env x = pure x := by intro _; rfl) : PE X (.ListComp elt [⟨target, iter, ifs, 0⟩] scope pos) (tLC wi g tc te fv) := by
  intro pins s σ H Q I h
  rw [eval_ListComp]
  refine comp_core hc hi S hB I (use := none) h (fun acc C s' H' m I' hn hf q => ⟨m, hn, fun h' sb => ?_⟩) hs
  obtain ⟨f0, f1, f2, f3, f4, f5⟩ := hf
  exact ⟨.ref acc, H', I'.turned (t' := s'.toks) (fun b o hb e => sb.extBut b o hb e) f0 f1 f3 f4 f5, rfl, q⟩
theorem ps_lc {i : Nat} {x : Str} {px spos : Pos} (hN : X.N.Nodup) (hi' : X.N[i]? = some x) (hx : X.env.scope.names.lookup x = some .local) (hc : X.calm = true) (hi : PI X target iter wi) (S : CSc X.env.scope X.N N scope fv)
    (hB : ∀ cl C fp s H, PG (cxC X N scope cl C fp s H) target g ∧ PIf (cxC X N scope cl C fp s H) ifs tc ∧ PE (cxC X N scope cl C fp s H) elt te)
    (hsw : swapsWith (.ListComp elt [⟨target, iter, ifs, 0⟩] scope pos) (some (.Name x px)) spos.line X.env = pure true)
    (hs : ∀ x, foldedSetIterable iter X.env x = pure x := by intro _; rfl) : PS X (.Assign [.Name x px] (.ListComp elt [⟨target, iter, ifs, 0⟩] scope pos) spos) (tAsg (tLC wi g tc te fv) (gName i)) := by
  intro pins s σ H D I h
  rw [exec_Assign_Name_used _ _ _ _ hsw]
  refine wpAny_bind (wpAny_standAt (wpAny_bind ?_))
  show wpAny _ _ (do let _ ← comprehension (.ListComp elt [⟨target, iter, ifs, 0⟩] scope pos) scope X.env _ (newList []) false (eval iter X.env) (some (assign (.Name x px) X.env))) _ _ s
  refine wpAny_bind (wpAny_mono (comp_core hc hi S hB I (use := some (assign (.Name x px) X.env)) (Post := fun _ s' => SP X pins D .next s') h (fun acc C s' H' m I' hn hf q => ?_) hs) (fun _ s' hq => wpAny_pure (wpAny_pure hq)) fun _ _ e => e)
  show wpAny _ _ (assign (.Name x px) X.env (.ref acc)) _ _ _
  refine wpAny_assign_Name (store_ok2 I' hN hi' (.inl hx) (show RelV (.ref acc) _ from rfl) (fun s2 I2 ⟨a, sb2, ha⟩ => ?_) (.inr hx))
  obtain ⟨f0, f1, f2, f3, f4, f5⟩ := hf
  have hne : C ≠ a := by
    rcases ha with z | z
    · rw [z]; exact f1
    · exact fun e => f4 x a z e.symm
  refine ⟨m, hn.sameBut sb2 hne, fun h' sb => ?_⟩
  exact ⟨_, H', I2.turned (t' := s2.toks) (fun b o hb e => sb.extBut b o hb e) f0 f1 f3 f4 f5, q⟩
end
end L2
namespace L2
open PySem PySem.Spec PyProof.Rows
theorem ok_left {i j : Int} (h1 : -(2 ^ 64) < i) (h2 : i < 2 ^ 64) : IntMulOk i j := .of_left (intBits_le_64 h1 h2)
theorem ok_right {i j : Int} (h1 : -(2 ^ 64) < j) (h2 : j < 2 ^ 64) : IntMulOk i j := .of_right (intBits_le_64 h1 h2)
section
variable {X : Cx} {a b c e : Expr} {ta tb te : TE} {pos pos' : Pos} {k : Nat}
theorem op_mulG : OpR X (binaryOp .Mult) (rI IntMulOk fun i j => .int (i * j)) := opI fun _ _ _ _ _ _ _ hc q => mul_int q hc
theorem op_fdivG : OpR X (binaryOp .FloorDiv) (rI (fun _ j => 0 < j ∧ j.natAbs.log2 < 9000) fun i j => .int (i / j)) := opI fun i j _ _ _ _ _ hc q => by
  have h1 : (0 : Int) < j := hc.1
  exact floordiv_int (by omega) (by rw [Int.fdiv_eq_ediv_of_nonneg i (by omega)]; exact q) (.inl (PyProof.noPylong_of_log2 hc.2))
noncomputable def tI (f : Int → V) (ta : TE) : TE := fun σ H Q => ta σ H fun x H1 => ∃ i, x = .int i ∧ Q (f i) H1
theorem pe_divc {n : Int} (ha : PE X a ta) (h : 0 < n ∧ n < 1073741824 := by decide) : PE X (.BinOp a .FloorDiv (.Constant (.int n) k pos') pos) (tI (fun i => .int (i / n)) ta) := by
  intro pins s σ H Q I hq
  refine pe_op op_fdiv ha pe_int pins s σ H Q I ?_
  refine (show ∀ t : TE, PE X a t → _ from fun _ _ => ?_) ta ha
  exact (show tOp (rI CDiv fun i j => .int (i / j)) ta (tC (.int n)) σ H Q from by
    unfold tOp tC rI
    unfold tI at hq
    have : (fun x H1 => ∃ i, x = V.int i ∧ Q (.int (i / n)) H1) = (fun x H1 => ∃ i j, x = V.int i ∧ V.int n = V.int j ∧ CDiv i j ∧ Q (.int (i / j)) H1) := by
      funext x H1
      apply propext
      constructor
      · rintro ⟨i, e, q⟩; exact ⟨i, n, e, rfl, h, q⟩
      · rintro ⟨i, j, e, e', _, q⟩; cases e'; exact ⟨i, e, q⟩
    rw [this] at hq
    exact hq)
theorem pe_modc {n : Int} (ha : PE X a ta) (h : 0 < n := by decide) : PE X (.BinOp a .Mod (.Constant (.int n) k pos') pos) (tI (fun i => .int (i % n)) ta) := by
  intro pins s σ H Q I hq
  refine pe_op op_mod ha pe_int pins s σ H Q I ?_
  unfold tOp tC rI
  unfold tI at hq
  have : (fun x H1 => ∃ i, x = V.int i ∧ Q (.int (i % n)) H1) = (fun x H1 => ∃ i j, x = V.int i ∧ V.int n = V.int j ∧ 0 < j ∧ Q (.int (i % j)) H1) := by
    funext x H1
    apply propext
    constructor
    · rintro ⟨i, e, q⟩; exact ⟨i, n, e, rfl, h, q⟩
    · rintro ⟨i, j, e, e', _, q⟩; cases e'; exact ⟨i, e, q⟩
  rw [this] at hq
  exact hq
theorem pe_mulc {n : Int} (ha : PE X a ta) (h : -(2 ^ 64) < n ∧ n < 2 ^ 64 := by decide) : PE X (.BinOp a .Mult (.Constant (.int n) k pos') pos) (tI (fun i => .int (i * n)) ta) := by
  intro pins s σ H Q I hq
  refine pe_op op_mulG ha pe_int pins s σ H Q I ?_
  unfold tOp tC rI
  unfold tI at hq
  have : (fun x H1 => ∃ i, x = V.int i ∧ Q (.int (i * n)) H1) = (fun x H1 => ∃ i j, x = V.int i ∧ V.int n = V.int j ∧ IntMulOk i j ∧ Q (.int (i * j)) H1) := by
    funext x H1
    apply propext
    constructor
    · rintro ⟨i, e, q⟩; exact ⟨i, n, e, rfl, ok_right h.1 h.2, q⟩
    · rintro ⟨i, j, e, e', _, q⟩; cases e'; exact ⟨i, e, q⟩
  rw [this] at hq
  exact hq
theorem pe_cmul {n : Int} (ha : PE X a ta) (h : -(2 ^ 64) < n ∧ n < 2 ^ 64 := by decide) : PE X (.BinOp (.Constant (.int n) k pos') .Mult a pos) (tI (fun i => .int (n * i)) ta) := by
  intro pins s σ H Q I hq
  refine pe_op op_mulG pe_int ha pins s σ H Q I ?_
  unfold tOp tC rI
  unfold tI at hq
  have : (fun x H1 => ∃ i, x = V.int i ∧ Q (.int (n * i)) H1) = (fun x H1 => ∃ i j, V.int n = V.int i ∧ x = V.int j ∧ IntMulOk i j ∧ Q (.int (i * j)) H1) := by
    funext x H1
    apply propext
    constructor
    · rintro ⟨i, e, q⟩; exact ⟨n, i, rfl, e, ok_left h.1 h.2, q⟩
    · rintro ⟨i, j, e', e, _, q⟩; cases e'; exact ⟨j, e, q⟩
  rw [this] at hq
  exact hq
theorem call_sum (hc : X.calm = true) : CallR X (.builtin "sum") (fun xs H Q => ∃ (p : Addr) (ns : List Int), xs = [.ref p] ∧ SqL X.K H p (ns.map V.int) ∧ Q (.int ns.sum) H) := by
  intro pins s σ H xs us Q I r h
  obtain ⟨p, ns, rfl, hq, q⟩ := h
  obtain ⟨u, rfl, rx⟩ := vals1 r
  cases rx
  obtain ⟨its, r', pl, hz⟩ := I.list hq
  have hi := intsAre_of r'
  obtain ⟨m, hn, _⟩ := I.loc
  have hil : s.heap.IsList p its.toArray := pl.isList
  obtain ⟨xs, ex⟩ := hi.allInts.items
  rw [ex] at hil
  refine PySem.sum_intListG (I.ok.hd hc) hil fun h' tk t' hk => ⟨.int ns.sum, H, I.kept hk, ⟨t', ?_⟩, q⟩
  have e2 : (numsOf its.toArray.toList) = ns := by rw [show its.toArray.toList = its from rfl, hi.numsOf]
  rw [ex, nums_intItems] at e2
  rw [preSum_eq, List.take_of_length_le (by simp), ← e2]
noncomputable def tyName : V → Hp → Option String
  | .non, _ => some "NoneType"
  | .bl _, _ => some "bool"
  | .int _, _ => some "int"
  | .str _, _ => some "str"
  | .ref a, H => match H a with
    | some (.lst _) => some "list"
    | some (.tup _) => some "tuple"
    | some (.dK _) => some "dict"
    | _ => none
  | _, _ => none
theorem tyName_of {K : PySem.W.Frag} {H : Hp} {x : V} {n : String} (h : tyName x H = some n) : TyOf K H x (.type n) := by
  cases x with
  | non => cases h; exact .non
  | bl b => cases h; exact .bl b
  | int i => cases h; exact .int i
  | str y => cases h; exact .str y
  | ref a =>
    unfold tyName at h
    cases e : H a with
    | none => simp [e] at h
    | some o =>
      cases o <;> simp [e] at h
      · subst h; exact .lst e
      · subst h; exact .tup e
      · subst h; exact .dK e
  | byt _ => cases h
  | flt _ => cases h
  | ty _ => cases h
noncomputable def subT (n T : String) : Option Bool := PySem.W.kitOne [] (.type n) (.type T)
theorem kit_any {K : PySem.W.Frag} {n T : String} : PySem.W.kitOne K (.type n) (.type T) = subT n T := rfl
theorem call_isi : CallR X (.builtin "isinstance") (fun xs H Q => ∃ x T n b, xs = [x, .ty T] ∧ tyName x H = some n ∧ subT n T = some b ∧ Q (.bl b) H) := by
  intro pins s σ H xs us Q I r h
  obtain ⟨x, T, n, b, rfl, hn, hb, q⟩ := h
  obtain ⟨u, v, rfl, ru, rv⟩ := r.two
  cases (show v = Value.type T from rv)
  exact isinst_ok I ru (tyName_of hn) (kit_any.trans hb) fun tk => ⟨.bl b, H, I.tok tk, rfl, q⟩
end
mutual
inductive Dt (K : PySem.W.Frag) (H : Hp) : V → PyData → Prop where
  | non : Dt K H .non .none
  | bl (b) : Dt K H (.bl b) (.bool b)
  | int (i) : Dt K H (.int i) (.int i)
  | str (x) : Dt K H (.str x) (.str x)
  | lst {a xs ds} : SqL K H a xs → DtAll K H xs ds → Dt K H (.ref a) (.list ds)
  | tup {a xs ds} : SqT K H a xs → DtAll K H xs ds → Dt K H (.ref a) (.tuple ds)
inductive DtAll (K : PySem.W.Frag) (H : Hp) : List V → List PyData → Prop where
  | nil : DtAll K H [] []
  | cons {x xs d ds} : Dt K H x d → DtAll K H xs ds → DtAll K H (x :: xs) (d :: ds)
end
section
variable {X : Cx}
mutual
theorem Dt.reads {pins : List (Addr × Obj)} {σ : St} {H : Hp} {s : Shared} (I : Inv X pins σ H s) : ∀ {x : V} {d : PyData} {u : Value}, Dt X.K H x d → RelV x u → ∃ as, Reads s.heap u d as
  | _, _, _, .non, r => by cases r; exact ⟨_, .none⟩
  | _, _, _, .bl b, r => by cases r; exact ⟨_, .bool b⟩
  | _, _, _, .int i, r => by obtain ⟨t, rfl⟩ := r; exact ⟨_, .int i t⟩
  | _, _, _, .str x, r => by obtain ⟨t, rfl⟩ := r; exact ⟨_, .str x t⟩
  | _, _, _, .lst h hs, r => by
    cases r
    obtain ⟨its, r', ⟨o, n, e, ec, ed, ex⟩, _⟩ := I.list h
    obtain ⟨as, q⟩ := DtAll.reads I hs r'
    exact ⟨_, .list e ec ex (by simpa using q)⟩
  | _, _, _, .tup h hs, r => by
    cases r
    obtain ⟨its, r', ⟨o, e, ec, n, ex⟩, _⟩ := I.tuple h
    obtain ⟨as, q⟩ := DtAll.reads I hs r'
    exact ⟨_, .tuple e ec ex (by simpa using q)⟩
theorem DtAll.reads {pins : List (Addr × Obj)} {σ : St} {H : Hp} {s : Shared} (I : Inv X pins σ H s) : ∀ {xs : List V} {ds : List PyData} {us : List Value}, DtAll X.K H xs ds → Vals xs us → ∃ as, ReadsAll s.heap us ds as
  | _, _, _, .nil, r => by cases r; exact ⟨_, .nil⟩
  | _, _, _, .cons h hs, r => by
    cases r with
    | cons r rs =>
      obtain ⟨as, q⟩ := Dt.reads I h r
      obtain ⟨bs, q'⟩ := DtAll.reads I hs rs
      exact ⟨_, .cons q q'⟩
end
theorem op_eqD (hu : X.A.units + 64 < cLine) : OpR X (compareOp .Eq) (fun x y H Q => ∃ d d', Dt X.K H x d ∧ Dt X.K H y d' ∧ PySem.SeqAt.shaped d = true ∧ PySem.SeqAt.shaped d' = true ∧ Q (.bl (PyData.eqv d d')) H) := by
  intro pins s σ H x y v u Q I rx ry h
  obtain ⟨d, d', h1, h2, s1, s2, q⟩ := h
  obtain ⟨as, r1⟩ := h1.reads I rx
  obtain ⟨bs, r2⟩ := h2.reads I ry
  exact eq_dataH r1 r2 s1 s2 hu ⟨.bl _, H, I, rfl, q⟩
theorem op_neD (hu : X.A.units + 64 < cLine) : OpR X (compareOp .NotEq) (fun x y H Q => ∃ d d', Dt X.K H x d ∧ Dt X.K H y d' ∧ PySem.SeqAt.shaped d = true ∧ PySem.SeqAt.shaped d' = true ∧ Q (.bl (!PyData.eqv d d')) H) := by
  intro pins s σ H x y v u Q I rx ry h
  obtain ⟨d, d', h1, h2, s1, s2, q⟩ := h
  obtain ⟨as, r1⟩ := h1.reads I rx
  obtain ⟨bs, r2⟩ := h2.reads I ry
  exact ne_dataH r1 r2 s1 s2 hu ⟨.bl _, H, I, rfl, q⟩
theorem DtAll.ints {K : PySem.W.Frag} {H : Hp} : ∀ ns : List Int, DtAll K H (ns.map V.int) (ns.map PyData.int)
  | [] => .nil
  | n :: r => .cons (.int n) (DtAll.ints r)
theorem shaped_intsL (ns : List Int) : PySem.SeqAt.shaped (.list (ns.map .int)) = true := PySem.W.shaped_ints ns
theorem op_catL : OpR X (binaryOp .Add) (fun x y H Q => ∃ l b xs zs, x = .ref l ∧ y = .ref b ∧ SqL X.K H l xs ∧ SqL X.K H b zs ∧ xs.length + zs.length ≤ sizeLine ∧ ∀ p, H p = none → Q (.ref p) (upd H p (.lst (xs ++ zs)))) := by
  intro pins s σ H x y v u Q I rx ry h
  obtain ⟨l, b, xs, zs, rfl, rfl, hH, hB, hz, q⟩ := h
  cases rx
  cases ry
  obtain ⟨its, r, ⟨⟨cls, dd, data, sl⟩, n, e, ec, ed, ex⟩, _⟩ := I.list hH
  obtain ⟨its2, r2, ⟨⟨cls2, dd2, data2, sl2⟩, n2, e2, ec2, ed2, ex2⟩, _⟩ := I.list hB
  simp only at ec ed ex ec2 ed2 ex2
  subst ec ed ex ec2 ed2 ex2
  refine concat_meets ⟨_, e, rfl⟩ ⟨_, e2, rfl⟩ noFill_list_add seq_list_add PySem.F.slot_list_add PySem.F.entry_list_add (PySem.F.args_list_add_2 _ _) (list_addW l b its.toArray its2.toArray n n2 none none sl sl2 (by rw [List.size_toArray, List.size_toArray, ← r.length, ← r2.length]; exact hz)) ⟨e, e2, ?_⟩
  have ea : its.toArray ++ its2.toArray = (its ++ its2).toArray := by simp
  rw [ea]
  exact ⟨.ref _, _, I.lnew (t' := s.toks) (r.append r2) (by rw [List.length_append]; exact hz), rfl, q _ I.fresh⟩
end
end L2
namespace L2
open PySem PySem.Spec PyProof.Rows
structure Def (K : PySem.W.Frag) (mg : Str → Option Value) (x : Str) (st : Stmt) : Prop where
  ex : ∃ f fd, Fun K x x st f fd ∧ mg x = some (.ref f)
structure Fn (P : Program) (w : World) (K : PySem.W.Frag) (mg : Str → Option Value) (base : Heap) (k : Nat) (x : Str) (ps : List Str) (sp : Sp) : Prop where
  ex : ∃ f fd, FnOk P w K mg base CX0 k f fd ps sp ∧ mg x = some (.ref f) ∧ PySem.W.keepIn K (.ref f) = true ∧ Binds K fd ps []
section
variable {P : Program} {w : World} {K : PySem.W.Frag} {mg : Str → Option Value} {base : Heap} {k : Nat} {x : Str} {N ps : List Str} {sp : Sp} {st : Stmt}
theorem Def.fn (D : Def K mg x st) (S : FnScope N ps (defScope st))
    (hb : ∀ (kV doc pm : Value) (an : Option Addr) (cdv ct : Value) (us : List Value), us.length = ps.length → bindArgs (PySem.W.fnOf x x (defArgs st) (defBody st) (defScope st) .none kV doc pm an cdv ct) ⟨us, []⟩ = pure (ps.zip us))
    (len : ∀ vs H Q E, sp vs H Q E → vs.length = ps.length)
    (hbody : ∀ (f : Addr) (cdv : Value) (A : Around) (outer : List Env) (s : Shared) (H : Hp) (vs : List V) (Q : VK) (E : XK), Room k (A.deeper (envOfC x (defScope st) s.heap.objs.size f cdv)) → sp vs H Q E →
      ∃ t, PSs (cxOf CX0 P w K mg base N x (defScope st) f cdv A outer s H E).nox (defBody st) t ∧ t { nx := fun _ H' => Q .non H', rt := Q } (start N vs) H) : Fn P w K mg base (k + 1) x ps sp := by
  obtain ⟨f, fd, F, m⟩ := D.ex
  exact ⟨f, fd, F.ok S len fun cdv A outer s H vs Q E => hbody f cdv A outer s H vs Q E, m, F.kp, F.binds hb⟩
end
section
variable {X : Cx} {k m : Nat} {x : Str} {ps : List Str} {sp : Sp} {p pos : Pos} {e : Expr} {es : List Expr} {t : TA}
theorem pe_fn (F : Fn X.prog X.w X.K X.mg X.base k x ps sp) (hr : Room m X.A) (hg : Gl X x) (ha : PA X (e :: es) t) (hk : k ≤ m := by decide)
    (hdb : (x == ("__debug__" : Str)) = false := by decide) (he : starEach (e :: es) X.env = (false, eval e X.env) :: starEach es X.env := by rfl) (hpl : (backTo pos (starEach es X.env)).any (·.1) = false := by rfl) :
    PE X (.Call (.Name x p) (e :: es) [] pos) (tCall sp [] E0 t) := by
  obtain ⟨f, fd, F, hm, hkp, hb⟩ := F.ex
  exact pe_call F (hr.mono hk) hg hm hkp hb .nil pass0 ha hdb he hpl
end
theorem def_mk {K : PySem.W.Frag} {h : Heap} {mg : Str → Option Value} {x : Str} {st : Stmt} {f : Addr} {oc : Value} {od an : Option Addr} {osl : Array (Option Value)} {kV doc pm cdv ct : Value} (X : K.In h) (G : h.Ns mainGlobals mg)
    (a : PySem.W.nsIn K mainGlobals x = some (some (.ref f))) (l : K.lookup f = some ⟨oc, od, .func (PySem.W.fnOf x x (defArgs st) (defBody st) (defScope st) .none kV doc pm an cdv ct), osl⟩)
    (c : PySem.W.codeIn K cdv x = true) (k : PySem.W.keepIn K (.ref f) = true) : Def K mg x st := ⟨f, _, fun_mk l c k, PySem.W.mg_of X G a⟩
theorem pe_tyv {X : Cx} {x : Str} {T : String} {pos : Pos} (hg : Gl X x) (hm : X.mg x = none) (hv : bootBuiltins x = some (.type T)) (hn : x ≠ "__name__" := by decide) (hd : (x == ("__debug__" : Str)) = false := by decide) : PE X (.Name x pos) (tC (.ty T)) :=
  pe_bltn hg hm hv rfl hn hd
section
variable {σ : St} {H : Hp} {Q : VK}
theorem q_var {i : Nat} {v : V} (h : σ[i]? = some (some v)) : tVar i σ H Q = Q v H := by
  unfold tVar; rw [h]; simp
theorem q_C {v : V} : tC v σ H Q = Q v H := rfl
theorem q_Op {r : R2} {ta tb : TE} : tOp r ta tb σ H Q = ta σ H fun x H1 => tb σ H1 fun y H2 => r x y H2 Q := rfl
theorem q_Un {r : V → Hp → VK → Prop} {ta : TE} : tUn r ta σ H Q = ta σ H fun x H1 => r x H1 Q := rfl
theorem q_rI0 {g : Int → Int → V} {i j : Int} : rI0 g (.int i) (.int j) H Q = Q (g i j) H := by unfold rI0; simp
theorem q_rI {C : Int → Int → Prop} {g : Int → Int → V} {i j : Int} : rI C g (.int i) (.int j) H Q = (C i j ∧ Q (g i j) H) := by unfold rI; simp
theorem q_rU {g : Int → V} {i : Int} : rU g (.int i) H Q = Q (g i) H := by unfold rU; simp
noncomputable def rT (f : Int → V) : V → Hp → VK → Prop := fun x H Q => ∃ i, x = .int i ∧ Q (f i) H
theorem q_tI {f : Int → V} {ta : TE} : tI f ta σ H Q = ta σ H fun x H1 => rT f x H1 Q := rfl
theorem q_rT {f : Int → V} {i : Int} : rT f (.int i) H Q = Q (f i) H := by unfold rT; simp
theorem q_eqI {i j : Int} : rEq (.int i) (.int j) H Q = Q (.bl (decide (i = j))) H := by unfold rEq; simp [scal]
theorem q_neI {i j : Int} : rNe (.int i) (.int j) H Q = Q (.bl (!decide (i = j))) H := by unfold rNe; simp [scal]
theorem q_eqS {i j : Str} : rEq (.str i) (.str j) H Q = Q (.bl (decide (i = j))) H := by unfold rEq; simp [scal]
theorem q_neS {i j : Str} : rNe (.str i) (.str j) H Q = Q (.bl (!decide (i = j))) H := by unfold rNe; simp [scal]
noncomputable def rB (x : V) (H : Hp) (Q : Bool → Hp → Prop) : Prop := ∃ k, x = .bl k ∧ Q k H
theorem q_rB {b : Bool} {Q : Bool → Hp → Prop} : rB (.bl b) H Q = Q b H := by unfold rB; simp
theorem q_test {t : TE} {Q : Bool → Hp → Prop} : tTest t σ H Q = t σ H fun x H' => rB x H' Q := rfl
theorem q_tB {t : TE} {Q : Bool → Hp → Prop} : tB t σ H Q = t σ H fun x H' => rB x H' Q := rfl
theorem q_notT {t : TT} {Q : Bool → Hp → Prop} : tNot t σ H Q = t σ H fun c H1 => Q (!c) H1 := rfl
theorem q_andT {t u : TT} {Q : Bool → Hp → Prop} : tAnd t u σ H Q = t σ H fun c H1 => if c = true then u σ H1 Q else Q false H1 := rfl
theorem q_orT {t u : TT} {Q : Bool → Hp → Prop} : tOr t u σ H Q = t σ H fun c H1 => if c = true then Q true H1 else u σ H1 Q := rfl
theorem q_andV {t u : TE} : tAndV t u σ H Q = t σ H fun x H1 => rB x H1 fun c H2 => if c = true then u σ H2 Q else Q (.bl false) H2 := rfl
theorem q_chain {r r' : R2} {ta tb tc : TE} : tChain r r' ta tb tc σ H Q = ta σ H fun x H1 => tb σ H1 fun y H2 => r x y H2 fun z H3 => rB z H3 fun k H4 => if k = true then tc σ H4 fun w' H5 => r' y w' H5 Q else Q (.bl false) H4 := rfl
theorem q_nil {Q : List V → Hp → Prop} : tNil σ H Q = Q [] H := rfl
theorem q_cons {ta : TE} {tr : TA} {Q : List V → Hp → Prop} : tCons ta tr σ H Q = ta σ H fun x H1 => tr σ H1 fun xs H2 => Q (x :: xs) H2 := rfl
theorem q_call {sp : Sp} {dvs : List V} {E : XK} {t : TA} : tCall sp dvs E t σ H Q = t σ H fun vs H1 => sp (vs ++ dvs) H1 Q E := rfl
theorem q_CB {r : List V → Hp → VK → Prop} {t : TA} : tCB r t σ H Q = t σ H fun vs H1 => r vs H1 Q := rfl
theorem q_tup {t : TA} : tTup t σ H Q = t σ H fun xs H1 => xs.length ≤ sizeLine ∧ ∀ p, H1 p = none → Q (.ref p) (upd H1 p (.tup xs)) := rfl
theorem q_lst {t : TA} : tLst t σ H Q = t σ H fun xs H1 => xs.length ≤ sizeLine ∧ ∀ p, H1 p = none → Q (.ref p) (upd H1 p (.lst xs)) := rfl
theorem q_BM {K : PySem.W.Frag} {T : String} {r : V → List V → Hp → VK → Prop} {to : TE} {t : TA} : tBM K T r to t σ H Q = to σ H fun x H1 => tyV K T x H1 ∧ t σ H1 fun vs H2 => r x vs H2 Q := rfl
theorem q_Sl {r : V → Option Int → Option Int → Hp → VK → Prop} {te : TE} {tl th : TO} : tSl r te tl th σ H Q = te σ H fun x H1 => tl σ H1 fun l H2 => th σ H2 fun h H3 => r x l h H3 Q := rfl
theorem q_noPart {Q : Option Int → Hp → Prop} : tNoPart σ H Q = Q none H := rfl
noncomputable def rP (x : V) (H : Hp) (Q : Option Int → Hp → Prop) : Prop := ∃ i, x = .int i ∧ Q (some i) H
theorem q_part {t : TE} {Q : Option Int → Hp → Prop} : tPart t σ H Q = t σ H fun x H1 => rP x H1 Q := rfl
theorem q_rP {i : Int} {Q : Option Int → Hp → Prop} : rP (.int i) H Q = Q (some i) H := by unfold rP; simp
theorem q_LC {wi : TI} {g : TG} {tc : TT} {te : TE} {fv : List (Option Nat)} : tLC wi g tc te fv σ H Q = wi σ H (rLC g tc te (upS fv σ) Q) := rfl
theorem q_True {Q : Bool → Hp → Prop} : tTrue σ H Q = Q true H := rfl
end
section
variable {D : Ends} {σ : St} {H : Hp}
theorem q_next : tNext D σ H = D.nx σ H := rfl
theorem q_seq {t u : TS} : tSeq t u D σ H = t { D with nx := u D } σ H := rfl
theorem q_drop {te : TE} : tDrop te D σ H = te σ H fun _ H1 => D.nx σ H1 := rfl
theorem q_ret {te : TE} : tRet te D σ H = te σ H D.rt := rfl
theorem q_ifS {c : TT} {t u : TS} : tIfS c t u D σ H = c σ H fun b H1 => if b = true then t D σ H1 else u D σ H1 := rfl
theorem q_asg {te : TE} {g : TG} : tAsg te g D σ H = te σ H fun x H1 => g x σ H1 D.nx := rfl
end
theorem q_name {i : Nat} {v : V} {σ : St} {H : Hp} {Q : St → Hp → Prop} : gName i v σ H Q = Q (σ.set i (some v)) H := rfl
theorem q_sub {to ti : TE} {t : TSet} {v : V} {σ : St} {H : Hp} {Q : St → Hp → Prop} : gSub to ti t v σ H Q = to σ H fun o H1 => ti σ H1 fun i H2 => t o i v H2 fun H3 => Q σ H3 := rfl
theorem q_iList {K : PySem.W.Frag} {tl : TE} {σ : St} {H : Hp} {R : It → Hp → Prop} : iList K tl σ H R = tl σ H fun x H1 => ∃ a, x = .ref a ∧ (∃ xs, SqL K H1 a xs) ∧ R (Itl K a) H1 := rfl
theorem q_iTup {K : PySem.W.Frag} {tl : TE} {σ : St} {H : Hp} {R : It → Hp → Prop} : iTup K tl σ H R = tl σ H fun x H1 => ∃ a, x = .ref a ∧ (∃ xs, SqT K H1 a xs) ∧ R (Itt K a) H1 := rfl
theorem q_iRng1 {ta : TA} {σ : St} {H : Hp} {R : It → Hp → Prop} : iRng1 ta σ H R = ta σ H fun vs H1 => ∃ j : Int, vs = [.int j] ∧ -(2 ^ 62) ≤ j ∧ j < 2 ^ 62 ∧ R (Itr 0 j.toNat) H1 := rfl
noncomputable def rFor (g : TG) (tb : TS) (D : Ends) (σ : St) : It → Hp → Prop := fun J H1 => ∃ W : Nat → Nat → St → Hp → Prop, (∃ m, W 0 m σ H1) ∧ ∀ i m σ H, W i m σ H →
  (J.stop i H ∧ D.nx σ H) ∨ (J.go i H ∧ ∃ N : St → Hp → Prop, (∀ σ' H', N σ' H' → ∃ m', m' < m ∧ W (i + 1) m' σ' H') ∧ ∀ x H', J.yld i H x H' → g x σ H' fun σ2 H2 => tb { D with nx := N, ct := N, bk := D.nx } σ2 H2)
theorem q_for {wi : TI} {g : TG} {tb : TS} {D : Ends} {σ : St} {H : Hp} : tFor wi g tb D σ H = wi σ H (rFor g tb D σ) := rfl
theorem Same.new {H : Hp} {p : Addr} (h : H p = none) (o : HO) : Same H (upd H p o) := fun b u q => by rw [upd_ne (ne_of_none q h)]; exact q
theorem Same.seqT {K : PySem.W.Frag} {H H' : Hp} {a : Addr} {xs : List V} (e : Same H H') (h : SqT K H a xs) : SqT K H' a xs := by
  rcases h with (h | ⟨o, h⟩) | h
  · exact .inl (.inl (e _ _ h))
  · exact .inl (.inr ⟨o, e _ _ h⟩)
  · exact .inr h
theorem Same.set {H H' : Hp} {p : Addr} (e : Same H H') (h : H p = none) (o : HO) : Same H (upd H' p o) := fun b u q => by rw [upd_ne (ne_of_none q h)]; exact e b u q
structure ItOk (J : It) (H1 : Hp) (n : Nat) (item : Nat → V) : Prop where
  go : ∀ i H, Same H1 H → i < n → J.go i H
  stop : ∀ i H, Same H1 H → n ≤ i → J.stop i H
  yld : ∀ i H x H', Same H1 H → i < n → J.yld i H x H' → H' = H ∧ x = item i
theorem itok_tup {K : PySem.W.Frag} {H1 : Hp} {a : Addr} {xs : List V} (h : SqT K H1 a xs) : ItOk (Itt K a) H1 xs.length fun i => xs.getD i .non where
  go := fun i H e hi => ⟨xs, xs[i], e.seqT h, by simp [hi]⟩
  stop := fun i H e hi => ⟨xs, e.seqT h, hi⟩
  yld := fun i H x H' e hi y => by
    obtain ⟨e1, y⟩ := y
    have := y xs (e.seqT h)
    refine ⟨e1, ?_⟩
    show x = xs.getD i .non
    rw [List.getD_eq_getElem?_getD, this]; rfl
theorem itok_list {K : PySem.W.Frag} {H1 : Hp} {a : Addr} {xs : List V} (h : SqL K H1 a xs) : ItOk (Itl K a) H1 xs.length fun i => xs.getD i .non where
  go := fun i H e hi => ⟨xs, xs[i], e.seq h, by simp [hi]⟩
  stop := fun i H e hi => ⟨xs, e.seq h, hi⟩
  yld := fun i H x H' e hi y => by
    obtain ⟨e1, y⟩ := y
    have := y xs (e.seq h)
    refine ⟨e1, ?_⟩
    show x = xs.getD i .non
    rw [List.getD_eq_getElem?_getD, this]; rfl
theorem itok_range {H1 : Hp} {lo : Int} {n : Nat} : ItOk (Itr lo n) H1 n fun i => .int (lo + i) where
  go := fun i H e hi => hi
  stop := fun i H e hi => hi
  yld := fun i H x H' e hi y => y
noncomputable def LcN (T : Nat → St → Prop) (F : Nat → List V) (H1 : Hp) (acc : Addr) (i : Nat) : St → Hp → Prop := fun τ' H' => T (i + 1) τ' ∧ Same H1 H' ∧ H' acc = some (.lst (F (i + 1)))
theorem lc_put {T : Nat → St → Prop} {F : Nat → List V} {H1 H4 : Hp} {acc : Addr} {i : Nat} {τ : St} {v : V} (hn : H1 acc = none) (h : H4 acc = some (.lst (F i))) (hs : Same H1 H4) (hz : (F i).length < sizeLine) (hF : F (i + 1) = F i ++ [v]) (hT : T (i + 1) τ) :
    ∃ ys, H4 acc = some (.lst ys) ∧ ys.length < sizeLine ∧ LcN T F H1 acc i τ (upd H4 acc (.lst (ys ++ [v]))) :=
  ⟨F i, h, hz, hT, hs.set hn _, by rw [upd_same, hF]⟩
theorem rLC_by {g : TG} {tc : TT} {te : TE} {τ0 : St} {Q : VK} {J : It} {H1 : Hp} {n : Nat} {item : Nat → V} (ok : ItOk J H1 n item) (F : Nat → List V) (T : Nat → St → Prop)
    (h0 : F 0 = []) (hT : T 0 τ0)
    (step : ∀ i τ H acc, i < n → T i τ → H1 acc = none → Same H1 H → H acc = some (.lst (F i)) → g (item i) τ H fun τ2 H2 => tc τ2 H2 fun b H3 =>
      if b = true then te τ2 H3 fun v H4 => ∃ ys, H4 acc = some (.lst ys) ∧ ys.length < sizeLine ∧ LcN T F H1 acc i τ2 (upd H4 acc (.lst (ys ++ [v]))) else LcN T F H1 acc i τ2 H3)
    (fin : ∀ acc H, H1 acc = none → Same H1 H → H acc = some (.lst (F n)) → Q (.ref acc) H) : rLC g tc te τ0 Q J H1 := by
  intro acc hacc
  refine ⟨fun i m τ H => m = n - i ∧ i ≤ n ∧ T i τ ∧ Same H1 H ∧ H acc = some (.lst (F i)), ⟨n, by simp, Nat.zero_le _, hT, Same.new hacc _, by rw [upd_same, h0]⟩, ?_⟩
  rintro i m τ H ⟨rfl, hi, hTi, hS, hF⟩
  by_cases hlt : i < n
  · refine .inr ⟨ok.go i H hS hlt, LcN T F H1 acc i, fun τ' H' ⟨a, b, c⟩ => ⟨n - (i + 1), by omega, rfl, hlt, a, b, c⟩, fun x H' y => ?_⟩
    obtain ⟨rfl, rfl⟩ := ok.yld i H x H' hS hlt y
    exact step i τ H' acc hlt hTi hacc hS hF
  · have e : i = n := by omega
    subst e
    exact .inl ⟨ok.stop i H hS (Nat.le_refl _), fin acc H hacc hS hF⟩
theorem q_var0 {v : V} {σ : St} {H : Hp} {Q : VK} : tVar 0 (some v :: σ) H Q = Q v H := q_var rfl
theorem q_varS {i : Nat} {o : Option V} {σ : St} {H : Hp} {Q : VK} : tVar (i + 1) (o :: σ) H Q = tVar i σ H Q := rfl
noncomputable def cscB (osc : Scope) (oN N : List Str) (scope : Scope) (fv : List (Option Nat)) : Bool :=
  decide (scope.kind = .function) && decide (osc.kind = .function) && scope.names.all (fun y => decide (y.2 ≠ .cell)) && scope.names.all (fun y => decide (y.2 = .local → scope.names.lookup y.1 = some .local)) &&
  scope.names.all (fun y => decide (y.2 = .free → osc.names.lookup y.1 = some .cell)) && (rl scope osc).names.all (fun y => decide (y.2 ≠ .free)) && decide (fv.length = N.length) && decide (N.length < 20) &&
  (List.range N.length).all (fun i => match fv[i]? with
    | some (some j) => decide (oN[j]? = N[i]?) && (match N[i]? with | some x => decide ((rl scope osc).names.lookup x = some .cell) && decide (osc.names.lookup x = some .cell) | none => false)
    | _ => true)
theorem csc_of {X : Cx} {osc : Scope} {oN N : List Str} {scope : Scope} {fv : List (Option Nat)} (h1 : X.env.scope = osc) (h2 : X.N = oN) (h : cscB osc oN N scope fv = true) : CSc X.env.scope X.N N scope fv := by
  rw [h1, h2]
  unfold cscB at h
  simp only [Bool.and_eq_true, List.all_eq_true, decide_eq_true_eq] at h
  obtain ⟨⟨⟨⟨⟨⟨⟨⟨a1, a2⟩, a3⟩, a4⟩, a5⟩, a6⟩, a7⟩, a8⟩, a9⟩ := h
  refine ⟨a1, a2, a3, a4, a5, a6, a7, fun i j _ e => ?_, a8⟩
  have hi : i < N.length := by rw [← a7]; exact (List.getElem?_eq_some_iff.mp e).1
  have q := a9 i (List.mem_range.mpr hi)
  rw [e] at q
  simp only [Bool.and_eq_true, decide_eq_true_eq] at q
  refine ⟨q.1, fun x hx => ?_⟩
  have q2 := q.2
  rw [hx] at q2
  simpa using q2
end L2
namespace L2
open PySem PySem.Spec PyProof.Rows
noncomputable def nst (e : Expr) : Bool := match e with
  | .Starred _ _ => false
  | _ => true
theorem star_cons {e : Expr} {es : List Expr} {env : Env} (h : nst e = true) : starEach (e :: es) env = (false, eval e env) :: starEach es env := by
  cases e <;> first | rfl | cases h
theorem plain_of {pos : Pos} {env : Env} : ∀ {es : List Expr}, es.all nst = true → (backTo pos (starEach es env)).any (·.1) = false
  | [], _ => rfl
  | e :: es, h => by
    rw [List.all_cons, Bool.and_eq_true] at h
    rw [star_cons h.1]
    show (false || (backTo pos (starEach es env)).any (·.1)) = false
    rw [plain_of h.2]; rfl
theorem plainA_of {pos : Pos} {env : Env} : ∀ {es : List Expr}, es.all nst = true → (backTo pos (starEach es env)).all (fun x => !x.1) = true
  | [], _ => rfl
  | e :: es, h => by
    rw [List.all_cons, Bool.and_eq_true] at h
    rw [star_cons h.1]
    show (true && (backTo pos (starEach es env)).all (fun x => !x.1)) = true
    rw [plainA_of h.2]; rfl
structure PB (X : Cx) (es : List Expr) (t : TA) : Prop where
  pa : PA X es t
  ns : es.all nst = true
section
variable {X : Cx} {e o : Expr} {es : List Expr} {te to : TE} {t : TA} {pos p : Pos}
theorem pb_nil : PB X [] tNil := ⟨pa_nil, rfl⟩
theorem pb_cons (ha : PE X e te) (hr : PB X es t) (hn : nst e = true := by rfl) : PB X (e :: es) (tCons te t) :=
  ⟨pa_cons ha hr.pa (star_cons hn), by rw [List.all_cons, hn, hr.ns]; rfl⟩
theorem PB.he (h : PB X (e :: es) t) : nst e = true := by have := h.ns; rw [List.all_cons, Bool.and_eq_true] at this; exact this.1
theorem PB.hes (h : PB X (e :: es) t) : es.all nst = true := by have := h.ns; rw [List.all_cons, Bool.and_eq_true] at this; exact this.2
theorem pe_tp {x1} (h : PB X es t) : PE X (.Tuple es x1 pos) (tTup t) := pe_tup h.pa
theorem pe_ls (h : PB X es t) : PE X (.List es pos) (tLst t) := pe_lst h.pa
end
structure Sc (X : Cx) (N W G : List Str) : Prop where
  eN : X.N = N
  nd : N.Nodup
  vis : ∀ x ∈ N, Vis X.env.scope x ∧ (x == ("__debug__" : Str)) = false ∧ (x == ("__classdict__" : Str)) = false
  sto : ∀ x ∈ W, Loc X.env.scope x ∧ (X.fn x = true ∨ X.env.scope.names.lookup x = some .local)
  gl : ∀ x ∈ G, Gl X x ∧ (x == ("__debug__" : Str)) = false ∧ x ≠ "__name__"
noncomputable def visB (sc : Scope) (x : Str) : Bool := (sc.names.lookup x == some .local || sc.names.lookup x == some .cell || sc.names.lookup x == some .free) && !(x == ("__debug__" : Str)) && !(x == ("__classdict__" : Str))
theorem visB_of {sc : Scope} {x : Str} (h : visB sc x = true) : Vis sc x ∧ (x == ("__debug__" : Str)) = false ∧ (x == ("__classdict__" : Str)) = false := by
  unfold visB at h
  simp only [Bool.and_eq_true, Bool.or_eq_true, beq_iff_eq, Bool.not_eq_true'] at h
  obtain ⟨⟨h1, h2⟩, h3⟩ := h
  refine ⟨?_, h2, h3⟩
  rcases h1 with (h1 | h1) | h1
  · exact .inl h1
  · exact .inr (.inl h1)
  · exact .inr (.inr h1)
noncomputable def glB (sc : Scope) (x : Str) : Bool := sc.names.lookup x == some .globalImplicit && !(x == ("__debug__" : Str)) && !(x == ("__name__" : Str))
theorem glB_of {sc : Scope} {x : Str} (h : glB sc x = true) : sc.names.lookup x = some .globalImplicit ∧ (x == ("__debug__" : Str)) = false ∧ x ≠ "__name__" := by
  unfold glB at h
  simp only [Bool.and_eq_true, beq_iff_eq, Bool.not_eq_true', beq_eq_false_iff_ne] at h
  exact ⟨h.1.1, by simpa using h.1.2, h.2⟩
noncomputable def dsB (sc : Scope) (N ps G : List Str) : Bool :=
  decide (sc.kind = .function) && !sc.isCoroutine && !sc.isGenerator && decide N.Nodup && decide (N.take ps.length = ps) && ps.all (fun x => sc.names.lookup x == some .local || sc.names.lookup x == some .cell) &&
  sc.names.all (fun y => decide (y.2 ≠ .free)) && N.all (visB sc) && N.all (fun x => sc.names.lookup x == some .local || sc.names.lookup x == some .cell) && G.all (glB sc)
structure DS (sc : Scope) (N ps G : List Str) : Prop where
  fs : FnScope N ps sc
  vis : ∀ x ∈ N, visB sc x = true
  loc : ∀ x ∈ N, Loc sc x
  gl : ∀ x ∈ G, glB sc x = true
theorem ds_of {sc : Scope} {N ps G : List Str} (h : dsB sc N ps G = true) : DS sc N ps G := by
  unfold dsB at h
  simp only [Bool.and_eq_true, Bool.not_eq_true', List.all_eq_true, decide_eq_true_eq, Bool.or_eq_true, beq_iff_eq] at h
  obtain ⟨⟨⟨⟨⟨⟨⟨⟨⟨a1, a2⟩, a3⟩, a4⟩, a5⟩, a6⟩, a7⟩, a8⟩, a9⟩, a10⟩ := h
  exact ⟨⟨a1, a2, a3, a4, a5, a6, a7⟩, a8, a9, a10⟩
section
variable {P : Program} {w : World} {K : PySem.W.Frag} {mg : Str → Option Value} {base : Heap} {k : Nat} {x : Str} {N ps G : List Str} {sp : Sp} {st : Stmt}
theorem DS.cx {sc : Scope} {q : Str} {f : Addr} {cdv : Value} {A : Around} {outer : List Env} {s : Shared} {H : Hp} {E : XK} (D : DS sc N ps G) : Sc (cxOf CX0 P w K mg base N q sc f cdv A outer s H E).nox N N G :=
  ⟨rfl, D.fs.nd, fun x hx => visB_of (D.vis x hx), fun x hx => ⟨D.loc x hx, .inl rfl⟩, fun x hx => glB_of (D.gl x hx)⟩
theorem Def.go (D : Def K mg x st) (S : DS (defScope st) N ps G)
    (hb : ∀ (kV doc pm : Value) (an : Option Addr) (cdv ct : Value) (us : List Value), us.length = ps.length → bindArgs (PySem.W.fnOf x x (defArgs st) (defBody st) (defScope st) .none kV doc pm an cdv ct) ⟨us, []⟩ = pure (ps.zip us))
    (len : ∀ vs H Q E, sp vs H Q E → vs.length = ps.length)
    (hbody : ∀ (X : Cx), Sc X N N G → X.prog = P → X.w = w → X.K = K → X.mg = mg → X.base = base → X.calm = true → X.env.scope = defScope st → X.xe = (fun _ _ => False) → Room k X.A → X.A.units + 64 < cLine →
      ∀ (H : Hp) (vs : List V) (Q : VK) (E : XK), sp vs H Q E → ∃ t, PSs X (defBody st) t ∧ t { nx := fun _ H' => Q .non H', rt := Q } (L2.start N vs) H) : Fn P w K mg base (k + 1) x ps sp := by
  refine D.fn S.fs hb len fun f cdv A outer s H vs Q E hr h => ?_
  exact hbody _ S.cx rfl rfl rfl rfl rfl rfl rfl rfl hr hr.units H vs Q E h
end
section
variable {X : Cx} {N W G : List Str}
theorem vv (S : Sc X N W G) (i : Nat) {x : Str} {pos : Pos} (h : N[i]? = some x := by rfl) : PE X (.Name x pos) (tVar i) :=
  have q := S.vis x (List.mem_of_getElem? h)
  pe_var (by rw [S.eN]; exact h) q.1 q.2.1 q.2.2
theorem sv (S : Sc X N W G) (i : Nat) {x : Str} {pos pos' : Pos} {e : Expr} {te : TE} (he : PE X e te) (h : N[i]? = some x := by rfl) (hw : W[i]? = some x := by rfl) (hs : swapsWith e (some (.Name x pos')) pos.line X.env = pure false := by rfl) :
    PS X (.Assign [.Name x pos'] e pos) (tAsg te (gName i)) :=
  have q := S.sto x (List.mem_of_getElem? hw)
  ps_set (by rw [S.eN]; exact S.nd) (by rw [S.eN]; exact h) q.1 he hs q.2
theorem gv (S : Sc X N W G) (i : Nat) {x : Str} {pos : Pos} (h : N[i]? = some x := by rfl) (hw : W[i]? = some x := by rfl) : PG X (.Name x pos) (gName i) :=
  have q := S.sto x (List.mem_of_getElem? hw)
  pg_name (by rw [S.eN]; exact S.nd) (by rw [S.eN]; exact h) q.1 q.2
variable {k m : Nat} {x : Str} {ps : List Str} {sp : Sp} {p pos : Pos} {e o : Expr} {es : List Expr} {t : TA} {te to : TE} {id T : String} {r : List V → Hp → VK → Prop}
theorem ff (S : Sc X N W G) (g : Nat) (F : Fn X.prog X.w X.K X.mg X.base k x ps sp) (hr : Room m X.A) (ha : PB X (e :: es) t) (hk : k ≤ m := by decide) (hg : G[g]? = some x := by rfl) : PE X (.Call (.Name x p) (e :: es) [] pos) (tCall sp [] E0 t) :=
  have q := S.gl x (List.mem_of_getElem? hg)
  pe_fn F hr q.1 ha.pa hk q.2.1 (star_cons ha.he) (plain_of ha.hes)
theorem cb (S : Sc X N W G) (g : Nat) (hc : CallR X (.builtin id) r) (hm : X.mg x = none) (hv : bootBuiltins x = some (.builtin id)) (ha : PB X (e :: es) t) (hg : G[g]? = some x := by rfl) : PE X (.Call (.Name x p) (e :: es) [] pos) (tCB r t) :=
  have q := S.gl x (List.mem_of_getElem? hg)
  pe_callB hc q.1 hm hv ha.pa q.2.2 q.2.1 (star_cons ha.he) (plain_of ha.hes)
theorem ct (S : Sc X N W G) (g : Nat) (hc : CallR X (.type T) r) (hm : X.mg x = none) (hv : bootBuiltins x = some (.type T)) (ha : PB X (e :: es) t) (hg : G[g]? = some x := by rfl) : PE X (.Call (.Name x p) (e :: es) [] pos) (tCB r t) :=
  have q := S.gl x (List.mem_of_getElem? hg)
  pe_callTy hc q.1 hm hv ha.pa q.2.2 q.2.1 (star_cons ha.he) (plain_of ha.hes)
theorem tyv (S : Sc X N W G) (g : Nat) (hm : X.mg x = none) (hv : bootBuiltins x = some (.type T)) (hg : G[g]? = some x := by rfl) : PE X (.Name x pos) (tC (.ty T)) :=
  have q := S.gl x (List.mem_of_getElem? hg)
  pe_tyv q.1 hm hv q.2.2 q.2.1
theorem rg1 (S : Sc X N W G) (g : Nat) {tg : Expr} (hm : X.mg "range" = none) (ha : PB X [e] t) (hg : G[g]? = some "range" := by rfl) : PI X tg (.Call (.Name "range" p) [e] [] pos) (iRng1 t) :=
  pi_range1 (S.gl _ (List.mem_of_getElem? hg)).1 hm ha.pa (star_cons ha.he)
variable {name : Str} {apos cpos : Pos} {rm : V → List V → Hp → VK → Prop}
theorem mb (pa : PlainAttrs T) (slot : Slot T name id) (hty : typeOf (.builtin id) = pure (.type "method_descriptor")) (hm : MtR X id rm) (ho : PE X o to) (ha : PB X (e :: es) t)
    (hbase : attributeBase o name X.env (eval o X.env) = eval o X.env := by rfl) (hlen : decide ((e :: es).length < 30) = true := by rfl)
    (hline : (apos.endLine == cpos.line) = true := by rfl) : PE X (.Call (.Attribute o name apos) (e :: es) [] cpos) (tBM X.K T rm to t) :=
  pe_bm pa slot hty hm ho ha.pa hbase (by rw [plainA_of ha.ns]; exact hlen) hline (star_cons ha.he) (plain_of ha.hes)
end
noncomputable def csB (osc : Scope) (oN N W G : List Str) (scope : Scope) (fv : List (Option Nat)) : Bool :=
  cscB osc oN N scope fv && decide N.Nodup && N.all (visB (rl scope osc)) && W.all (fun x => (rl scope osc).names.lookup x == some .local) && G.all (glB (rl scope osc))
section
variable {X : Cx} {elt target iter : Expr} {ifs : List Expr} {scope osc : Scope} {pos : Pos} {oN oW oG N W G : List Str} {fv : List (Option Nat)} {wi : TI} {g : TG} {tc : TT} {te : TE}
theorem sc_comp {cl : List (Str × Addr)} {C : Addr} {fp : List Addr} {s : Shared} {H : Hp} (h1 : X.env.scope = osc) (h : csB osc oN N W G scope fv = true) : Sc (cxC X N scope cl C fp s H) N W G := by
  unfold csB at h
  simp only [Bool.and_eq_true, List.all_eq_true, decide_eq_true_eq, beq_iff_eq] at h
  obtain ⟨⟨⟨⟨_, a2⟩, a3⟩, a4⟩, a5⟩ := h
  have e : (cxC X N scope cl C fp s H).env.scope = rl scope osc := by rw [← h1]; rfl
  exact ⟨rfl, a2, fun x hx => by rw [e]; exact visB_of (a3 x hx), fun x hx => by rw [e]; exact ⟨.inl (a4 x hx), .inr (a4 x hx)⟩, fun x hx => by unfold Gl Env.kindOf; rw [e]; exact glB_of (a5 x hx)⟩
theorem csB_csc (S : Sc X oN oW oG) (h1 : X.env.scope = osc) (h : csB osc oN N W G scope fv = true) : CSc X.env.scope X.N N scope fv := by
  unfold csB at h
  simp only [Bool.and_eq_true] at h
  exact csc_of h1 S.eN h.1.1.1.1
theorem lcE (S : Sc X oN oW oG) (hc : X.calm = true) (h1 : X.env.scope = osc) (hi : PI X target iter wi) (h : csB osc oN N W G scope fv = true)
    (hB : ∀ cl C fp s H, Sc (cxC X N scope cl C fp s H) N W G → PG (cxC X N scope cl C fp s H) target g ∧ PIf (cxC X N scope cl C fp s H) ifs tc ∧ PE (cxC X N scope cl C fp s H) elt te)
    (hs : ∀ x, foldedSetIterable iter X.env x = pure x := by intro _; rfl) : PE X (.ListComp elt [⟨target, iter, ifs, 0⟩] scope pos) (tLC wi g tc te fv) :=
  pe_lc hc hi (csB_csc S h1 h) (fun cl C fp s H => hB cl C fp s H (sc_comp h1 h)) hs
theorem lcS {i : Nat} {x : Str} {px spos : Pos} (S : Sc X oN oW oG) (hc : X.calm = true) (h1 : X.env.scope = osc) (hi : PI X target iter wi) (h : csB osc oN N W G scope fv = true)
    (hB : ∀ cl C fp s H, Sc (cxC X N scope cl C fp s H) N W G → PG (cxC X N scope cl C fp s H) target g ∧ PIf (cxC X N scope cl C fp s H) ifs tc ∧ PE (cxC X N scope cl C fp s H) elt te)
    (hx : X.env.scope.names.lookup x = some .local)
    (hsw : swapsWith (.ListComp elt [⟨target, iter, ifs, 0⟩] scope pos) (some (.Name x px)) spos.line X.env = pure true) (hi' : oN[i]? = some x := by rfl)
    (hs : ∀ x, foldedSetIterable iter X.env x = pure x := by intro _; rfl) : PS X (.Assign [.Name x px] (.ListComp elt [⟨target, iter, ifs, 0⟩] scope pos) spos) (tAsg (tLC wi g tc te fv) (gName i)) :=
  ps_lc (by rw [S.eN]; exact S.nd) (by rw [S.eN]; exact hi') hx hc hi (csB_csc S h1 h) (fun cl C fp s H => hB cl C fp s H (sc_comp h1 h)) hsw hs
end
section
variable {X : Cx} {K : PySem.W.Frag} {e o : Expr} {es : List Expr} {te to tl : TE} {t : TA} {pos apos cpos : Pos} {tg l : Expr} {name : Str} {T id : String} {rm : V → List V → Hp → VK → Prop}
theorem never' (h : X.xe = fun _ _ => False) : PassesOwn (model X.prog X.w) X.A X.env X.xe := by rw [h]; exact PassesOwn.never
theorem ix_listK (h : X.K = K) : IxR X (rIxL K) := by subst h; exact ix_list
theorem ix_tupK (h : X.K = K) : IxR X (rIxT K) := by subst h; exact ix_tup
theorem sl_listK (h : X.K = K) : SlR X (rSlL K) := by subst h; exact sl_list
theorem op_inK (h : X.K = K) : OpR X (compareOp .In) (rIn K false) := by subst h; exact op_in_seq
theorem op_notInK (h : X.K = K) : OpR X (compareOp .NotIn) (rIn K true) := by subst h; exact op_notIn_seq
noncomputable def rLen (K : PySem.W.Frag) : List V → Hp → VK → Prop := fun xs H Q => ∃ p ys, xs = [.ref p] ∧ (SqL K H p ys ∨ SqT K H p ys) ∧ Q (.int ys.length) H
theorem call_lenK (h : X.K = K) : CallR X (.builtin "len") (rLen K) := by subst h; exact call_len_seq
noncomputable def rSum (K : PySem.W.Frag) : List V → Hp → VK → Prop := fun xs H Q => ∃ (p : Addr) (ns : List Int), xs = [.ref p] ∧ SqL K H p (ns.map V.int) ∧ Q (.int ns.sum) H
theorem call_sumK (hc : X.calm = true) (h : X.K = K) : CallR X (.builtin "sum") (rSum K) := by subst h; exact call_sum hc
noncomputable def rTupOf (K : PySem.W.Frag) : List V → Hp → VK → Prop := fun xs H Q => ∃ p ys, xs = [.ref p] ∧ ((SqL K H p ys ∧ ∀ l, H l = none → Q (.ref l) (upd H l (.tup ys))) ∨ (SqT K H p ys ∧ Q (.ref p) H))
theorem call_tupK (h : X.K = K) : CallR X (.type "tuple") (rTupOf K) := by subst h; exact call_tuple_of
noncomputable def rListOf (K : PySem.W.Frag) : List V → Hp → VK → Prop := fun xs H Q => ∃ p ys, xs = [.ref p] ∧ (SqL K H p ys ∨ SqT K H p ys) ∧ ∀ l, H l = none → Q (.ref l) (upd H l (.lst ys))
theorem call_listK (h : X.K = K) : CallR X (.type "list") (rListOf K) := by subst h; exact call_list_of
noncomputable def rEqD (K : PySem.W.Frag) : R2 := fun x y H Q => ∃ d d', Dt K H x d ∧ Dt K H y d' ∧ PySem.SeqAt.shaped d = true ∧ PySem.SeqAt.shaped d' = true ∧ Q (.bl (PyData.eqv d d')) H
noncomputable def rNeD (K : PySem.W.Frag) : R2 := fun x y H Q => ∃ d d', Dt K H x d ∧ Dt K H y d' ∧ PySem.SeqAt.shaped d = true ∧ PySem.SeqAt.shaped d' = true ∧ Q (.bl (!PyData.eqv d d')) H
theorem op_eqK (hu : X.A.units + 64 < cLine) (h : X.K = K) : OpR X (compareOp .Eq) (rEqD K) := by subst h; exact op_eqD hu
theorem op_neK (hu : X.A.units + 64 < cLine) (h : X.K = K) : OpR X (compareOp .NotEq) (rNeD K) := by subst h; exact op_neD hu
noncomputable def rCatL (K : PySem.W.Frag) : R2 := fun x y H Q => ∃ l b xs zs, x = .ref l ∧ y = .ref b ∧ SqL K H l xs ∧ SqL K H b zs ∧ xs.length + zs.length ≤ sizeLine ∧ ∀ p, H p = none → Q (.ref p) (upd H p (.lst (xs ++ zs)))
theorem op_catLK (h : X.K = K) : OpR X (binaryOp .Add) (rCatL K) := by subst h; exact op_catL
noncomputable def rIsi : List V → Hp → VK → Prop := fun xs H Q => ∃ x T n b, xs = [x, .ty T] ∧ tyName x H = some n ∧ subT n T = some b ∧ Q (.bl b) H
theorem call_isiK : CallR X (.builtin "isinstance") rIsi := call_isi
theorem pi_listK (hl : PE X l tl) (h : X.K = K) : PI X tg l (iList K tl) := by subst h; exact pi_list hl
theorem pi_tupK (hl : PE X l tl) (h : X.K = K) : PI X tg l (iTup K tl) := by subst h; exact pi_tup hl
theorem mbK (pa : PlainAttrs T) (slot : Slot T name id) (hty : typeOf (.builtin id) = pure (.type "method_descriptor")) (hm : MtR X id rm) (h : X.K = K) (ho : PE X o to) (ha : PB X (e :: es) t)
    (hbase : attributeBase o name X.env (eval o X.env) = eval o X.env := by rfl) (hlen : decide ((e :: es).length < 30) = true := by rfl)
    (hline : (apos.endLine == cpos.line) = true := by rfl) : PE X (.Call (.Attribute o name apos) (e :: es) [] cpos) (tBM K T rm to t) := by subst h; exact mb pa slot hty hm ho ha hbase hlen hline
noncomputable def rCatTT (K : PySem.W.Frag) : R2 := fun x y H Q => ∃ a b xs ys, x = .ref a ∧ y = .ref b ∧ SqT K H a xs ∧ SqT K H b ys ∧ xs.length + ys.length ≤ sizeLine ∧ ∀ p H', Same H H' → SqT K H' p (xs ++ ys) → Q (.ref p) H'
theorem op_catTK (h : X.K = K) : OpR X (binaryOp .Add) (rCatTT K) := by
  subst h
  intro pins s σ H x y v u Q I rx ry h
  obtain ⟨a, b, xs, ys, rfl, rfl, ha, hb, hz, q⟩ := h
  by_cases hx : xs = []
  · subst hx
    cases rx
    cases ry
    obtain ⟨its, r1, ⟨⟨cls, dd, data, sl⟩, e, ec, n, ex⟩, _⟩ := I.tuple ha
    obtain ⟨its2, r2, ⟨⟨cls2, dd2, data2, sl2⟩, e2, ec2, n2, ex2⟩, _⟩ := I.tuple hb
    simp only at ec ex ec2 ex2
    subst ec ex ec2 ex2
    cases r1
    refine concat_meets ⟨_, e, rfl⟩ ⟨_, e2, rfl⟩ noFill_tuple_add seq_tuple_add PySem.F.slot_tuple_add PySem.F.entry_tuple_add (PySem.F.args_tuple_add_2 _ _) (tuple_addW0 a b _ its2.toArray n n2 dd dd2 sl sl2 rfl) ⟨e, e2, ?_⟩
    exact ⟨.ref b, H, I, rfl, q b H (Same.refl _) hb⟩
  · exact op_catT pins s σ H _ _ v u Q I rx ry ⟨a, b, xs, ys, rfl, rfl, ha, hb, hx, hz, fun e => q a H (Same.refl _) (by rw [e, List.append_nil]; exact ha), fun _ p hp => q p _ (Same.new hp _) (SqT.of upd_same)⟩
end
noncomputable def mkEnv (sc : Scope) : Env := { scope := sc, locals := 0, globals := 0, cells := [], qual := "", func := none, code := .none, frame := none, builtins := 0 }
theorem sww_env (v : Expr) (t : Option Expr) (l : Nat) (env : Env) : swapsWith v t l env = swapsWith v t l (mkEnv env.scope) := rfl
noncomputable def intsE : List Expr → Option (List Int)
  | [] => some []
  | .Constant (.int i) _ _ :: r => (intsE r).map (i :: ·)
  | _ => none
noncomputable def tInts (ns : List Int) : TA := fun _ H Q => Q (ns.map V.int) H
theorem pb_ints {X : Cx} : ∀ {es : List Expr} {ns : List Int}, intsE es = some ns → PB X es (tInts ns)
  | [], ns, h => by cases h; exact pb_nil
  | e :: es, ns, h => by
    unfold intsE at h
    split at h
    · rename_i h1; cases h1
    · rename_i i k p r h1
      cases h1
      obtain ⟨ms, h2, rfl⟩ := Option.map_eq_some_iff.mp h
      exact pb_cons pe_int (pb_ints h2)
    · cases h
noncomputable def strsE : List Expr → Option (List Str)
  | [] => some []
  | .Constant (.str i) _ _ :: r => (strsE r).map (i :: ·)
  | _ => none
noncomputable def tStrs (ns : List Str) : TA := fun _ H Q => Q (ns.map V.str) H
theorem pb_strs {X : Cx} : ∀ {es : List Expr} {ns : List Str}, strsE es = some ns → PB X es (tStrs ns)
  | [], ns, h => by cases h; exact pb_nil
  | e :: es, ns, h => by
    unfold strsE at h
    split at h
    · rename_i h1; cases h1
    · rename_i i k p r h1
      cases h1
      obtain ⟨ms, h2, rfl⟩ := Option.map_eq_some_iff.mp h
      exact pb_cons pe_str (pb_strs h2)
    · cases h
theorem q_ints {ns : List Int} {σ : St} {H : Hp} {Q : List V → Hp → Prop} : tInts ns σ H Q = Q (ns.map V.int) H := rfl
theorem q_strs {ns : List Str} {σ : St} {H : Hp} {Q : List V → Hp → Prop} : tStrs ns σ H Q = Q (ns.map V.str) H := rfl
end L2
namespace L2
open PySem PySem.Spec PyProof.Rows
structure QE (X : Cx) (e : Expr) (t : TE) : Prop where
  h : PE X e t
structure QT (X : Cx) (e : Expr) (t : TT) : Prop where
  h : PT X e t
structure QW (X : Cx) (e : Expr) (t : TT) : Prop where
  h : PW X e t
structure QB (X : Cx) (es : List Expr) (t : TA) : Prop where
  h : PB X es t
structure QS (X : Cx) (st : Stmt) (t : TS) : Prop where
  h : PS X st t
structure QSs (X : Cx) (st : List Stmt) (t : TS) : Prop where
  h : PSs X st t
structure QG (X : Cx) (e : Expr) (t : TG) : Prop where
  h : PG X e t
structure QGs (X : Cx) (e : List Expr) (t : TGs) : Prop where
  h : PGs X e t
structure QI (X : Cx) (tg iter : Expr) (wi : TI) : Prop where
  h : PI X tg iter wi
structure QIf (X : Cx) (ifs : List Expr) (t : TT) : Prop where
  h : PIf X ifs t
structure QO (X : Cx) (e : Option Expr) (t : TO) : Prop where
  h : PO X e t
section
variable {X : Cx} {N W G : List Str} {K : PySem.W.Frag} {a b c e o : Expr} {es rest : List Expr} {ta tb tc te to : TE} {tA tB' : TT} {t : TA} {u v : TS} {pos pos' p apos cpos : Pos} {k m : Nat} {x : Str} {ps : List Str} {sp : Sp} {id T : String} {r : List V → Hp → VK → Prop} {st : Stmt} {sts : List Stmt} {tg iter : Expr} {wi : TI} {g : TG} {name : Str} {rm : V → List V → Hp → VK → Prop}
theorem kv (S : Sc X N W G) (i : Nat) (h : N[i]? = some x := by rfl) : QE X (.Name x pos) (tVar i) := ⟨vv S i h⟩
theorem kint {i : Int} {j : Nat} : QE X (.Constant (.int i) j pos) (tC (.int i)) := ⟨pe_int⟩
theorem kbl {i : Bool} {j : Nat} : QE X (.Constant (.bool i) j pos) (tC (.bl i)) := ⟨pe_bl⟩
theorem knon {j : Nat} : QE X (.Constant .none j pos) (tC .non) := ⟨pe_non⟩
theorem kstr {i : Str} {j : Nat} : QE X (.Constant (.str i) j pos) (tC (.str i)) := ⟨pe_str⟩
theorem kop {op : Operator} {r : R2} (ho : OpR X (binaryOp op) r) (ha : QE X a ta) (hb : QE X b tb) : QE X (.BinOp a op b pos) (tOp r ta tb) := ⟨pe_op ho ha.h hb.h⟩
theorem kdivc {n : Int} (ha : QE X a ta) (h : 0 < n ∧ n < 1073741824 := by decide) : QE X (.BinOp a .FloorDiv (.Constant (.int n) k pos') pos) (tI (fun i => .int (i / n)) ta) := ⟨pe_divc ha.h h⟩
theorem kmodc {n : Int} (ha : QE X a ta) (h : 0 < n := by decide) : QE X (.BinOp a .Mod (.Constant (.int n) k pos') pos) (tI (fun i => .int (i % n)) ta) := ⟨pe_modc ha.h h⟩
theorem kmulc {n : Int} (ha : QE X a ta) (h : -(2 ^ 64) < n ∧ n < 2 ^ 64 := by decide) : QE X (.BinOp a .Mult (.Constant (.int n) k pos') pos) (tI (fun i => .int (i * n)) ta) := ⟨pe_mulc ha.h h⟩
theorem kcmul {n : Int} (ha : QE X a ta) (h : -(2 ^ 64) < n ∧ n < 2 ^ 64 := by decide) : QE X (.BinOp (.Constant (.int n) k pos') .Mult a pos) (tI (fun i => .int (n * i)) ta) := ⟨pe_cmul ha.h h⟩
theorem kun {op : UnaryOp} {r : V → Hp → VK → Prop} (ho : UnR X (unaryOp op) r) (ha : QE X a ta) : QE X (.UnaryOp op a pos) (tUn r ta) := ⟨pe_un ho ha.h⟩
theorem kcmp {op : CmpOp} {r : R2} (ho : OpR X (compareOp op) r) (ha : QE X a ta) (hb : QE X b tb) (hm : behindInMarks op b = false) : QE X (.Compare a [op] [b] pos) (tOp r ta tb) := ⟨pe_cmpR ho ha.h hb.h hm⟩
theorem kchain {op op' : CmpOp} {r r' : R2} (ho : OpR X (compareOp op) r) (ho' : OpR X (compareOp op') r') (ha : QE X a ta) (hb : QE X b tb) (hc : QE X c tc)
    (hm : lastMarks [op, op'] [b, c] = false := by with_unfolding_all rfl) : QE X (.Compare a [op, op'] [b, c] pos) (tChain r r' ta tb tc) := ⟨pe_chain ho ho' ha.h hb.h hc.h hm⟩
theorem kone {op} (h : QE X a ta) : QE X (.BoolOp op [a] pos) ta := ⟨pe_one h.h⟩
theorem kand (ha : QE X a ta) (hb : QE X (.BoolOp .And (b :: rest) pos) tb) : QE X (.BoolOp .And (a :: b :: rest) pos) (tAndV ta tb) := ⟨pe_and ha.h hb.h⟩
theorem kb_nil : QB X [] tNil := ⟨pb_nil⟩
theorem kb_cons (ha : QE X e te) (hr : QB X es t) (hn : nst e = true := by rfl) : QB X (e :: es) (tCons te t) := ⟨pb_cons ha.h hr.h hn⟩
theorem kb_ints {ns : List Int} (h : intsE es = some ns) : QB X es (tInts ns) := ⟨pb_ints h⟩
theorem kb_strs {ns : List Str} (h : strsE es = some ns) : QB X es (tStrs ns) := ⟨pb_strs h⟩
theorem ktp {x1} (h : QB X es t) : QE X (.Tuple es x1 pos) (tTup t) := ⟨pe_tp h.h⟩
theorem kls (h : QB X es t) : QE X (.List es pos) (tLst t) := ⟨pe_ls h.h⟩
theorem kix {r : R2} (hr : IxR X r) (ha : QE X a ta) (hb : QE X b tb) (hs : PlainIx b) : QE X (.Subscript a b pos) (tOp r ta tb) := ⟨pe_ix hr ha.h hb.h hs⟩
theorem ko_none : QO X none tNoPart := ⟨po_none⟩
theorem ko_some (h : QE X e te) : QO X (some e) (tPart te) := ⟨po_some h.h⟩
theorem ksl {lo hi : Option Expr} {tl th : TO} {p2 : Pos} {r : V → Option Int → Option Int → Hp → VK → Prop} (hr : SlR X r) (he : QE X e te) (hl : QO X lo tl) (hu : QO X hi th) : QE X (.Subscript e (.Slice lo hi none p2) pos) (tSl r te tl th) := ⟨pe_slice hr he.h hl.h hu.h⟩
theorem kff (S : Sc X N W G) (g : Nat) (F : Fn X.prog X.w X.K X.mg X.base k x ps sp) (hr : Room m X.A) (ha : QB X (e :: es) t) (hk : k ≤ m := by decide) (hg : G[g]? = some x := by rfl) : QE X (.Call (.Name x p) (e :: es) [] pos) (tCall sp [] E0 t) := ⟨ff S g F hr ha.h hk hg⟩
theorem kcb (S : Sc X N W G) (g : Nat) (hc : CallR X (.builtin id) r) (hm : X.mg x = none) (hv : bootBuiltins x = some (.builtin id)) (ha : QB X (e :: es) t) (hg : G[g]? = some x := by rfl) : QE X (.Call (.Name x p) (e :: es) [] pos) (tCB r t) := ⟨cb S g hc hm hv ha.h hg⟩
theorem kct (S : Sc X N W G) (g : Nat) (hc : CallR X (.type T) r) (hm : X.mg x = none) (hv : bootBuiltins x = some (.type T)) (ha : QB X (e :: es) t) (hg : G[g]? = some x := by rfl) : QE X (.Call (.Name x p) (e :: es) [] pos) (tCB r t) := ⟨ct S g hc hm hv ha.h hg⟩
theorem kty (S : Sc X N W G) (g : Nat) (hm : X.mg x = none) (hv : bootBuiltins x = some (.type T)) (hg : G[g]? = some x := by rfl) : QE X (.Name x pos) (tC (.ty T)) := ⟨tyv S g hm hv hg⟩
theorem kmb (pa : PlainAttrs T) (slot : Slot T name id) (hty : typeOf (.builtin id) = pure (.type "method_descriptor")) (hm : MtR X id rm) (h : X.K = K) (ho : QE X o to) (ha : QB X (e :: es) t)
    (hbase : attributeBase o name X.env (eval o X.env) = eval o X.env := by rfl) (hlen : decide ((e :: es).length < 30) = true := by rfl)
    (hline : (apos.endLine == cpos.line) = true := by rfl) : QE X (.Call (.Attribute o name apos) (e :: es) [] cpos) (tBM K T rm to t) := ⟨mbK pa slot hty hm h ho.h ha.h hbase hlen hline⟩
theorem tcmp {op : CmpOp} {r : R2} (ho : OpR X (compareOp op) r) (ha : QE X a ta) (hb : QE X b tb) (hm : behindInMarks op b = false) : QT X (.Compare a [op] [b] pos) (tTest (tOp r ta tb)) := ⟨pt_cmpR ho ha.h hb.h hm⟩
theorem tchain {op op' : CmpOp} {r r' : R2} (ho : OpR X (compareOp op) r) (ho' : OpR X (compareOp op') r') (ha : QE X a ta) (hb : QE X b tb) (hc : QE X c tc)
    (hm : lastMarks [op, op'] [b, c] = false := by with_unfolding_all rfl) : QT X (.Compare a [op, op'] [b, c] pos) (tTest (tChain r r' ta tb tc)) := ⟨pt_chain ho ho' ha.h hb.h hc.h hm⟩
theorem wand1 (ha : QT X a tA) : QW X (.BoolOp .And [a] pos) tA := ⟨pw_and1 ha.h⟩
theorem wor1 (ha : QT X a tA) : QW X (.BoolOp .Or [a] pos) tA := ⟨pw_or1 ha.h⟩
theorem wand (ha : QT X a tA) (hb : QW X (.BoolOp .And (b :: rest) pos) tB') : QW X (.BoolOp .And (a :: b :: rest) pos) (tAnd tA tB') := ⟨pw_and ha.h hb.h⟩
theorem wor (ha : QT X a tA) (hb : QW X (.BoolOp .Or (b :: rest) pos) tB') : QW X (.BoolOp .Or (a :: b :: rest) pos) (tOr tA tB') := ⟨pw_or ha.h hb.h⟩
theorem wpt (h : QW X a tA) : QT X a tA := ⟨h.h.pt⟩
theorem tnot (ha : QT X a tA) : QT X (.UnaryOp .Not a pos) (tNot tA) := ⟨pt_not ha.h⟩
theorem tval (h : QE X e te) (he : ∀ whole, isTrue e X.env whole = (do let v ← whole; standAt e.pos; holding [v] (truthy v)) := by intro _; rfl) : QT X e (tB te) := ⟨pt_val h.h he⟩
theorem kg (S : Sc X N W G) (i : Nat) (h : N[i]? = some x := by rfl) (hw : W[i]? = some x := by rfl) : QG X (.Name x pos) (gName i) := ⟨gv S i h hw⟩
theorem gs_nil : QGs X [] gNil := ⟨pgs_nil⟩
theorem gs_cons {tgs : TGs} (h1 : QG X e g) (h2 : QGs X es tgs) (hs : (assignEach (e :: es) X.env).map (·.2) = assign e X.env :: (assignEach es X.env).map (·.2) := by rfl) : QGs X (e :: es) (gCons g tgs) := ⟨pgs_cons h1.h h2.h hs⟩
theorem gtup {kk : Nat} {tgs : TGs} {n : Nat} (hc : X.calm = true) (hK : X.K = K) (h : QGs X es tgs) (hn : (assignEach es X.env).length = n := by rfl) (hst : (assignEach es X.env).findIdx? (·.1) = none := by rfl) : QG X (.Tuple es kk pos) (gTup K n tgs) := ⟨by subst hK; exact pg_tup hc h.h hn hst⟩
theorem gsub {ti : TE} {i : Expr} {tS : TSet} (ho : QE X o to) (hi : QE X i ti) (hs : PSet X tS)
    (ha : ∀ v, assign (.Subscript o i pos) X.env v = (do
      let ov ← holding [v] (eval o X.env)
      let iv ← holding [v, ov] (eval i X.env)
      standAt pos
      holding [v, ov, iv] (setItem ov iv v)
      release [v, ov, iv] []) := by intro _; rfl) : QG X (.Subscript o i pos) (gSub to ti tS) := ⟨pg_sub ho.h hi.h hs ha⟩
theorem irg1 (S : Sc X N W G) (g : Nat) (hm : X.mg "range" = none) (ha : QB X [e] t) (hg : G[g]? = some "range" := by rfl) : QI X tg (.Call (.Name "range" p) [e] [] pos) (iRng1 t) := ⟨rg1 S g hm ha.h hg⟩
theorem ilistK (hl : QE X e te) (h : X.K = K) : QI X tg e (iList K te) := ⟨pi_listK hl.h h⟩
theorem itupK (hl : QE X e te) (h : X.K = K) : QI X tg e (iTup K te) := ⟨pi_tupK hl.h h⟩
theorem if_nil : QIf X [] tTrue := ⟨pif_nil⟩
theorem if_one (h : QT X e tA) : QIf X [e] tA := ⟨pif_one h.h⟩
theorem ssv (S : Sc X N W G) (i : Nat) (he : QE X e te) (h : N[i]? = some x := by rfl) (hw : W[i]? = some x := by rfl) (hs : swapsWith e (some (.Name x pos')) pos.line X.env = pure false := by rfl) :
    QS X (.Assign [.Name x pos'] e pos) (tAsg te (gName i)) := ⟨sv S i he.h h hw hs⟩
theorem sasg (he : QE X e te) (hg : QG X tg g) (hs : swapsWithSole [tg] e pos.line X.env = pure false := by rfl) (hw : swappedStores [tg] e X.env = pure none := by rfl)
    (h1 : (assignEach [tg] X.env).map (·.2) = [assign tg X.env] := by rfl) : QS X (.Assign [tg] e pos) (tAsg te g) := ⟨ps_asg he.h hg.h hs hw h1⟩
theorem sret (he : QE X e te) : QS X (.Return (some e) pos) (tRet te) := ⟨ps_ret he.h⟩
theorem sexpr (he : QE X e te) (hs : swapsWith e none pos.line X.env = pure false := by rfl) : QS X (.Expr e pos) (tDrop te) := ⟨ps_expr he.h hs⟩
theorem sif {l l' : List Stmt} (hc : QT X c tA) (ha : QSs X l u) (hb : QSs X l' v) : QS X (.If c l l' pos) (tIfS tA u v) := ⟨ps_if hc.h ha.h hb.h⟩
theorem sfor (hxe : X.xe = fun _ _ => False) (hc : X.calm = true) (hi : QI X tg iter wi) (hg : QG X tg g) (hb : QSs X sts u) (hs : ∀ x, foldedSetIterable iter X.env x = pure x := by intro _; rfl) : QS X (.For tg iter sts [] pos) (tFor wi g u) := ⟨ps_for (never' hxe) hc hi.h hg.h hb.h hs⟩
theorem ss_nil : QSs X [] tNext := ⟨pss_nil⟩
theorem ss_cons (h1 : QS X st u) (h2 : QSs X sts v) : QSs X (st :: sts) (tSeq u v) := ⟨pss_cons h1.h h2.h⟩
theorem ss_one (h1 : QS X st u) : QSs X [st] u := ⟨pss_one h1.h⟩
theorem klc {elt target iter : Expr} {ifs : List Expr} {scope osc : Scope} {oN oW oG N W G : List Str} {fv : List (Option Nat)} (S : Sc X oN oW oG) (hc : X.calm = true) (h1 : X.env.scope = osc) (hi : QI X target iter wi) (h : csB osc oN N W G scope fv = true)
    (hB : ∀ cl C fp s H, Sc (cxC X N scope cl C fp s H) N W G → QG (cxC X N scope cl C fp s H) target g ∧ QIf (cxC X N scope cl C fp s H) ifs tA ∧ QE (cxC X N scope cl C fp s H) elt te)
    (hs : ∀ x, foldedSetIterable iter X.env x = pure x := by intro _; rfl) : QE X (.ListComp elt [⟨target, iter, ifs, 0⟩] scope pos) (tLC wi g tA te fv) :=
  ⟨lcE S hc h1 hi.h h (fun cl C fp s H S2 => ⟨(hB cl C fp s H S2).1.h, (hB cl C fp s H S2).2.1.h, (hB cl C fp s H S2).2.2.h⟩) hs⟩
theorem slc {elt target iter : Expr} {ifs : List Expr} {scope osc : Scope} {oN oW oG N W G : List Str} {fv : List (Option Nat)} {i : Nat} {x : Str} {px spos : Pos} (S : Sc X oN oW oG) (hc : X.calm = true) (h1 : X.env.scope = osc) (hi : QI X target iter wi) (h : csB osc oN N W G scope fv = true)
    (hB : ∀ cl C fp s H, Sc (cxC X N scope cl C fp s H) N W G → QG (cxC X N scope cl C fp s H) target g ∧ QIf (cxC X N scope cl C fp s H) ifs tA ∧ QE (cxC X N scope cl C fp s H) elt te)
    (hx : X.env.scope.names.lookup x = some .local)
    (hsw : swapsWith (.ListComp elt [⟨target, iter, ifs, 0⟩] scope pos) (some (.Name x px)) spos.line X.env = pure true) (hi' : oN[i]? = some x := by rfl)
    (hs : ∀ x, foldedSetIterable iter X.env x = pure x := by intro _; rfl) : QS X (.Assign [.Name x px] (.ListComp elt [⟨target, iter, ifs, 0⟩] scope pos) spos) (tAsg (tLC wi g tA te fv) (gName i)) :=
  ⟨lcS S hc h1 hi.h h (fun cl C fp s H S2 => ⟨(hB cl C fp s H S2).1.h, (hB cl C fp s H S2).2.1.h, (hB cl C fp s H S2).2.2.h⟩) hx hsw hi' hs⟩
end
section
variable {P : Program} {w : World} {K : PySem.W.Frag} {mg : Str → Option Value} {base : Heap} {k : Nat} {x : Str} {N ps G : List Str} {sp : Sp} {st : Stmt}
theorem Def.gq (D : Def K mg x st) (S : DS (defScope st) N ps G)
    (hb : ∀ (kV doc pm : Value) (an : Option Addr) (cdv ct : Value) (us : List Value), us.length = ps.length → bindArgs (PySem.W.fnOf x x (defArgs st) (defBody st) (defScope st) .none kV doc pm an cdv ct) ⟨us, []⟩ = pure (ps.zip us))
    (len : ∀ vs H Q E, sp vs H Q E → vs.length = ps.length)
    (hbody : ∀ (X : Cx), Sc X N N G → X.prog = P → X.w = w → X.K = K → X.mg = mg → X.base = base → X.calm = true → X.env.scope = defScope st → X.xe = (fun _ _ => False) → Room k X.A → X.A.units + 64 < cLine →
      ∀ (H : Hp) (vs : List V) (Q : VK) (E : XK), sp vs H Q E → ∃ t, QSs X (defBody st) t ∧ t { nx := fun _ H' => Q .non H', rt := Q } (L2.start N vs) H) : Fn P w K mg base (k + 1) x ps sp :=
  D.go S hb len fun X a b c d e f g h i j l H vs Q E q => by
    obtain ⟨t, z, y⟩ := hbody X a b c d e f g h i j l H vs Q E q
    exact ⟨t, z.h, y⟩
end
end L2
namespace KM
end KM
namespace KM
end KM
namespace KM
theorem getD_mem {cs : List Int} {i : Nat} (hi : i < cs.length) : cs.getD i 0 ∈ cs := by
  rw [List.getD_eq_getElem?_getD, List.getElem?_eq_getElem hi]; exact List.getElem_mem hi
end KM
namespace L2
open PySem PySem.Spec PyProof.Rows
theorem q_iT {A B : Prop} [Decidable (true = true)] : (if true = true then A else B) = A := if_pos rfl
theorem q_ifT {A B : Prop} [Decidable True] : (if True then A else B) = A := if_pos trivial
theorem q_ifF {A B : Prop} [Decidable False] : (if False then A else B) = B := if_neg id
theorem q_dT [i : Decidable True] : @decide True i = true := by cases i with
  | isTrue _ => rfl
  | isFalse h => exact absurd trivial h
theorem q_upS {σ : St} : upS [] σ = [] := rfl
theorem q_upN {fv : List (Option Nat)} {σ : St} : upS (none :: fv) σ = none :: upS fv σ := rfl
noncomputable def getO (σ : St) (i : Nat) : Option V := (σ[i]?).join
theorem q_upV {fv : List (Option Nat)} {i : Nat} {σ : St} : upS (some i :: fv) σ = getO σ i :: upS fv σ := rfl
theorem q_g0 {o : Option V} {σ : St} : getO (o :: σ) 0 = o := rfl
theorem q_gS {i : Nat} {o : Option V} {σ : St} : getO (o :: σ) (i + 1) = getO σ i := rfl
theorem to_isi {x : V} {H : Hp} {n T : String} {b : Bool} {Q : VK} (hn : tyName x H = some n) (hb : subT n T = some b) (q : Q (.bl b) H) : rIsi [x, .ty T] H Q := ⟨x, T, n, b, rfl, hn, hb, q⟩
theorem ty_tup {H : Hp} {p : Addr} {xs : List V} (h : H p = some (.tup xs)) : tyName (.ref p) H = some "tuple" := by unfold tyName; simp only [h]
theorem to_len {K : PySem.W.Frag} {H : Hp} {Q : VK} {p : Addr} {ys : List V} (h : SqL K H p ys ∨ SqT K H p ys) (q : Q (.int ys.length) H) : rLen K [.ref p] H Q := ⟨p, ys, rfl, h, q⟩
theorem atI_getD {α : Type} {xs : List α} {i : Int} {k : Nat} (e : i = (k : Int)) (d : α) (h1 : k < xs.length) : atI xs i = some (xs.getD k d) := by
  subst e
  rw [atI_nat (List.getElem?_eq_getElem h1), List.getD_eq_getElem?_getD, List.getElem?_eq_getElem h1]; rfl
theorem getD_ints {ns : List Int} {k : Nat} (h : k < ns.length) : (ns.map V.int).getD k .non = .int (ns.getD k 0) := by
  rw [List.getD_eq_getElem?_getD, List.getElem?_map, List.getElem?_eq_getElem h, List.getD_eq_getElem?_getD, List.getElem?_eq_getElem h]; rfl
theorem to_ixLk {K : PySem.W.Frag} {H : Hp} {Q : VK} {p : Addr} {ns : List Int} {i : Int} {k : Nat} (h : SqL K H p (ns.map V.int)) (e : i = (k : Int)) (h1 : k < ns.length) (q : Q (.int (ns.getD k 0)) H) : rIxL K (.ref p) (.int i) H Q :=
  ⟨p, _, i, _, rfl, rfl, h, atI_getD e .non (by rw [List.length_map]; exact h1), by rw [getD_ints h1]; exact q⟩
section
variable {K : PySem.W.Frag} {a : Addr} {ns : List Int} {g : TG} {tb : TS} {D : Ends} {σ : St} {H : Hp}
theorem forL (I : Nat → St → Hp → Prop) (h : SqL K H a (ns.map V.int)) (h0 : I 0 σ H) (hl : ∀ i σ H, I i σ H → SqL K H a (ns.map V.int))
    (step : ∀ i σ H, i < ns.length → I i σ H → g (.int (ns.getD i 0)) σ H fun σ2 H2 => tb { D with nx := I (i + 1), ct := I (i + 1), bk := D.nx } σ2 H2)
    (fin : ∀ σ H, I ns.length σ H → D.nx σ H) : ∃ b, V.ref a = .ref b ∧ (∃ xs, SqL K H b xs) ∧ rFor g tb D σ (Itl K b) H := by
  refine ⟨a, rfl, ⟨_, h⟩, for_list (xs := ns.map V.int) I h0 (fun i σ H _ p => hl i σ H p) (fun i x σ H e p => ?_) fun σ H p => fin σ H (by rw [List.length_map] at p; exact p)⟩
  have hi : i < ns.length := by have := (List.getElem?_eq_some_iff.mp e).1; rw [List.length_map] at this; exact this
  have e2 : x = .int (ns.getD i 0) := by
    rw [← getD_ints hi, List.getD_eq_getElem?_getD, e]; rfl
  rw [e2]
  exact step i σ H hi p
theorem forR {j : Int} (n : Nat) (I : Nat → St → Hp → Prop) (e : j = (n : Int)) (hn : n ≤ 1000000) (h0 : I 0 σ H)
    (step : ∀ i σ H, i < n → I i σ H → g (.int (i : Int)) σ H fun σ2 H2 => tb { D with nx := I (i + 1), ct := I (i + 1), bk := D.nx } σ2 H2)
    (fin : ∀ σ H, I n σ H → D.nx σ H) : ∃ k : Int, [V.int j] = [.int k] ∧ -(2 ^ 62) ≤ k ∧ k < 2 ^ 62 ∧ rFor g tb D σ (Itr 0 k.toNat) H := by
  subst e
  refine ⟨_, rfl, by omega, by omega, for_range (n := ((n : Nat) : Int).toNat) I h0 (fun i σ H hi p => ?_) fun σ H p => fin σ H (by rw [Int.toNat_natCast] at p; exact p)⟩
  rw [Int.toNat_natCast] at hi
  have := step i σ H hi p
  rw [← Int.zero_add ((i : Nat) : Int)] at this
  exact this
end
theorem lc1 {tc : TT} {te : TE} {rest : St} {Q : VK} {J : It} {H1 : Hp} {n : Nat} {item : Nat → V} (ok : ItOk J H1 n item) (keep : Nat → Bool) (val : Nat → V) (hn : n < sizeLine)
    (step : ∀ i H (A : V → Hp → Prop) (B : Hp → Prop), i < n → Same H1 H → (keep i = true → ∀ H', Same H H' → A (val i) H') → (keep i = false → ∀ H', Same H H' → B H') →
      tc (some (item i) :: rest) H fun b H3 => if b = true then te (some (item i) :: rest) H3 A else B H3)
    (fin : ∀ acc H, H1 acc = none → Same H1 H → H acc = some (.lst (((List.range n).filter keep).map val)) → Q (.ref acc) H) : rLC (gName 0) tc te (none :: rest) Q J H1 := by
  have hlen : ∀ i, i < n → (((List.range i).filter keep).map val).length < sizeLine := fun i hi => by
    have := List.length_filter_le keep (List.range i)
    rw [List.length_range] at this
    rw [List.length_map]; omega
  refine rLC_by ok (fun i => ((List.range i).filter keep).map val) (fun _ τ => ∃ y, τ = y :: rest) rfl ⟨_, rfl⟩ ?_ fin
  rintro i τ H acc hi ⟨y, rfl⟩ hacc hS hF
  show tc (some (item i) :: rest) H _
  refine step i H _ _ hi hS (fun hk H' hS' => ?_) fun hk H' hS' => ?_
  · refine lc_put hacc (hS' _ _ hF) (hS.trans hS') (hlen i hi) ?_ ⟨_, rfl⟩
    simp [List.range_succ, List.filter_append, List.map_append, hk]
  · refine ⟨⟨_, rfl⟩, hS.trans hS', ?_⟩
    rw [hS' _ _ hF]
    simp [List.range_succ, List.filter_append, List.map_append, hk]
theorem lcR {j : Int} {tc : TT} {te : TE} {rest : St} {Q : VK} {H1 : Hp} (n : Nat) (keep : Nat → Bool) (val : Nat → Int) (e : j = (n : Int)) (hn : n ≤ 1000000)
    (step : ∀ i H (A : V → Hp → Prop) (B : Hp → Prop), i < n → Same H1 H → (keep i = true → ∀ H', Same H H' → A (.int (val i)) H') → (keep i = false → ∀ H', Same H H' → B H') →
      tc (some (.int (i : Int)) :: rest) H fun b H3 => if b = true then te (some (.int (i : Int)) :: rest) H3 A else B H3)
    (fin : ∀ acc H, H1 acc = none → Same H1 H → H acc = some (.lst ((((List.range n).filter keep).map val).map V.int)) → Q (.ref acc) H) :
    ∃ k : Int, [V.int j] = [.int k] ∧ -(2 ^ 62) ≤ k ∧ k < 2 ^ 62 ∧ rLC (gName 0) tc te (none :: rest) Q (Itr 0 k.toNat) H1 := by
  subst e
  refine ⟨_, rfl, by omega, by omega, ?_⟩
  rw [Int.toNat_natCast]
  refine lc1 itok_range keep (fun i => .int (val i)) (Nat.lt_of_le_of_lt hn (by decide)) (fun i H A B hi hS hA hB => ?_) fun acc H h1 h2 h3 => fin acc H h1 h2 (by rw [h3, List.map_map]; rfl)
  rw [Int.zero_add]
  exact step i H A B hi hS hA hB
theorem fil_all (n : Nat) : (List.range n).filter (fun _ => true) = List.range n := by simp
end L2
namespace L2
open PySem PySem.Spec PyProof.Rows
theorem Fun.gq {P : Program} {w : World} {K : PySem.W.Frag} {mg : Str → Option Value} {base : Heap} {k : Nat} {x : Str} {N ps G : List Str} {sp : Sp} {st : Stmt} {f : Addr} {fd : FuncData} (F : Fun K x x st f fd) (S : DS (defScope st) N ps G)
    (len : ∀ vs H Q E, sp vs H Q E → vs.length = ps.length)
    (hbody : ∀ (X : Cx), Sc X N N G → X.prog = P → X.w = w → X.K = K → X.mg = mg → X.base = base → X.calm = true → X.env.scope = defScope st → X.xe = (fun _ _ => False) → Room k X.A → X.A.units + 64 < cLine →
      ∀ (H : Hp) (vs : List V) (Q : VK) (E : XK), sp vs H Q E → ∃ t, QSs X (defBody st) t ∧ t { nx := fun _ H' => Q .non H', rt := Q } (L2.start N vs) H) : FnOk P w K mg base CX0 (k + 1) f fd ps sp :=
  F.ok S.fs len fun cdv A outer s H vs Q E hr h => by
    obtain ⟨t, z, y⟩ := hbody _ S.cx rfl rfl rfl rfl rfl rfl rfl rfl hr hr.units H vs Q E h
    exact ⟨t, z.h, y⟩
end L2
namespace L2
open PySem PySem.Spec PyProof.Rows
theorem cut_take {xs : List V} {k : Nat} (h : k ≤ xs.length) : cutV xs none (some (k : Int)) = xs.take k := by
  unfold cutV
  rw [HT.sIx_none, HT.sIx_nat, List.drop_zero, Nat.sub_zero, Nat.min_eq_left h]
theorem cut_drop {xs : List V} {k : Nat} (h : k ≤ xs.length) : cutV xs (some (k : Int)) none = xs.drop k := by
  unfold cutV
  rw [HT.sIx_none, HT.sIx_nat, Nat.min_eq_left h, List.take_of_length_le]
  rw [List.length_drop]; exact Nat.le_refl _
theorem cut_dropM {xs : List V} {k : Nat} : cutV xs (some (k : Int)) none = xs.drop k := by
  by_cases h : k ≤ xs.length
  · exact cut_drop h
  · unfold cutV
    rw [HT.sIx_none, HT.sIx_nat, Nat.min_eq_right (by omega), List.drop_eq_nil_of_le (Nat.le_refl _), List.drop_eq_nil_of_le (by omega), List.take_nil]
theorem cut_takeM {xs : List V} {k : Nat} : cutV xs none (some (k : Int)) = xs.take k := by
  by_cases h : k ≤ xs.length
  · exact cut_take h
  · unfold cutV
    rw [HT.sIx_none, HT.sIx_nat, List.drop_zero, Nat.sub_zero, Nat.min_eq_right (by omega), List.take_of_length_le (Nat.le_refl _), List.take_of_length_le (by omega)]
section
variable {K : PySem.W.Frag} {H : Hp} {Q : VK} {a : Addr} {ns : List Int} {i : Int}
theorem to_catL {b : Addr} {ms : List Int} (h : SqL K H a (ns.map V.int)) (h' : SqL K H b (ms.map V.int)) (hz : ns.length + ms.length ≤ sizeLine) (q : ∀ p, H p = none → Q (.ref p) (upd H p (.lst ((ns ++ ms).map V.int)))) : rCatL K (.ref a) (.ref b) H Q :=
  ⟨a, b, _, _, rfl, rfl, h, h', by rw [List.length_map, List.length_map]; exact hz, fun p hp => by rw [← List.map_append]; exact q p hp⟩
end
theorem small8 {n : Nat} (h : n ≤ 100) : n ≤ sizeLine := Nat.le_trans h (by decide)
theorem to_ixT {K : PySem.W.Frag} {H : Hp} {Q : VK} {p : Addr} {xs : List V} {i : Int} {v : V} (h : SqT K H p xs) (e : atI xs i = some v) (q : Q v H) : rIxT K (.ref p) (.int i) H Q := ⟨p, _, i, _, rfl, rfl, h, e, q⟩
end L2
namespace L2
open PySem PySem.Spec PyProof.Rows KM
noncomputable def spLaw (K : PySem.W.Frag) : Sp := fun vs H Q _ => ∃ (a : Addr) (ns : List Int), vs = [.ref a] ∧ SqL K H a (ns.map V.int) ∧ ns.length ≤ 63 ∧ ∀ H', Q (.bl true) H'
noncomputable def spAt (K : PySem.W.Frag) : Sp := fun vs H Q _ => ∃ (a : Addr) (ns : List Int) (k : Nat), vs = [.ref a, .int k] ∧ SqL K H a (ns.map V.int) ∧ ∀ r : Int, Q (.int r) H
noncomputable def putAt (hs : List Int) (i : Nat) (o : Int) : List Int := hs.take i ++ [o] ++ hs.drop (i + 1)
end L2
namespace KM
end KM
namespace L2
open PySem PySem.Spec PyProof.Rows KM
theorem small1000' {n : Nat} (h : n ≤ 1000) : n ≤ sizeLine := Nat.le_of_lt (small1000 h)
section
variable {K : PySem.W.Frag} {H H' : Hp}
end
theorem ixN_nat {n k : Nat} (h : k < n) : ixN n (k : Int) = some k := by
  unfold ixN
  rw [if_pos (by omega), if_pos (by omega), Int.toNat_natCast]
end L2
namespace KM
end KM
namespace L2
open PySem PySem.Spec PyProof.Rows KM
theorem bAnd (m n : Nat) : Builtin.bitAnd (m : Int) (n : Int) = ((m &&& n : Nat) : Int) := by
  have h1 : decide (0 ≤ (m : Int)) = true := decide_eq_true (by omega)
  have h2 : decide (0 ≤ (n : Int)) = true := decide_eq_true (by omega)
  unfold Builtin.bitAnd
  rw [h1, h2]
  simp only [Int.toNat_natCast]
section
variable {X : Cx}
noncomputable def rListRange : List V → Hp → VK → Prop := fun xs H Q => ∃ (p : Addr) (n : Nat), xs = [.ref p] ∧ H p = some (.rng 0 n) ∧ n ≤ 1000000 ∧ ∀ l, H l = none → Q (.ref l) (upd H l (.lst (((List.range n).map fun i => ((i : Nat) : Int)).map V.int)))
noncomputable def rRange1 : List V → Hp → VK → Prop := fun xs H Q => ∃ n : Nat, xs = [.int n] ∧ n ≤ 1000000 ∧ ∀ l, H l = none → Q (.ref l) (upd H l (.rng 0 n))
theorem call_range1K : CallR X (.type "range") rRange1 := by
  intro pins s σ H xs us Q I r h
  obtain ⟨n, rfl, hn, q⟩ := h
  obtain ⟨u, rfl, ru⟩ := vals1 r
  obtain ⟨t, rfl⟩ := ru
  refine call_range_1 ?_
  exact ⟨.ref _, _, I.laid (fun b o e => Heap.get?_push_of_some _ e) (Nat.le_refl _) (show ObjOk X.prog X.w _ _ _ (.rng 0 n) from ⟨_, _, _, Heap.get?_push_size _ rfl⟩), rfl, q _ I.fresh⟩
theorem vals_items {n : Nat} {acc : Array Value} (h : ItemsOf (fun i v => ∃ t, v = Value.int ((0 : Int) + i * 1) t) acc n) : Vals (((List.range n).map fun i => ((i : Nat) : Int)).map V.int) acc.toList := by
  obtain ⟨h1, h2⟩ := h
  have key : ∀ (l : List Value) (k : Nat), (∀ i v, l[i]? = some v → ∃ t, v = Value.int (((k + i : Nat) : Int)) t) → Vals ((List.range' k l.length).map fun i => V.int ((i : Nat) : Int)) l := by
    intro l
    induction l with
    | nil => intro k _; exact .nil
    | cons a r ih =>
      intro k h
      rw [List.length_cons, List.range'_succ, List.map_cons]
      refine .cons ?_ (ih (k + 1) fun i v e => ?_)
      · obtain ⟨t, e⟩ := h 0 a rfl
        exact ⟨t, by rw [e, Nat.add_zero]⟩
      · obtain ⟨t, e⟩ := h (i + 1) v (by simpa using e)
        exact ⟨t, by rw [e, show k + (i + 1) = k + 1 + i by omega]⟩
  have z := key acc.toList 0 fun i v e => by
    obtain ⟨t, q⟩ := h2 i v (by rw [← Array.getElem?_toList]; exact e)
    exact ⟨t, by rw [q]; congr 1; omega⟩
  rw [List.map_map]
  rw [Array.length_toList, h1] at z
  rw [List.range_eq_range']
  exact z
theorem call_list_rangeK (hc : X.calm = true) : CallR X (.type "list") rListRange := by
  intro pins s σ H xs us Q I r h
  obtain ⟨p, n, rfl, hp, hn, q⟩ := h
  obtain ⟨u, rfl, ru⟩ := vals1 r
  cases ru
  obtain ⟨t1, t2, t3, e0⟩ := I.hok p _ hp
  refine PySem.call_list_range (n := n) (I.ok.hd hc) e0 (small_one (by omega) (by omega) (by omega) (by omega)) (by rw [rangeSize_one]; split <;> omega) (by omega) fun h' tk acc' c' kp e hacc => ?_
  refine ⟨.ref _, _, I.laid kp (Nat.le_refl _) (show ObjOk X.prog X.w _ h' _ (.lst _) from ⟨?_, acc'.toList, c', vals_items hacc, by simpa using e⟩), rfl, q _ I.fresh⟩
  rw [List.length_map, List.length_map, List.length_range]
  exact Nat.le_trans hn (by decide)
end
end L2
namespace L2
open PySem PySem.Spec PyProof.Rows KM
noncomputable abbrev set0 (led : Bool) : Obj := { cls := .type "set", dict := none, data := .set #[] 0 (.fresh 0 0 led) }
section
variable {prog : Program} {w : World} {A : Around} {E : Value → Shared → Prop} {s : Shared}
end
end L2
namespace L2
open PySem PySem.Spec PyProof.Rows KM
section
variable {X : Cx}
end
end L2
namespace L2
open PySem PySem.Spec PyProof.Rows KM
section
variable {prog : Program} {w : World} {A : Around} {E : Value → Shared → Prop} {s : Shared}
end
end L2
namespace L2
open PySem PySem.Spec PyProof.Rows KM
theorem Inv.turnedNew {X : Cx} {pins : List (Addr × Obj)} {σ : St} {H : Hp} {s : Shared} {h' : Heap} {t' : Nat} {ch : List Addr} {a : Addr} {o : HO} (I : Inv X pins σ H s) (k : ∀ b u, b ∉ ch → s.heap.get? b = some u → h'.get? b = some u) (hf : ∀ b ∈ ch, FpOk X pins H b)
    (ha : s.heap.objs.size ≤ a) (new : ObjOk X.prog X.w (upd H a o) h' a o) : Inv X pins σ (upd H a o) { s with heap := h', toks := t' } := by
  have nit : ∀ b u, H b = some u → b ∉ ch := fun b u e z => by rw [(hf b z).1] at e; cases e
  have hn : H a = none := I.hok.fresh ha
  have old : ∀ b u, H b = some u → upd H a o b = some u := fun b u e => by rw [upd_ne (ne_of_none e hn)]; exact e
  refine I.step (g' := s.gens) (d' := s.drawn) (ch := ch) (fun b hb => ⟨(hf b hb).2.2.2.1, (hf b hb).2.1, (hf b hb).2.2.2.2.1, (hf b hb).2.2.2.2.2⟩) (fun b u _ _ hc e _ => k b u hc e) (fun b u _ _ hc e _ => ⟨u.slots, k b u hc e⟩) (fun b u _ e n => ?_)
    (fun b u hc e => ⟨u, k b u hc e⟩) (fun b xs e => old b _ e) (fun b v u e => old b _ e) (fun b ps e => ⟨#[], by rw [old b _ e]; simp⟩) (fun m hm => ?_) (fun b u e => ?_) I.bare
  · rw [upd_ne (Nat.ne_of_lt (Nat.lt_of_lt_of_le (Heap.lt_size e) ha))]; exact n
  · obtain ⟨v, es, ep, ho, r⟩ := hm
    exact ⟨v, es, ep, k _ v (fun z => (hf _ z).2.1 rfl) ho, r⟩
  · by_cases hb : b = a
    · subst hb
      rw [upd_same] at e
      cases e
      exact new
    · rw [upd_ne hb] at e
      refine (I.hok b u e).stay (fun c v hc q => k c v ?_ q) (fun c q => old c _ q) fun c xs q => old c _ q
      rcases hc with z | z
      · rw [z]; exact nit b u e
      · exact nit c _ z
section
variable {X : Cx} {N W G : List Str} {K : PySem.W.Frag} {e : Expr} {t : TA} {p pos tpos : Pos} {elts : List Expr} {x1 : Nat}
end
end L2
namespace L2
open PySem PySem.Spec PyProof.Rows KM
section
variable {X : Cx} {H : Hp} {Q : VK}
end
theorem q_p2 {k : Nat} : (1 : Int) * 2 ^ ((k : Nat) : Int).toNat = ((2 ^ k : Nat) : Int) := by rw [Int.toNat_natCast, Int.one_mul, Int.natCast_pow]; rfl
theorem cpow1 {k : Nat} (h : k ≤ 1000) : CPow 1 (k : Int) := ⟨by omega, by omega, by decide⟩
theorem q_b1 {m k : Nat} : decide (((m / 2 ^ k : Nat) : Int) % 2 = 1) = m.testBit k := by
  rw [Nat.testBit_eq_decide_div_mod_eq]
  congr 1
  apply propext
  omega
noncomputable def asI (ws : List Nat) : List Int := ws.map fun m => ((m : Nat) : Int)
theorem asI_len (ws : List Nat) : (asI ws).length = ws.length := List.length_map _
theorem asI_get (ws : List Nat) (i : Nat) : (asI ws).getD i 0 = ((ws.getD i 0 : Nat) : Int) := by
  unfold asI
  rw [List.getD_eq_getElem?_getD, List.getElem?_map, List.getD_eq_getElem?_getD]
  cases ws[i]? <;> rfl
end L2
namespace KM
theorem and_sub_bit (m n j : Nat) : (m - (m &&& n)).testBit j = (m.testBit j && !n.testBit j) := by
  have h : m ^^^ (m &&& n) = m - (m &&& n) := by
    have e1 : ∀ a b : Nat, (a ^^^ b) + (a &&& b) = a ||| b := by
      intro a
      induction a using Nat.strongRecOn with
      | _ m ih =>
        intro n
        by_cases h0 : m = 0
        · subst h0; simp
        have ih' := ih (m / 2) (by omega) (n / 2)
        rw [← Nat.and_div_two, ← Nat.or_div_two, ← Nat.xor_div_two] at ih'
        have a := Nat.and_mod_two_pow (a := m) (b := n) (n := 1)
        have b := Nat.or_mod_two_pow (a := m) (b := n) (n := 1)
        have c := Nat.xor_mod_two_pow (a := m) (b := n) (n := 1)
        have key : (m % 2 ^ 1 ^^^ n % 2 ^ 1) + (m % 2 ^ 1 &&& n % 2 ^ 1) = (m % 2 ^ 1 ||| n % 2 ^ 1) := by
          have hm : m % 2 ^ 1 = 0 ∨ m % 2 ^ 1 = 1 := by omega
          have hn : n % 2 ^ 1 = 0 ∨ n % 2 ^ 1 = 1 := by omega
          rcases hm with hm | hm <;> rcases hn with hn | hn <;> rw [hm, hn] <;> decide
        rw [← a, ← b, ← c] at key
        omega
    have e2 := e1 m (m &&& n)
    have e3 : m &&& (m &&& n) = m &&& n := by rw [← Nat.and_assoc, Nat.and_self]
    have e4 : m ||| (m &&& n) = m := by
      apply Nat.eq_of_testBit_eq
      intro j
      rw [Nat.testBit_or, Nat.testBit_and]
      cases m.testBit j <;> rfl
    rw [e3, e4] at e2
    omega
  rw [← h, Nat.testBit_xor, Nat.testBit_and]
  cases m.testBit j <;> cases n.testBit j <;> rfl
theorem sub_zero {m a : Nat} (h : ∀ j, m.testBit j = true → a.testBit j = true) : m - (m &&& a) = 0 := by
  apply Nat.eq_of_testBit_eq
  intro j
  rw [and_sub_bit, Nat.zero_testBit]
  cases e : m.testBit j with
  | false => rfl
  | true => rw [h j e]; rfl
end KM
namespace L2
open PySem PySem.Spec PyProof.Rows KM
theorem seqIx {n k : Nat} (h : k < n) : seqIndex? (k : Int) n = some k := (ixN_seq (ixN_nat h)).1
theorem q_dv {m j : Nat} : ((m : Nat) : Int) / ((2 ^ j : Nat) : Int) = ((m / 2 ^ j : Nat) : Int) := (Int.natCast_ediv _ _).symm
end L2
namespace L2
open PySem PySem.Spec PyProof.Rows KM
section
variable {prog : Program} {w : World} {A : Around} {E : Value → Shared → Prop} {s : Shared}
end
end L2
namespace L2
open PySem PySem.Spec PyProof.Rows KM
section
variable {prog : Program} {w : World} {A : Around} {E : Value → Shared → Prop} {s : Shared}
end
end L2
namespace L2
open PySem PySem.Spec PyProof.Rows KM
section
variable {X : Cx} {N W G : List Str} {K : PySem.W.Frag} {e f : Expr} {t : TA} {p pos tpos : Pos} {elts : List Expr} {x1 : Nat}
end
end L2
namespace L2
open PySem PySem.Spec PyProof.Rows KM
noncomputable def rAll (K : PySem.W.Frag) : List V → Hp → VK → Prop := fun xs H Q => ∃ (p : Addr) (bs : List Bool), xs = [.ref p] ∧ SqL K H p (bs.map V.bl) ∧ Q (.bl (bs.all id)) H
theorem vals_bl : ∀ {bs : List Bool} {its : List Value}, Vals (bs.map V.bl) its → its = bs.map Value.bool
  | [], _, .nil => rfl
  | b :: r, _, .cons h t => by rw [vals_bl t, show _ = Value.bool b from h]; rfl
section
variable {X : Cx}
theorem call_allK {K : PySem.W.Frag} (hc : X.calm = true) (hK : X.K = K) : CallR X (.builtin "all") (rAll K) := by
  subst hK
  intro pins s σ H xs us Q I r h
  obtain ⟨p, bs, rfl, hq, q⟩ := h
  obtain ⟨u, rfl, rx⟩ := vals1 r
  cases rx
  obtain ⟨its, r', pl, hz⟩ := I.list hq
  have ei := vals_bl r'
  have hp : p < s.heap.objs.size := by obtain ⟨o, e, _⟩ := pl.isList; exact Heap.lt_size e
  refine PySem.call_all_walk (wpAny_pyIter_list pl.isList ?_)
  refine ⟨s.heap.objs.size, _, _, _, _, _, fun i => bs.getD i false, rfl, Walks.list (by simpa using I.ok.hd hc) s.heap.objs.size p (Nat.ne_of_lt hp) its.toArray, ⟨⟨_, Heap.get?_push_size _ rfl, rfl, rfl⟩, pl.isList.push _⟩, ?_, fun h' tk hk => ?_⟩
  · intro i v s' Q' E' hv hQ
    have hv : its[i]? = some v := by simpa using hv
    rw [ei, List.getElem?_map] at hv
    cases e : bs[i]? with
    | none => rw [e] at hv; cases hv
    | some b =>
      rw [e] at hv
      cases hv
      have hQ : Q' (bs.getD i false) s' := hQ
      rw [List.getD_eq_getElem?_getD, e] at hQ
      exact wpAny_truthy_bool hQ
  · have hl : its.toArray.size = bs.length := by rw [List.size_toArray, ei, List.length_map]
    have ea : (List.range its.toArray.size).all (fun i => bs.getD i false) = bs.all id := by
      rw [hl]
      apply Bool.eq_iff_iff.mpr
      simp only [List.all_eq_true, List.mem_range, id_eq]
      constructor
      · intro h b hb
        obtain ⟨k, hk, e⟩ := List.getElem_of_mem hb
        have := h k hk
        rw [List.getD_eq_getElem?_getD, List.getElem?_eq_getElem hk] at this
        rw [← e]; exact this
      · intro h k hk
        rw [List.getD_eq_getElem?_getD, List.getElem?_eq_getElem hk]
        exact h _ (List.getElem_mem hk)
    rw [ea]
    refine ⟨.bl _, H, I.kept fun b o e => hk b o ?_ (Heap.get?_push_of_some _ e), rfl, q⟩
    have := Heap.lt_size e
    intro z
    have : b = s.heap.objs.size := by simpa using z
    subst this
    exact Nat.lt_irrefl _ (Heap.lt_size e)
end
end L2
namespace KM
end KM
namespace L2
open PySem PySem.Spec PyProof.Rows KM
theorem to_ixL' {K : PySem.W.Frag} {H : Hp} {Q : VK} {p : Addr} {xs : List V} {i : Int} {v : V} (h : SqL K H p xs) (e : atI xs i = some v) (q : Q v H) : rIxL K (.ref p) (.int i) H Q := ⟨p, _, i, _, rfl, rfl, h, e, q⟩
theorem eqv_nil {ds : List PyData} : PyData.eqv (.list ds) (.list []) = decide (ds = []) := by
  cases ds with
  | nil => rfl
  | cons a r => simp [PyData.eqv, PyData.eqvAll]
end L2
namespace KM
end KM
namespace L2
open PySem PySem.Spec PyProof.Rows KM
end L2
namespace KM
end KM
namespace L2
open PySem PySem.Spec PyProof.Rows KM
section
variable {X : Cx} {N W G : List Str} {K : PySem.W.Frag} {e tg : Expr} {t : TA} {p pos : Pos}
end
end L2
namespace L2
open PySem PySem.Spec PyProof.Rows KM
end L2
namespace L2
open PySem PySem.Spec PyProof.Rows KM
theorem atI_at {us : List V} {i : Nat} {v : V} (h : us[i]? = some v) : atI us (i : Int) = some v := by
  have hl := (List.getElem?_eq_some_iff.mp h).1
  have := atI_getD (xs := us) (i := (i : Int)) (k := i) rfl .non hl
  rw [this, List.getD_eq_getElem?_getD, h]; rfl
end L2
namespace L2
open PySem PySem.Spec PyProof.Rows KM
noncomputable def rMaxS (K : PySem.W.Frag) : List V → Hp → VK → Prop := fun xs H Q => ∃ (p : Addr) (ns : List Int), xs = [.ref p] ∧ (SqL K H p (ns.map V.int) ∨ SqT K H p (ns.map V.int)) ∧ ns ≠ [] ∧ ∀ m ∈ ns, (∀ n ∈ ns, n ≤ m) → Q (.int m) H
theorem vals_int : ∀ {ns : List Int} {its : List Value} {i : Nat} {v : Value}, Vals (ns.map V.int) its → its[i]? = some v → ∃ t, v = .int (ns.getD i 0) t ∧ i < ns.length
  | [], _, i, v, .nil, h => by simp at h
  | n :: r, _, 0, v, .cons h _, e => by
    obtain ⟨t, h⟩ := h
    simp at e
    exact ⟨t, by rw [← e, h]; rfl, by simp⟩
  | n :: r, _, i + 1, v, .cons _ t, e => by
    obtain ⟨t', h1, h2⟩ := vals_int t (i := i) (v := v) (by simpa using e)
    exact ⟨t', by rw [h1]; simp, by simp; exact h2⟩
theorem vals_rev : ∀ {xs : List V} {its : List Value}, Vals xs its → Vals xs.reverse its.reverse
  | [], _, .nil => .nil
  | _ :: _, _, .cons h t => by rw [List.reverse_cons, List.reverse_cons]; exact (vals_rev t).append (.cons h .nil)
section
variable {X : Cx} {K : PySem.W.Frag}
theorem ints_walk {pins : List (Addr × Obj)} {σ : St} {H : Hp} {s : Shared} {E : Value → Shared → Prop} {p : Addr} {ns : List Int} (hc : X.calm = true) (I : Inv X pins σ H s) (hq : SqL X.K H p (ns.map V.int) ∨ SqT X.K H p (ns.map V.int)) {R : Value → Shared → Prop}
    (h : ∀ (J : Addr) (fp wr : List Addr) (Pv : Nat → Value → Prop) (St : Nat → Heap → Prop) (s2 : Shared), Walks X.prog X.w X.A.in1 J fp wr ns.length Pv St → St 0 s2.heap → (∀ b ∈ fp, b < s2.heap.objs.size) → (∀ i v, Pv i v → ∃ t, v = .int (ns.getD i 0) t) →
      (∀ h' tk, (∀ b o, b ∉ wr → s2.heap.get? b = some o → h'.get? b = some o) → Inv X pins σ H { s2 with heap := h', toks := tk }) → R (.ref J) s2) : wpAny (model X.prog X.w) X.A.in1 (pyIter (.ref p)) R E s := by
  have kept : ∀ {o : Obj} {h' : Heap} {tk : Nat}, (∀ b u, b ∉ [s.heap.objs.size] → (s.heap.push o).get? b = some u → h'.get? b = some u) → Inv X pins σ H { s with heap := h', toks := tk } := fun hk => I.kept fun b u e => hk b u (fun z => by
    have : b = s.heap.objs.size := by simpa using z
    subst this
    exact Nat.lt_irrefl _ (Heap.lt_size e)) (Heap.get?_push_of_some _ e)
  rcases hq with hq | hq
  · obtain ⟨its, r', pl, hz⟩ := I.list hq
    have hl : its.toArray.size = ns.length := by rw [List.size_toArray, ← r'.length, List.length_map]
    have hp : p < s.heap.objs.size := by obtain ⟨o, e, _⟩ := pl.isList; exact Heap.lt_size e
    refine wpAny_pyIter_list pl.isList ?_
    have W := Walks.list (prog := X.prog) (w := X.w) (A := X.A.in1) (by simpa using I.ok.hd hc) s.heap.objs.size p (Nat.ne_of_lt hp) its.toArray
    rw [hl] at W
    refine h _ _ _ _ _ _ W ⟨⟨_, Heap.get?_push_size _ rfl, rfl, rfl⟩, pl.isList.push _⟩ (fun b hb => ?_) (fun i v hv => ?_) fun h' tk hk => kept hk
    · show b < (s.heap.push _).objs.size
      rw [Heap.size_push]
      rcases List.mem_cons.mp hb with rfl | hb
      · exact Nat.lt_succ_self _
      · have : b = p := by simpa using hb
        rw [this]; exact Nat.lt_succ_of_lt hp
    · obtain ⟨t, e, _⟩ := vals_int r' (by simpa using hv)
      exact ⟨t, e⟩
  · obtain ⟨its, r', pl, hz⟩ := I.tuple hq
    have pt : s.heap.IsTuple p its.toArray := pl
    have hl : its.toArray.size = ns.length := by rw [List.size_toArray, ← r'.length, List.length_map]
    have hp : p < s.heap.objs.size := by obtain ⟨o, e, _⟩ := pt; exact Heap.lt_size e
    refine wpAny_pyIter_tuple pt ?_
    have W := Walks.tuple (prog := X.prog) (w := X.w) (A := X.A.in1) (by simpa using I.ok.hd hc) s.heap.objs.size p (Nat.ne_of_lt hp) its.toArray
    rw [hl] at W
    refine h _ _ _ _ _ _ W ⟨⟨_, Heap.get?_push_size _ rfl, rfl, rfl⟩, pt.at fun o e => Heap.get?_push_of_some _ e⟩ (fun b hb => ?_) (fun i v hv => ?_) fun h' tk hk => kept hk
    · show b < (s.heap.push _).objs.size
      rw [Heap.size_push]
      rcases List.mem_cons.mp hb with rfl | hb
      · exact Nat.lt_succ_self _
      · have : b = p := by simpa using hb
        rw [this]; exact Nat.lt_succ_of_lt hp
    · obtain ⟨t, e, _⟩ := vals_int r' (by simpa using hv)
      exact ⟨t, e⟩
theorem call_maxSK (hc : X.calm = true) (hK : X.K = K) : CallR X (.builtin "max") (rMaxS K) := by
  subst hK
  intro pins s σ H xs us Q I r h
  obtain ⟨p, ns, rfl, hq, hne, q⟩ := h
  obtain ⟨u, rfl, rx⟩ := vals1 r
  cases rx
  have hn : 0 < ns.length := List.length_pos_iff.mpr hne
  refine PySem.call_max_walk (ints_walk hc I hq fun J fp wr Pv St s2 W st hfp hval hinv => ?_)
  refine ⟨J, fp, wr, _, Pv, St, _, rfl, W, st, hfp, hn, CmpOf.ints_gt (fun i => ns.getD i 0) hval, fun v h' tk hP hk => ?_⟩
  obtain ⟨t, rfl⟩ := hval _ _ hP
  obtain ⟨b1, b2⟩ := argBest_gt (fun i => ns.getD i 0) (ns.length - 1)
  refine ⟨.int _, H, hinv h' tk hk, ⟨t, rfl⟩, q _ (KM.getD_mem (by omega)) fun n hn' => ?_⟩
  obtain ⟨k, hk', e⟩ := List.getElem_of_mem hn'
  have := b2 k (by omega)
  rw [List.getD_eq_getElem?_getD, List.getElem?_eq_getElem hk'] at this
  rw [← e]; exact this
noncomputable def rRvL (K : PySem.W.Frag) : V → Hp → VK → Prop := fun x H Q => ∃ a xs, x = .ref a ∧ SqL K H a xs ∧ ∀ p, H p = none → Q (.ref p) (upd H p (.lst xs.reverse))
noncomputable def tRv (K : PySem.W.Frag) (te ts : TE) : TE := fun σ H Q => te σ H fun x H1 => ts σ H1 fun y H2 => y = .int (-1) ∧ rRvL K x H2 Q
variable {e st : Expr} {te ts : TE} {pos p2 : Pos}
theorem pe_rvl {ops : Value → Value → List Value} (he : PE X e te) (hs : PE X st ts) (hsub : ∀ o i, subscripted (.Slice none none (some st) p2) false o i = operate (ops o i) (getItem o i)) : PE X (.Subscript e (.Slice none none (some st) p2) pos) (tRv X.K te ts) := by
  intro pins s σ H Q I h
  refine Subscript_ (thn (he pins s σ H _ I h) fun v s1 ⟨x, H1, I1, r1, q1⟩ => ?_)
  refine wpAny_Slice ?_
  rw [evalPart_none]
  refine wpAny_pure (wpAny_pure ?_)
  rw [evalPart_some]
  refine thn (hs pins s1 σ H1 _ I1 q1) fun vs s3 ⟨y, H3, I3, r3, q3⟩ => ?_
  obtain ⟨rfl, a, xs, rfl, hx, q⟩ := q3
  cases r1
  obtain ⟨t, rfl⟩ := r3
  have I4 : Inv X pins σ H3 { s3 with heap := s3.heap.push { cls := .type "slice", data := .fields #[.none, .none, .int (-1) t] } } := I3.kept (t' := s3.toks) fun b ob q => Heap.get?_push_of_some _ q
  obtain ⟨its, r, ht, hz⟩ := I4.list hx
  have hlen := r.length
  show wpAny (model X.prog X.w) X.A (subscriptTail e (.Slice none none (some st) p2) (.ref a) (.ref s3.heap.objs.size)) (EP X pins σ Q) X.xe { s3 with heap := s3.heap.push { cls := .type "slice", data := .fields #[.none, .none, .int (-1) t] } }
  refine tail_any (T := "list") (ops := ops (.ref a) (.ref s3.heap.objs.size)) ht.isList.typeIs slot_list_getitem.lookup ?_ (hsub _ _)
  refine wpAny_getItem_list_slice ht.isList (Heap.IsSliceOf.new ..) .none .none (.int (-1) t) (by simp) ?_ (by rw [List.size_toArray] <;> omega)
  rw [PySem.W.krv_pick]
  refine ⟨.ref _, _, I4.laid (t' := s3.toks) (o := .lst xs.reverse) (fun b ob q => Heap.get?_push_of_some _ q) (Nat.le_refl _) ?_, rfl, q _ (I4.hok.fresh (Nat.le_refl _))⟩
  exact ⟨by rw [List.length_reverse]; exact hz, its.reverse, 0, vals_rev r, Heap.get?_push_size _ rfl⟩
theorem krvl {ops : Value → Value → List Value} (he : QE X e te) (hs : QE X st ts) (h : X.K = K) (hsub : ∀ o i, subscripted (.Slice none none (some st) p2) false o i = operate (ops o i) (getItem o i) := by intro _ _; with_unfolding_all rfl) : QE X (.Subscript e (.Slice none none (some st) p2) pos) (tRv K te ts) := ⟨by subst h; exact pe_rvl he.h hs.h hsub⟩
theorem q_rv {σ : St} {H : Hp} {Q : VK} : tRv K te ts σ H Q = te σ H fun x H1 => ts σ H1 fun y H2 => y = .int (-1) ∧ rRvL K x H2 Q := rfl
end
end L2
namespace KM
end KM
namespace L2
open PySem PySem.Spec PyProof.Rows KM
section
variable {prog : Program} {w : World} {A : Around} {E : Value → Shared → Prop} {s : Shared}
end
section
variable {X : Cx} {N W G : List Str} {e a b tg : Expr} {t : TA} {p pos : Pos}
end
end L2
namespace L2
open PySem PySem.Spec PyProof.Rows KM
section
variable {ex : Addr} {H H' : Hp}
end
end L2
namespace L2
open PySem PySem.Spec PyProof.Rows KM
section
variable {K : PySem.W.Frag} {H H' : Hp}
end
noncomputable def bnd : Nat → Int
  | 0 => 1
  | n + 1 => bnd n * (bnd n + 1)
theorem bnd_pos : ∀ n, 1 ≤ bnd n
  | 0 => by decide
  | n + 1 => by
    have h := bnd_pos n
    have := Int.mul_le_mul h (show (1 : Int) ≤ bnd n + 1 by omega) (by decide) (by omega)
    rw [bnd]; omega
theorem bnd_step (n : Nat) : 2 * bnd n ≤ bnd (n + 1) ∧ bnd n + 1 ≤ bnd (n + 1) := by
  have h := bnd_pos n
  rw [bnd]
  have h1 := Int.mul_le_mul_of_nonneg_right (show (1 : Int) ≤ bnd n by omega) (show 0 ≤ bnd n + 1 by omega)
  have h2 := Int.mul_le_mul_of_nonneg_left (show (2 : Int) ≤ bnd n + 1 by omega) (show 0 ≤ bnd n by omega)
  omega
theorem bnd_mono {m n : Nat} (h : m ≤ n) : bnd m ≤ bnd n := by
  induction h with
  | refl => exact Int.le_refl _
  | step _ ih => exact Int.le_trans ih (Int.le_trans (by omega) (bnd_step _).2)
structure SpOk (cs : List Int) : Prop where
  lo : ∀ c ∈ cs, 1 ≤ c
  hi : ∀ c ∈ cs, c ≤ bnd (cs.length - 1)
  ne : 1 ≤ cs.length
theorem SpOk.split {cs : List Int} (h : SpOk cs) {x : Nat} (hx : x < cs.length) {a b : Int} (ha : 1 ≤ a ∧ a ≤ bnd cs.length) (hb : 1 ≤ b ∧ b ≤ bnd cs.length) : SpOk (cs.eraseIdx x ++ [a, b]) ∧ (cs.eraseIdx x ++ [a, b]).length = cs.length + 1 := by
  have hl : (cs.eraseIdx x ++ [a, b]).length = cs.length + 1 := by
    rw [List.length_append, List.length_eraseIdx, if_pos hx]
    show cs.length - 1 + 2 = _
    omega
  have hm : bnd (cs.length - 1) ≤ bnd cs.length := bnd_mono (by omega)
  have key : ∀ c ∈ cs.eraseIdx x ++ [a, b], 1 ≤ c ∧ c ≤ bnd cs.length := fun c hc => by
    rcases List.mem_append.mp hc with z | z
    · have z := List.mem_of_mem_eraseIdx z
      exact ⟨h.lo c z, Int.le_trans (h.hi c z) hm⟩
    · simp only [List.mem_cons, List.not_mem_nil, or_false] at z
      rcases z with rfl | rfl
      · exact ha
      · exact hb
  exact ⟨⟨fun c hc => (key c hc).1, fun c hc => by rw [hl]; exact (key c hc).2, by omega⟩, hl⟩
section
variable {prog : Program} {w : World} {A : Around} {E : Value → Shared → Prop} {s : Shared}
end
end L2
namespace L2
open PySem PySem.Spec PyProof.Rows KM
section
variable {prog : Program} {w : World} {A : Around} {E : Value → Shared → Prop} {s : Shared}
end
end L2
namespace KM
end KM
namespace KM
end KM
namespace L2
open PySem PySem.Spec PyProof.Rows KM
section
variable {prog : Program} {w : World} {A : Around} {E : Value → Shared → Prop} {s : Shared}
end
section
variable {prog : Program} {w : World} {A : Around} {R : Result → Shared → Prop} {I S : Addr} {fp wr : List Addr} {n : Nat} {P : Nat → Value → Prop} {St : Nat → Heap → Prop} {B : Heap → Prop} {bt : Nat → Nat → Bool}
end
section
variable {K : PySem.W.Frag} {H H' : Hp}
end
end L2
namespace L2
open PySem PySem.Spec PyProof.Rows KM
section
variable {prog : Program} {w : World} {A : Around} {E : Value → Shared → Prop} {s : Shared}
end
end L2
namespace L2
open PySem PySem.Spec PyProof.Rows KM
section
variable {X : Cx} {K : PySem.W.Frag}
variable {o e : Expr} {es : List Expr} {to : TE} {t : TA} {name : Str} {apos cpos : Pos} {id : String} {r : V → List V → Hp → VK → Prop}
end
section
variable {K : PySem.W.Frag} {H H' : Hp}
end
end L2
namespace L2
open PySem PySem.Spec PyProof.Rows KM
end L2
namespace L2
open PySem PySem.Spec PyProof.Rows KM
section
variable {X : Cx} {o i value : Expr} {pos pos' : Pos} {td ty tv : TE}
theorem kdnew : QE X (.Dict [] [] pos) tDNewK := ⟨pe_dnewK⟩
theorem kdin (hu : X.A.units + 1 < cLine) (hi : QE X i ty) (ho : QE X o td) (hm : behindInMarks .In o = false) : QE X (.Compare i [.In] [o] pos) (tDIn ty td) := ⟨pe_cmp (pc_din hu hi.h ho.h) hm⟩
theorem sdput (hu : X.A.units + 1 < cLine) (hv : QE X value tv) (ho : QE X o td) (hi : QE X i ty) (hs : swapsWith value (some (.Subscript o i pos')) pos.line X.env = pure false := by rfl) : QS X (.Assign [.Subscript o i pos'] value pos) (sDPut td ty tv) := ⟨ps_dput hu ho.h hi.h hv.h hs⟩
end
section
variable {σ : St} {H : Hp} {Q : VK} {D : Ends} {td ty tv : TE}
theorem q_dnew : tDNewK σ H Q = ∀ p, H p = none → Q (.ref p) (upd H p (.dK [])) := rfl
theorem q_DIn : tDIn ty td σ H Q = ty σ H fun y H1 => td σ H1 fun x H2 => ∃ a o, x = .ref a ∧ DGet H2 a y o ∧ Q (.bl o.isSome) H2 := rfl
theorem q_DPut : sDPut td ty tv D σ H = tv σ H fun v H1 => td σ H1 fun x H2 => ty σ H2 fun y H3 => ∃ a H4, x = .ref a ∧ DPut H3 a y v H4 ∧ D.nx σ H4 := rfl
end
theorem u1 {X : Cx} (hu : X.A.units + 64 < cLine) : X.A.units + 1 < cLine := by omega
end L2
namespace L2
open PySem PySem.Spec PyProof.Rows KM
section
variable {prog : Program} {w : World} {A : Around} {E : Value → Shared → Prop} {s : Shared}
end
section
variable {X : Cx} {N W G : List Str} {K : PySem.W.Frag} {e f : Expr} {t : TA} {p pos tpos : Pos} {elts : List Expr} {x1 : Nat}
end
end L2
namespace L2
open PySem PySem.Spec PyProof.Rows KM
section
variable {K : PySem.W.Frag} {H H' : Hp}
end
end L2
namespace L2
open PySem PySem.Spec PyProof.Rows KM
end L2
namespace L2
open PySem PySem.Spec PyProof.Rows KM
end L2
namespace KM
end KM
namespace L2
open PySem PySem.Spec PyProof.Rows KM
section
variable {X : Cx} {N W G : List Str} {e a b tg : Expr} {t : TA} {p pos : Pos}
end
end L2
namespace KM
end KM
namespace L2
open PySem PySem.Spec PyProof.Rows KM
end L2
namespace KM
end KM
namespace L2
open PySem PySem.Spec PyProof.Rows KM
end L2
namespace L2
open PySem PySem.Spec PyProof.Rows KM
section
variable {prog : Program} {w : World} {A : Around} {E : Value → Shared → Prop} {s : Shared}
end
section
variable {X : Cx} {N W G : List Str} {K : PySem.W.Frag} {e : Expr} {t : TA} {p1 p2 pos pos2 : Pos}
end
end L2
namespace L2
open PySem PySem.Spec PyProof.Rows KM
theorem made_post {m : Made} {X : Cx} {pins : List (Addr × Obj)} {σ : St} {H : Hp} {Q : VK} {s : Shared} {z : Str} (I : Inv X pins σ H s) (hm : (∃ t, m = .val (.str z t)) ∨ m = .str z) (hz : z.length ≤ sizeLine) (q : Q (.str z) H) : m.post (EP X pins σ Q) s := by
  rcases hm with ⟨t, rfl⟩ | rfl
  · exact ⟨.str z, H, I, ⟨_, rfl⟩, q⟩
  · exact ⟨hz, .str z, H, I.tok _, ⟨_, rfl⟩, q⟩
noncomputable def rSlS : V → Option Int → Option Int → Hp → VK → Prop := fun x l u H Q => ∃ z, x = .str z ∧ (StrLaws.sliceText z l u).length ≤ sizeLine ∧ Q (.str (StrLaws.sliceText z l u)) H
section
variable {X : Cx}
theorem sl_str : SlR X rSlS := by
  intro pins s σ H x v vl vu lo hi sl Q I rx hs pl pu h
  obtain ⟨z, rfl, hz, q⟩ := h
  obtain ⟨t, rfl⟩ := rx
  refine ⟨"str", _, slot_str_getitem.lookup, typeIs_str s z t, ?_⟩
  have part : ∀ {w : Value} {o : Option Int}, IsPart w o → ∃ p : Option (Int × Tok), w = partValue p ∧ p.map (·.1) = o := fun {w o} h => by
    cases h with
    | none => exact ⟨none, rfl, rfl⟩
    | int => exact ⟨some (_, _), rfl, rfl⟩
  obtain ⟨l, rfl, hl⟩ := part pl
  obtain ⟨u, rfl, hu⟩ := part pu
  refine wpAny_getItem_str_slice (st := none) hs rfl ?_
  refine made_post I ?_ hz q
  have e : sliceMade z t l u none = if ((Builtin.Str.strSliceIndices lo hi 1 z.length).length == z.length) = true then Made.val (Value.str z t) else Made.str ⟨((Builtin.Str.strSliceIndices lo hi 1 z.length).filterMap (fun x => z.cps[x]?)).toArray⟩ := by
    unfold sliceMade slicePicked
    rw [hl, hu]
    rfl
  have e2 : StrLaws.sliceText z lo hi = if ((Builtin.Str.strSliceIndices lo hi 1 z.length).length == z.length) = true then z else ⟨((Builtin.Str.strSliceIndices lo hi 1 z.length).filterMap (fun x => z.cps[x]?)).toArray⟩ := by
    unfold StrLaws.sliceText
    rfl
  rw [e, e2]
  by_cases c : ((Builtin.Str.strSliceIndices lo hi 1 z.length).length == z.length) = true
  · rw [if_pos c, if_pos c]; exact .inl ⟨t, rfl⟩
  · rw [if_neg c, if_neg c]; exact .inr rfl
noncomputable def Itx (z : Str) : It := ⟨fun i _ => i < z.cps.size, fun i H x H' => H' = H ∧ ∃ c, z.cps[i]? = some c ∧ x = .str ⟨#[c]⟩, fun i _ => z.cps.size ≤ i⟩
noncomputable def iStr (te : TE) : TI := fun σ H R => te σ H fun x H1 => ∃ z, x = .str z ∧ R (Itx z) H1
end
theorem str_walks {P : Program} {w : World} {A : Around} (hA : A.handled = none) (I : Addr) (x : Str) (t : Tok) : Walks P w A I [I] [I] x.cps.size (SignAt x) fun i h => h.IsStrIter I (strIterType x) x t i := by
  unfold strIterType
  split
  · exact Walks.strAscii hA I x t
  · exact Walks.strWide hA I x t
theorem str_self {P : Program} {w : World} {A : Around} {E : Value → Shared → Prop} {s : Shared} {it : Addr} {x : Str} {t : Tok} {i : Nat} {Q : Value → Shared → Prop} (st : s.heap.IsStrIter it (strIterType x) x t i) (h : Q (.ref it) s) : wpAny (model P w) A (pyIter (.ref it)) Q E s := by
  unfold strIterType at st
  split at st
  · exact wpAny_pyIter_striter_ascii st h
  · exact wpAny_pyIter_striter_wide st h
theorem turn_str {P : Program} {w : World} {K : PySem.W.Frag} {tg : Expr} (z : Str) (t : Tok) (it : Addr) : Turn P w K tg (Itx z) [it] it (fun i h => i ≤ z.cps.size ∧ h.IsStrIter it (strIterType z) z t i) where
  mem := by simp
  obj := fun i h st b hb => by
    have e : b = it := by simpa using hb
    subst e
    obtain ⟨_, o, e, c, d⟩ := st
    exact ⟨o, e, fun v z => by rw [d] at z; cases z⟩
  keep := fun i h h' st k => by
    obtain ⟨a, o, e, c, d⟩ := st
    exact ⟨a, o, k it (by simp) o e, c, d⟩
  item := by
    intro X hP hw hK hc i pins s σ H E I hf st hg
    subst hP hw hK
    obtain ⟨f0, f1, f2, f3, f4, f5⟩ := hf it (by simp)
    refine (str_walks (I.ok.hd hc) it z t).item i s _ E hg st.2 fun v h' tk hv st' kp => ?_
    obtain ⟨c, u, hcs, rfl⟩ := hv
    have I1 : Inv X pins σ H { s with heap := h', toks := tk } := I.turned (t' := tk) (fun b o hb e => kp b o (by simpa using hb) e) f0 f1 f3 f4 f5
    have go : ∀ {Q : Unit → Shared → Prop}, Q () { s with heap := h', toks := tk } → wpAny (model X.prog X.w) X.A (letOwnedTupleGo tg (.ref it) (.str ⟨#[c]⟩ u)) Q E { s with heap := h', toks := tk } := fun hq => by
      unfold letOwnedTupleGo
      cases tg <;> exact wpAny_pure hq
    exact ⟨_, rfl, go ⟨.str ⟨#[c]⟩, H, I1, ⟨_, rfl⟩, ⟨rfl, c, hcs, rfl⟩, ⟨hg, st'⟩, fun b hb => (hf b hb).1⟩⟩
  done := by
    intro X hP hw hK hc i pins s σ H E I hf st hg
    subst hP hw hK
    obtain ⟨f0, f1, f2, f3, f4, f5⟩ := hf it (by simp)
    have e : i = z.cps.size := Nat.le_antisymm st.1 hg
    subst e
    exact (str_walks (I.ok.hd hc) it z t).done s _ E st.2 fun h' tk kp => ⟨rfl, I.turned (t' := tk) (fun b o hb e => kp b o (by simpa using hb) e) f0 f1 f3 f4 f5⟩
  self := fun A i s Q E st h => str_self st.2 h
section
variable {X : Cx} {e tg : Expr} {te : TE}
theorem pi_strT (he : PE X e te) : PI X tg e (iStr te) := by
  intro pins s σ H R I h
  refine thn (he pins s σ H _ I h) fun v s1 ⟨x, H1, I1, r1, q1⟩ => ?_
  obtain ⟨z, rfl, q⟩ := q1
  obtain ⟨t, rfl⟩ := r1
  refine wpAny_pyIter_strU ?_
  refine ⟨s1.heap.objs.size, [s1.heap.objs.size], _, _, H1, rfl, I1.kept (t' := s1.toks) fun b o e => Heap.get?_push_of_some _ e, turn_str z t _, ⟨Nat.zero_le _, _, Heap.get?_push_size _ rfl, rfl, rfl⟩, fun b hb => ?_, q⟩
  have e : b = s1.heap.objs.size := by simpa using hb
  subst e
  exact I1.fpOk (Nat.le_refl _) (I1.hok.fresh (Nat.le_refl _))
theorem istrK {K : PySem.W.Frag} (he : QE X e te) (hK : X.K = K) : QI X tg e (iStr te) := ⟨pi_strT he.h⟩
theorem q_iStr {σ : St} {H : Hp} {R : It → Hp → Prop} : iStr te σ H R = te σ H fun x H1 => ∃ z, x = .str z ∧ R (Itx z) H1 := rfl
theorem itok_str {z : Str} {H1 : Hp} : ItOk (Itx z) H1 z.cps.size fun i => .str ⟨#[(z.cps[i]?).getD 0]⟩ where
  go := fun i H _ hi => hi
  stop := fun i H _ hi => hi
  yld := fun i H x H' _ _ y => by
    obtain ⟨rfl, c, e, rfl⟩ := y
    exact ⟨rfl, by rw [e]; rfl⟩
noncomputable def rSplit : V → List V → Hp → VK → Prop := fun x vs H Q => ∃ z y, x = .str z ∧ vs = [.str y] ∧ y.length ≠ 0 ∧ z.length + 2 ≤ sizeLine ∧ (Txt.split z y).length ≤ sizeLine ∧ ∀ l, H l = none → Q (.ref l) (upd H l (.lst ((Txt.split z y).map V.str)))
theorem vals_strs : ∀ (k : Nat) (l : List Str), Vals (l.map V.str) (strsFrom k l)
  | _, [] => .nil
  | k, x :: r => .cons ⟨_, rfl⟩ (vals_strs _ r)
theorem mt_str_split : MtR X "str.split" rSplit := by
  intro pins s σ H x vs v us Q I rx rv h
  obtain ⟨z, y, rfl, rfl, hy, hz, hl, q⟩ := h
  obtain ⟨t, rfl⟩ := rx
  obtain ⟨u, rfl, t', rfl⟩ := vals1 rv
  have hy0 : (y.length == 0) = false := by simpa using hy
  have one : Txt.split z y = [z] → EP X pins σ Q (.ref s.heap.objs.size) { s with heap := s.heap.push { cls := .type "list", data := .seq #[.str z t] } } := fun e => by
    rw [e] at q
    exact ⟨.ref _, _, I.laid (t' := s.toks) (fun b o eb => Heap.get?_push_of_some _ eb) (Nat.le_refl _) (show ObjOk X.prog X.w _ _ _ (.lst [V.str z]) from ⟨by show 1 ≤ sizeLine; decide, [.str z t], 0, .cons (show RelV (.str z) _ from ⟨t, rfl⟩) .nil, Heap.get?_push_size _ rfl⟩), rfl, q _ (I.hok.fresh (Nat.le_refl _))⟩
  by_cases c1 : (decide (z.length < y.length) || decide (Builtin.Str.strKind z < Builtin.Str.strKind y)) = true
  · refine call_meets F.slot_str_split (typeIs_str s z t) F.entry_str_split (F.args_str_split_2 _ _) (meets_str_split_cannot_occur z y t t' c1) ?_
    exact one (by unfold Txt.split; rw [if_pos c1])
  · have c1' : (decide (z.length < y.length) || decide (Builtin.Str.strKind z < Builtin.Str.strKind y)) = false := by simpa using c1
    by_cases c2 : (Builtin.Str.occurrences z y 0 z.length (z.length + 1)).isEmpty = true
    · refine call_meets F.slot_str_split (typeIs_str s z t) F.entry_str_split (F.args_str_split_2 _ _) (meets_str_split_not_found z y t t' c1' hy0 c2) ?_
      exact one (by unfold Txt.split; rw [if_neg c1, if_pos c2])
    · have c2' : (Builtin.Str.occurrences z y 0 z.length (z.length + 1)).isEmpty = false := by simpa using c2
      have e : Txt.split z y = Builtin.Str.partsBetween z (Builtin.Str.occurrences z y 0 z.length (z.length + 1)) y.length := by unfold Txt.split; rw [if_neg c1, if_neg c2]
      refine call_meets F.slot_str_split (typeIs_str s z t) F.entry_str_split (F.args_str_split_2 _ _) (meets_str_split_sep z y t t' c1' hy0 c2' (by omega) (by rw [← e]; exact hl)) ?_
      rw [← e]
      exact ⟨.ref _, _, I.laid (fun b o eb => Heap.get?_push_of_some _ eb) (Nat.le_refl _) (show ObjOk X.prog X.w _ _ _ (.lst _) from ⟨by rw [List.length_map]; exact hl, _, 0, vals_strs _ _, Heap.get?_push_size _ rfl⟩), rfl, q _ (I.hok.fresh (Nat.le_refl _))⟩
noncomputable def rJoin (K : PySem.W.Frag) : V → List V → Hp → VK → Prop := fun x vs H Q => ∃ y p l, x = .str y ∧ vs = [.ref p] ∧ SqL K H p (l.map V.str) ∧ (l.map fun z => z.length + y.length).sum ≤ sizeLine ∧ (y.join l).length ≤ sizeLine ∧ Q (.str (y.join l)) H
theorem strs_vals : ∀ {l : List Str} {us : List Value}, Vals (l.map V.str) us → ∃ m : List (Str × Tok), us = strValues m ∧ m.map (·.1) = l
  | [], _, .nil => ⟨[], rfl, rfl⟩
  | x :: r, _, .cons ⟨t, rfl⟩ h => by
    obtain ⟨m, rfl, e⟩ := strs_vals h
    exact ⟨(x, t) :: m, rfl, by rw [List.map_cons, e]⟩
theorem foldl_sum (k : Nat) : ∀ (l : List Str) (a : Nat), l.foldl (fun x1 x2 => x1 + x2.length + k) a = a + (l.map fun z => z.length + k).sum
  | [], a => by simp
  | x :: r, a => by rw [List.foldl_cons, foldl_sum k r, List.map_cons, List.sum_cons]; omega
theorem mt_str_join {K : PySem.W.Frag} (hK : X.K = K) : MtR X "str.join" (rJoin K) := by
  subst hK
  intro pins s σ H x vs v us Q I rx rv h
  obtain ⟨y, p, l, rfl, rfl, hp, hz, hj, q⟩ := h
  obtain ⟨t, rfl⟩ := rx
  obtain ⟨u, rfl, ru⟩ := vals1 rv
  cases ru
  obtain ⟨its, r, pl, hzz⟩ := I.list hp
  obtain ⟨m, rfl, em⟩ := strs_vals r
  refine call_meets F.slot_str_join (typeIs_str s y t) F.entry_str_join (F.args_str_join_2 _ _) (meets_str_join_list y t p m ?_) ⟨pl.isList, ?_⟩
  · rw [em, ← Array.foldl_toList, foldl_sum, Nat.zero_add, show l.toArray.toList = l from rfl]
    unfold Builtin.Str.tooLong
    exact decide_eq_false (by omega)
  · refine made_post I (z := y.join l) ?_ hj q
    unfold joinMade
    match m, em with
    | [], em => exact .inr (by
        show Made.str (Builtin.Str.glued y []) = _
        rw [StrLaws.glued_eq_join, ← em]; rfl)
    | [a], em => exact .inl ⟨a.2, by rw [← em]; rfl⟩
    | a :: b :: c, em => exact .inr (by
        show Made.str (Builtin.Str.glued y ((a :: b :: c).map (·.1))) = _
        rw [StrLaws.glued_eq_join, ← em])
noncomputable def rIntS : List V → Hp → VK → Prop := fun xs H Q => ∃ x n, xs = [.str x] ∧ intText? x = some n ∧ x.length ≤ 640 ∧ Q (.int n) H
theorem call_int_str : CallR X (.type "int") rIntS := by
  intro pins s σ H xs us Q I r h
  obtain ⟨x, n, rfl, hx, hz, q⟩ := h
  obtain ⟨u, rfl, t, rfl⟩ := vals1 r
  exact PySem.W.KIN.call_text hx hz ⟨.int n, H, I.tok _, ⟨_, rfl⟩, q⟩
end
end L2
namespace L2
open PySem PySem.Spec PyProof.Rows KM
noncomputable def runS (val : Nat → Str) : Nat → Nat → (Str → Bool) → Nat → (Str → Bool) × Nat
  | 0, _, F, m => (F, m)
  | k + 1, i, F, m => runS val k (i + 1) (fun x => F x || decide (x = val i)) (if F (val i) = true then m else m + 1)
section
variable {prog : Program} {w : World} {A : Around} {R : Result → Shared → Prop} {I : Addr} {fp wr : List Addr} {G : Array GenState → Array GenState → Prop} {n : Nat} {P : Nat → Value → Prop} {St : Nat → Shared → Prop}
theorem set_loop_str (Wk : WalksS prog w A.in1 I fp wr G n P St) (S : Addr) (hS : S ∉ fp) (val : Nat → Str) (hv : ∀ i v, P i v → ∃ t, v = .str (val i) t) (hn : n + 1 < scanBound) :
    ∀ (k i : Nat) (s : Shared) (Fm : Str → Bool) (m : Nat), n - i = k → i ≤ n → m ≤ i → St i s → s.heap.SetOf (PySem.strKind prog w) S Fm m →
      (∀ s', Moved (S :: wr) G s s' → s'.heap.SetOf (PySem.strKind prog w) S (runS val k i Fm m).1 (runS val k i Fm m).2 → R (.ok (.ret .none)) s') →
      codeAny (model prog w) A (.builtin "set.update.loop" ⟨[.ref S, .ref I], []⟩) R s := by
  intro k
  induction k with
  | zero =>
    intro i s Fm m hk hi hm st hs h
    have e : i = n := by omega
    subst e
    refine codeAny_builtin F.entry_set_update_loop ?_
    rw [Around.under_plainId F.plain_set_update_loop _]
    show wpAny _ A.in1 (pyNext (.ref I) >>= _) _ _ s
    refine wpAny_bind (Wk.done s _ _ st fun s' mv => ?_)
    refine wpAny_pure ?_
    refine h s' (mv.mono fun b hb => List.mem_cons_of_mem _ hb) ?_
    obtain ⟨o, es, ep, t, ho, r⟩ := hs
    exact ⟨o, es, ep, t, mv.heap S o (fun z => hS (Wk.sub S z)) ho, r⟩
  | succ k ih =>
    intro i s Fm m hk hi hm st hs h
    refine codeAny_builtin F.entry_set_update_loop ?_
    rw [Around.under_plainId F.plain_set_update_loop _]
    show wpAny _ A.in1 (pyNext (.ref I) >>= _) _ _ s
    refine wpAny_bind (Wk.item i s _ _ (by omega) st fun v s1 hP st1 mv1 => ?_)
    obtain ⟨t, rfl⟩ := hv i v hP
    have hs1 : s1.heap.SetOf (PySem.strKind prog w) S Fm m := by
      obtain ⟨o, es, ep, t, ho, r⟩ := hs
      exact ⟨o, es, ep, t, mv1.heap S o (fun z => hS (Wk.sub S z)) ho, r⟩
    have his : (PySem.strKind prog w).is (val i) (.str (val i) t) = true := by
      show Value.isStrOf (val i) (.str (val i) t) = true
      simp [Value.isStrOf]
    show wpAny _ A.in1 (holding [.str (val i) t] (setAdd S (.str (val i) t)) >>= _) _ _ s1
    refine wpAny_bind ?_
    show wpAny _ A.in1 (setAdd S (.str (val i) t)) _ _ s1
    unfold setAdd
    show wpAny _ A.in1 (pyHash (.str (val i) t) >>= fun x => setAddHashed S (.str (val i) t) x) _ _ s1
    refine wpAny_bind ((PySem.strKind prog w).pyHash his ?_)
    refine wpAny_setAddHashed_of (knd := PySem.strKind prog w) (s := { s1 with toks := s1.toks + 1 }) his rfl hs1 (by omega) fun h' sb hs2 => ?_
    refine wpAny_pure ⟨plainId_quiet F.plain_set_update_loop _, ?_⟩
    have mv2 : Moved (S :: wr) G s1 { s1 with heap := h', toks := s1.toks + 1 } := ⟨fun b o hb e => (sb.2 b (fun z => hb (by rw [z]; exact List.mem_cons_self))).trans e, Wk.grefl _, rfl, rfl, Nat.le_succ _⟩
    have st2 := Wk.frame (i + 1) s1 h' (s1.toks + 1) st1 (Nat.le_succ _) fun b hb o e => (sb.2 b (fun z => hS (by rw [← z]; exact hb))).trans e
    refine ih (i + 1) _ _ _ (by omega) (by omega) (by split <;> omega) st2 hs2 fun s' mv3 hs3 => ?_
    exact h s' (Moved.trans Wk.gtrans (Moved.trans Wk.gtrans (mv1.mono fun b hb => List.mem_cons_of_mem _ hb) mv2) mv3) hs3
end
section
variable {prog : Program} {w : World} {A : Around} {E : Value → Shared → Prop} {s : Shared}
theorem call_set_strs {p : Addr} {vs : Array Value} (val : Nat → Str) {Q : Value → Shared → Prop} (hA : A.handled = none) (hp : s.heap.IsList p vs) (vl : ∀ (i : Nat) (v : Value), vs[i]? = some v → ∃ t, v = .str (val i) t) (hb : vs.size + 1 < scanBound)
    (h : ∀ (h1 : Heap) (k : Nat), h1.SetOf (PySem.strKind prog w) s.heap.objs.size (runS val vs.size 0 (fun _ => false) 0).1 (runS val vs.size 0 (fun _ => false) 0).2 → (∀ b o, b < s.heap.objs.size → s.heap.get? b = some o → h1.get? b = some o) → Q (.ref s.heap.objs.size) { s with heap := h1, toks := k }) :
    wpAny (model prog w) A (call (.type "set") [.ref p]) Q E s := by
  obtain ⟨c0, t0, m0⟩ := F.called_set.mro
  have m1 := F.called_set.made
  have m2 := F.called_set.sub
  have m3 := F.called_set.notType
  have m4 := F.called_set.canCreate
  have m5 := F.typeCall_set_1 (.ref p)
  refine wpAny_call (codeAny_of_tree (show wpAny _ _ (callAny (.type "set") _) _ _ _ from wpAny_pure ⟨Code.quiet_builtin _ (by decide +kernel), codeAny_builtin F.entry_type_call ?_⟩))
  rw [Around.under_plain (weight_type_call_type "set" [.ref p] []) rfl]
  repeat (any_goals (first | assumption | wp_step))
  refine codeAny_mono (code_set_new_1 (.ref p) (E := E) (Q₁ := fun o s1 => ∃ led : Bool, o = .ref s.heap.objs.size ∧ s1 = { s with heap := s.heap.push (set0 led) }) fun led => ⟨led, rfl, rfl⟩) fun r s1 hr => ?_
  cases r with
  | error e => exact hr
  | ok fl =>
    cases fl with
    | ret obj =>
      obtain ⟨led, rfl, rfl⟩ := hr
      have k1 : (s.heap.push (set0 led)).get? s.heap.objs.size = some (set0 led) := Heap.get?_push_size _ rfl
      have k2 : Shared.TypeIs { s with heap := s.heap.push (set0 led) } (.ref s.heap.objs.size) "set" := ⟨_, k1, rfl⟩
      have k3 := F.called_set.init.lookup
      have k4 := F.called_set.init.bind (.ref s.heap.objs.size)
      repeat (any_goals (first | assumption | wp_step))
      refine codeAny_mono (codeAny_call_builtin (R := wants (fun r s2 => r = .none ∧ ∃ h1 k, s2 = { s with heap := h1, toks := k } ∧ h1.SetOf (PySem.strKind prog w) s.heap.objs.size (runS val vs.size 0 (fun _ => false) 0).1 (runS val vs.size 0 (fun _ => false) 0).2 ∧
          (∀ b o, b < s.heap.objs.size → s.heap.get? b = some o → h1.get? b = some o)) E) F.called_set.init.plain F.entry_set_init (check_set_init_1 k2 ?_)) fun r2 s2 h2 => ?_
      · obtain ⟨ot, e0, ec, nt, ed⟩ := hp
        obtain ⟨u1, u2, u3, u4⟩ := ot
        simp only at ec ed
        subst ec; subst ed
        have e1 := Heap.get?_push_of_some (set0 led) e0
        have z1 := F.sub_list_set
        have z2 := F.sub_list_frozenset
        have z3 : (Value.type "list" == Value.type "dict") = false := by decide
        have l1 : (s.heap.push (set0 led)).IsList p vs := ⟨_, e1, rfl, nt, rfl⟩
        unfold Builtin.«set.__init__» noKeywords Builtin.Frozenset.updateFrom
        generalize hPI : pyIter = PI
        wp_walk
        subst hPI
        refine wpAny_pyIter_list l1 (wpAny_bind (wpAny_runValue ?_))
        have pS : p < s.heap.objs.size := Heap.lt_size e0
        have a3 : A.in1.in1.in1.handled = none := by simp [hA]
        have zs : (s.heap.push (set0 led)).objs.size = s.heap.objs.size + 1 := Heap.size_push ..
        have n1 : p ≠ (s.heap.push (set0 led)).objs.size := by rw [zs]; exact Nat.ne_of_lt (Nat.lt_succ_of_lt pS)
        have n2 : s.heap.objs.size ∉ [(s.heap.push (set0 led)).objs.size, p] := by
          rw [zs]
          simp only [List.mem_cons, List.not_mem_nil, or_false, not_or]
          exact ⟨Nat.ne_of_lt (Nat.lt_succ_self _), Nat.ne_of_gt pS⟩
        refine set_loop_str ((Walks.list a3 _ p n1 vs).toS) s.heap.objs.size n2 val vl hb (vs.size - 0) 0 _ (fun _ => false) 0 (by omega) (Nat.zero_le _) (Nat.le_refl _) ⟨⟨_, Heap.get?_push_size _ rfl, rfl, rfl⟩, (l1.push _)⟩ ?x ?y
        case x =>
          exact SetOf_congr ((setObjOf_fresh (knd := PySem.strKind prog w) led).setOf (Heap.get?_push_of_some _ k1) (by unfold scanBound; omega)) (fun _ => rfl) rfl
        case y =>
          intro s' hm hS'
          obtain ⟨h1, g', d', tk', os'⟩ := s'
          obtain rfl : g' = s.gens := hm.gens
          obtain rfl : d' = s.drawn := hm.drawn
          obtain rfl : os' = s.os := hm.os
          show wpAny _ _ _ _ _ _
          refine wpAny_pure (show wpAny _ _ (ret Value.none) _ _ _ from wpAny_pure ⟨rfl, h1, tk', rfl, hS', fun b o hb e => ?_⟩)
          refine hm.heap b o ?_ (Heap.get?_push_of_some _ (Heap.get?_push_of_some _ e))
          rw [zs]
          simp only [List.mem_cons, List.not_mem_nil, or_false, not_or]
          exact ⟨Nat.ne_of_lt hb, Nat.ne_of_lt (Nat.lt_succ_of_lt hb)⟩
      · cases r2 with
        | error e => exact h2
        | ok f2 =>
          cases f2 with
          | ret r =>
            obtain ⟨rfl, h1, k, rfl, hS', hk'⟩ := h2
            repeat (any_goals (first | assumption | wp_step))
            exact h _ _ hS' hk'
          | _ => exact h2.elim
    | _ => exact hr.elim
end
end L2
namespace L2
open PySem PySem.Spec PyProof.Rows KM
noncomputable def SetS (P : Program) (w : World) (a : Addr) (n : Nat) : HO := .ext fun h => ∃ Fm, h.SetOf (PySem.strKind P w) a Fm n
noncomputable def cntS (l : List Str) : Nat := (runS (fun i => l.getD i ⟨#[]⟩) l.length 0 (fun _ => false) 0).2
theorem runS_spec (l : List Str) : ∀ (k i : Nat) (Fm : Str → Bool) (m : Nat), l.length - i = k → i ≤ l.length → (∀ x, Fm x = true ↔ x ∈ l.take i) → m ≤ i → (m = i ↔ (l.take i).Nodup) → (runS (fun i => l.getD i ⟨#[]⟩) k i Fm m).2 ≤ l.length ∧ ((runS (fun i => l.getD i ⟨#[]⟩) k i Fm m).2 = l.length ↔ l.Nodup) := by
  intro k
  induction k with
  | zero =>
    intro i Fm m hk hi hF hm hn
    have e : i = l.length := by omega
    subst e
    rw [List.take_length] at hn
    exact ⟨hm, hn⟩
  | succ k ih =>
    intro i Fm m hk hi hF hm hn
    have hlt : i < l.length := by omega
    have ht : l.take (i + 1) = l.take i ++ [l.getD i ⟨#[]⟩] := by rw [List.take_succ, List.getElem?_eq_getElem hlt, List.getD_eq_getElem?_getD, List.getElem?_eq_getElem hlt]; rfl
    refine ih (i + 1) _ _ (by omega) (by omega) (fun x => ?_) ?_ ?_
    · rw [ht, List.mem_append, List.mem_singleton, Bool.or_eq_true, hF x, decide_eq_true_eq]
    · split <;> omega
    · rw [ht, List.nodup_append]
      by_cases c : Fm (l.getD i ⟨#[]⟩) = true
      · rw [if_pos c]
        constructor
        · intro e; omega
        · intro h
          exact absurd rfl (h.2.2 _ ((hF _).mp c) _ (List.mem_singleton.mpr rfl))
      · rw [if_neg c]
        constructor
        · intro e
          refine ⟨hn.mp (by omega), by simp, fun a ha b hb => ?_⟩
          rw [List.mem_singleton.mp hb]
          intro z
          exact c ((hF _).mpr (by rw [← z]; exact ha))
        · intro h
          have := hn.mpr h.1
          omega
theorem cntS_le (l : List Str) : cntS l ≤ l.length ∧ (cntS l = l.length ↔ l.Nodup) :=
  runS_spec l l.length 0 (fun _ => false) 0 (by omega) (Nat.zero_le _) (fun x => by simp) (Nat.le_refl _) (by simp)
noncomputable def rSetStr (K : PySem.W.Frag) : List V → Hp → VK → Prop := fun xs H Q => ∃ p l, xs = [.ref p] ∧ SqL K H p (l.map V.str) ∧ l.length < 1000 ∧ ∀ (P : Program) (w : World) a, H a = none → Q (.ref a) (upd H a (SetS P w a (cntS l)))
section
variable {X : Cx}
theorem call_setStrK {K : PySem.W.Frag} (hc : X.calm = true) (hK : X.K = K) : CallR X (.type "set") (rSetStr K) := by
  subst hK
  intro pins s σ H xs us Q I r h
  obtain ⟨p, l, rfl, hq, h6, q⟩ := h
  obtain ⟨u, rfl, rx⟩ := vals1 r
  cases rx
  obtain ⟨its, r', pl, hz⟩ := I.list hq
  obtain ⟨m, rfl, em⟩ := strs_vals r'
  have hml : m.length = l.length := by rw [← em, List.length_map]
  have hsz : (strValues m).toArray.size = l.length := by rw [List.size_toArray]; unfold strValues; rw [List.length_map, hml]
  have hbig : (1001 : Nat) < scanBound := by decide
  refine call_set_strs (vs := (strValues m).toArray) (fun i => l.getD i ⟨#[]⟩) (I.ok.hd hc) pl.isList (fun i v hv => ?_) (by rw [hsz]; omega) fun h1 k hS kp => ?_
  · rw [List.getElem?_toArray] at hv
    unfold strValues at hv
    rw [List.getElem?_map] at hv
    cases e : m[i]? with
    | none => rw [e] at hv; cases hv
    | some a =>
      rw [e] at hv
      cases hv
      refine ⟨a.2, ?_⟩
      rw [← em, List.getD_eq_getElem?_getD, List.getElem?_map, e]; rfl
  · rw [hsz] at hS
    refine ⟨.ref _, _, I.laid (fun b o e => kp b o (Heap.lt_size e) e) (Nat.le_refl _) (show ObjOk X.prog X.w _ h1 _ (SetS X.prog X.w _ (cntS l)) from ⟨⟨_, hS⟩, ?_, fun h1 h2 ⟨Fm, hs⟩ k => ?_⟩), rfl, q X.prog X.w _ I.fresh⟩
    · obtain ⟨o, es, ep, t, ho, _⟩ := hS
      exact ⟨o, ho⟩
    · obtain ⟨o, es, ep, t, ho, r⟩ := hs
      exact ⟨Fm, o, es, ep, t, k o ho, r⟩
noncomputable def rLenSS : List V → Hp → VK → Prop := fun xs H Q => ∃ p n P w, xs = [.ref p] ∧ H p = some (SetS P w p n) ∧ Q (.int n) H
theorem call_lenSS : CallR X (.builtin "len") rLenSS := by
  intro pins s σ H xs us Q I r h
  obtain ⟨p, n, P, w, rfl, hp, q⟩ := h
  obtain ⟨u, rfl, rx⟩ := vals1 r
  cases rx
  obtain ⟨⟨Fm, o, es, ep, t, e0, ex, ed, _, _, hb, hf, hn⟩, _, _⟩ := I.hok p _ hp
  have hbig : scanBound < 2 ^ 62 := by decide
  refine PySem.call_len_set e0 ex ed hf (by omega) ⟨.int n, H, I.tok _, ⟨_, by rw [hn]⟩, q⟩
end
end L2
namespace L2
open PySem PySem.Spec PyProof.Rows KM
section
variable {X : Cx} {N W G : List Str} {x : Str} {pos : Pos}
theorem kglS (S : Sc X N W G) (g : Nat) {z : Str} (h : ∃ t, X.mg x = some (.str z t)) (hg : G[g]? = some x := by rfl) : QE X (.Name x pos) (tC (.str z)) := by
  obtain ⟨t, h⟩ := h
  have q := S.gl _ (List.mem_of_getElem? hg)
  exact ⟨pe_glob q.1 h ⟨t, rfl⟩ q.2.1⟩
theorem kglI (S : Sc X N W G) (g : Nat) {z : Int} (h : ∃ t, X.mg x = some (.int z t)) (hg : G[g]? = some x := by rfl) : QE X (.Name x pos) (tC (.int z)) := by
  obtain ⟨t, h⟩ := h
  have q := S.gl _ (List.mem_of_getElem? hg)
  exact ⟨pe_glob q.1 h ⟨t, rfl⟩ q.2.1⟩
end
structure FunD (K : PySem.W.Frag) (x qual : Str) (st : Stmt) (f : Addr) (fd : FuncData) (d : List Value) : Prop where
  ex : ∃ (oc : Value) (od : Option Addr) (T : Addr) (kV doc pm : Value) (an : Option Addr) (cdv ct : Value) (osl : Array (Option Value)) (o : Obj) (n : Nat),
    fd = PySem.W.fnOf x qual (defArgs st) (defBody st) (defScope st) (.ref T) kV doc pm an cdv ct ∧ K.lookup f = some ⟨oc, od, .func fd, osl⟩ ∧ PySem.W.codeIn K cdv qual = true ∧ K.lookup T = some o ∧ o.data = .seq d.toArray n
  kp : PySem.W.keepIn K (.ref f) = true
structure DefD (K : PySem.W.Frag) (mg : Str → Option Value) (x : Str) (st : Stmt) (i : Int) : Prop where
  ex : ∃ f fd t, FunD K x x st f fd [.int i t] ∧ mg x = some (.ref f)
theorem defd_mk {K : PySem.W.Frag} {h : Heap} {mg : Str → Option Value} {x : Str} {st : Stmt} {f T : Addr} {i : Int} {t : Tok} {o : Obj} {m : Nat} {oc : Value} {od an : Option Addr} {osl : Array (Option Value)} {kV doc pm cdv ct : Value} (X : K.In h) (G : h.Ns mainGlobals mg)
    (a : PySem.W.nsIn K mainGlobals x = some (some (.ref f))) (l : K.lookup f = some ⟨oc, od, .func (PySem.W.fnOf x x (defArgs st) (defBody st) (defScope st) (.ref T) kV doc pm an cdv ct), osl⟩)
    (c : PySem.W.codeIn K cdv x = true) (k : PySem.W.keepIn K (.ref f) = true) (lt : K.lookup T = some o) (ld : o.data = .seq #[.int i t] m) : DefD K mg x st i :=
  ⟨f, _, t, ⟨⟨oc, od, T, kV, doc, pm, an, cdv, ct, osl, o, m, rfl, l, c, lt, ld⟩, k⟩, PySem.W.mg_of X G a⟩
noncomputable def g11 {α : Type} : List α → List α → List α
  | [a], [b] => [a, b]
  | _, _ => []
theorem g11_vals : ∀ {vs : List V} {us : List Value} {zs : List V} {ws : List Value}, Vals vs us → Vals zs ws → Vals (g11 vs zs) (g11 us ws)
  | _, _, _, _, .nil, _ => .nil
  | _, _, _, _, .cons _ (.cons _ _), .nil => .nil
  | _, _, _, _, .cons _ (.cons _ _), .cons _ .nil => .nil
  | _, _, _, _, .cons _ (.cons _ _), .cons _ (.cons _ _) => .nil
  | _, _, _, _, .cons _ .nil, .nil => .nil
  | _, _, _, _, .cons a .nil, .cons b .nil => .cons a (.cons b .nil)
  | _, _, _, _, .cons _ .nil, .cons _ (.cons _ _) => .nil
section
variable {P : Program} {w : World} {K : PySem.W.Frag} {mg : Str → Option Value} {base : Heap} {k : Nat} {x : Str} {N G : List Str} {p1 p2 : Str} {i : Int} {sp : Sp} {st : Stmt}
noncomputable def bindD (x : Str) (st : Stmt) (p1 p2 : Str) : Prop := ∀ (T : Addr) (kV doc pm : Value) (an : Option Addr) (cdv ct u v : Value),
  (∃ k, bindArgs (PySem.W.fnOf x x (defArgs st) (defBody st) (defScope st) (.ref T) kV doc pm an cdv ct) ⟨[u], []⟩ = (seqItems? (.ref T) >>= k) ∧ ∀ d, k (some #[d]) = pure [(p1, u), (p2, d)]) ∧
  (∃ k, bindArgs (PySem.W.fnOf x x (defArgs st) (defBody st) (defScope st) (.ref T) kV doc pm an cdv ct) ⟨[u, v], []⟩ = (seqItems? (.ref T) >>= k) ∧ ∀ d, k (some #[d]) = pure [(p1, u), (p2, v)]) ∧
  (∃ k, bindArgs (PySem.W.fnOf x x (defArgs st) (defBody st) (defScope st) (.ref T) kV doc pm an cdv ct) ⟨[u], [(p2, v)]⟩ = (seqItems? (.ref T) >>= k) ∧ ∀ d, k (some #[d]) = pure [(p1, u), (p2, v)])
end
section
variable {X : Cx} {N W G : List Str} {k m : Nat} {x p1 p2 : Str} {i : Int} {sp : Sp} {p pos kpos : Pos} {e e2 : Expr} {t tk : TA}
end
end L2
namespace L2
open PySem PySem.Spec PyProof.Rows KM
noncomputable abbrev cz (x : Str) : List Nat := x.cps.toList
theorem str_ext {a b : Str} (h : cz a = cz b) : a = b := by
  obtain ⟨a⟩ := a
  obtain ⟨b⟩ := b
  congr 1
  exact Array.toList_inj.mp h
theorem cz_append (a b : Str) : cz (a ++ b) = cz a ++ cz b := by show (a.cps ++ b.cps).toList = _; rw [Array.toList_append]
theorem cz_length (a : Str) : a.length = (cz a).length := by show a.cps.size = _; rw [Array.length_toList]
theorem cz_mk (c : Nat) : cz ⟨#[c]⟩ = [c] := rfl
theorem cz_join2 (s x y : Str) (r : List Str) : cz (s.join (x :: y :: r)) = cz x ++ cz s ++ cz (s.join (y :: r)) := by
  show cz (x ++ s ++ s.join (y :: r)) = _
  rw [cz_append, cz_append]
theorem cut_at {c : Nat} : ∀ {p p' q q' : List Nat}, c ∉ p → c ∉ p' → p ++ c :: q = p' ++ c :: q' → p = p' ∧ q = q'
  | [], [], _, _, _, _, e => ⟨rfl, (List.cons.inj e).2⟩
  | [], a :: p', _, _, _, h', e => absurd (List.mem_cons.mpr (.inl (List.cons.inj e).1)) h'
  | a :: p, [], _, _, h, _, e => absurd (List.mem_cons.mpr (.inl (List.cons.inj e).1.symm)) h
  | a :: p, b :: p', _, _, h, h', e => by
    obtain ⟨e1, e2⟩ := List.cons.inj e
    obtain ⟨e3, e4⟩ := cut_at (fun z => h (List.mem_cons_of_mem _ z)) (fun z => h' (List.mem_cons_of_mem _ z)) e2
    exact ⟨by rw [e1, e3], e4⟩
theorem join_inj (c : Nat) : ∀ {a b : List Str}, a ≠ [] → b ≠ [] → (∀ x ∈ a, c ∉ cz x) → (∀ x ∈ b, c ∉ cz x) → cz (Str.join ⟨#[c]⟩ a) = cz (Str.join ⟨#[c]⟩ b) → a = b
  | [], _, h, _, _, _, _ => absurd rfl h
  | _ :: _, [], _, h, _, _, _ => absurd rfl h
  | [x], [y], _, _, _, _, e => by rw [str_ext (show cz x = cz y from e)]
  | [x], y :: z :: r, _, _, ha, _, e => by
    rw [cz_join2] at e
    have e : cz x = cz y ++ [c] ++ _ := e
    refine absurd ?_ (ha x List.mem_cons_self)
    rw [e]; simp
  | x :: y :: r, [z], _, _, _, hb, e => by
    rw [cz_join2] at e
    have e : cz x ++ [c] ++ _ = cz z := e
    refine absurd ?_ (hb z List.mem_cons_self)
    rw [← e]; simp
  | x :: y :: r, x' :: y' :: r', _, _, ha, hb, e => by
    rw [cz_join2, cz_join2, cz_mk, List.append_assoc, List.append_assoc] at e
    obtain ⟨e1, e2⟩ := cut_at (ha x List.mem_cons_self) (hb x' List.mem_cons_self) e
    rw [str_ext e1, join_inj c (by simp) (by simp) (fun x hx => ha x (List.mem_cons_of_mem _ hx)) (fun x hx => hb x (List.mem_cons_of_mem _ hx)) e2]
theorem split_ne (x : Str) (c : Nat) : Txt.split x ⟨#[c]⟩ ≠ [] := by
  unfold Txt.split
  split
  · simp
  split
  · simp
  · unfold Builtin.Str.partsBetween
    cases Builtin.Str.occurrences x ⟨#[c]⟩ 0 x.length (x.length + 1) <;> simp
theorem split_join (c : Nat) {a : List Str} (h : a ≠ []) (hf : ∀ x ∈ a, c ∉ cz x) : Txt.split (Str.join ⟨#[c]⟩ a) ⟨#[c]⟩ = a :=
  join_inj c (split_ne _ c) h (fun p hp => StrLaws.split_free _ c p hp) hf (by rw [StrLaws.join_split])
noncomputable def letS : Str := "abcdefghijklmnopqrstuvwxyz"
noncomputable def figS : Str := "0123456789"
noncomputable def lowB (c : Nat) : Bool := decide (c ∈ cz letS)
noncomputable def digB (c : Nat) : Bool := decide (c ∈ cz figS)
noncomputable def nameB (x : Str) : Bool := decide (1 ≤ x.length ∧ x.length ≤ 12) && (cz x).all lowB
noncomputable def countB (x : Str) : Bool := decide (1 ≤ x.length ∧ x.length ≤ 30) && (decide ((cz x).getD 0 0 ≠ 48) && (cz x).all digB)
noncomputable def hatB (l : List Str) : Bool := decide (l.length = 3) && (decide (l.getD 0 ⟨#[]⟩ = "hat") && (nameB (l.getD 1 ⟨#[]⟩) && countB (l.getD 2 ⟨#[]⟩)))
noncomputable def seesB (l : List Str) : Bool := decide (3 ≤ l.length) && (decide (l.getD 0 ⟨#[]⟩ = "sees") && (l.drop 1).all nameB)
theorem lowB_ne {c : Nat} (h : lowB c = true) : c ≠ 32 ∧ c ≠ 10 := by
  have h2 := of_decide_eq_true h
  have : ∀ c ∈ cz letS, c ≠ 32 ∧ c ≠ 10 := by decide +kernel
  exact this c h2
theorem digB_iff {c : Nat} : digB c = true ↔ 48 ≤ c ∧ c ≤ 57 := by
  unfold digB
  rw [decide_eq_true_iff, show cz figS = [48, 49, 50, 51, 52, 53, 54, 55, 56, 57] by decide +kernel]
  simp only [List.mem_cons, List.not_mem_nil, or_false]
  omega
theorem nameB_free {x : Str} (h : nameB x = true) : 32 ∉ cz x ∧ 10 ∉ cz x := by
  unfold nameB at h
  rw [Bool.and_eq_true, List.all_eq_true] at h
  exact ⟨fun z => (lowB_ne (h.2 _ z)).1 rfl, fun z => (lowB_ne (h.2 _ z)).2 rfl⟩
theorem countB_free {x : Str} (h : countB x = true) : 32 ∉ cz x ∧ 10 ∉ cz x := by
  unfold countB at h
  rw [Bool.and_eq_true, Bool.and_eq_true, List.all_eq_true] at h
  exact ⟨fun z => by have := digB_iff.mp (h.2.2 _ z); omega, fun z => by have := digB_iff.mp (h.2.2 _ z); omega⟩
theorem text_nat (n : Nat) : cz (Str.ofString (toString ((n : Nat) : Int))) = (Nat.toDigits 10 n).map Char.toNat := by
  show (Str.ofString (toString (Int.ofNat n))).cps.toList = _
  rw [text_ofNat n]
theorem digits_head : ∀ (n : Nat), 0 < n → ∃ c r, Nat.toDigits 10 n = c :: r ∧ c ≠ '0' := by
  intro n
  induction n using Nat.strongRecOn with
  | _ n ih =>
    intro h
    rw [Nat.toDigits_eq_if (by decide)]
    by_cases c : n < 10
    · rw [if_pos c]
      refine ⟨_, _, rfl, ?_⟩
      have : ∀ n, n < 10 → 0 < n → Nat.digitChar n ≠ '0' := by decide
      exact this n c h
    · rw [if_neg c]
      obtain ⟨d, r, e, hd⟩ := ih (n / 10) (by omega) (by omega)
      exact ⟨d, r ++ [Nat.digitChar (n % 10)], by rw [e]; rfl, hd⟩
theorem count_text {n : Nat} (h0 : 0 < n) (h30 : n < 10 ^ 30) : countB (Str.ofString (toString ((n : Nat) : Int))) = true ∧ intText? (Str.ofString (toString ((n : Nat) : Int))) = some (n : Int) := by
  have e := text_nat n
  have hd : ∀ c ∈ (Nat.toDigits 10 n).map Char.toNat, 48 ≤ c ∧ c ≤ 57 := fun c hc => by
    obtain ⟨d, hd, rfl⟩ := List.mem_map.mp hc
    have := Nat.isDigit_of_mem_toDigits (by decide) (by decide) hd
    simp only [Char.isDigit, Bool.and_eq_true, decide_eq_true_eq] at this
    exact this
  have hl : (Nat.toDigits 10 n).length ≤ 30 := (Nat.length_toDigits_le_iff (by decide) (by decide)).mpr h30
  have hp : 0 < (Nat.toDigits 10 n).length := Nat.length_toDigits_pos
  obtain ⟨c, r, ec, hc⟩ := digits_head n h0
  constructor
  · unfold countB
    rw [cz_length, e, List.length_map, decide_eq_true (show 1 ≤ (Nat.toDigits 10 n).length ∧ (Nat.toDigits 10 n).length ≤ 30 from ⟨hp, hl⟩), Bool.true_and, Bool.and_eq_true]
    refine ⟨decide_eq_true ?_, List.all_eq_true.mpr fun c hc => digB_iff.mpr (hd c hc)⟩
    rw [ec]
    show c.toNat ≠ 48
    intro z
    exact hc (Char.toNat_inj.mp z)
  · have e' : (Str.ofString (toString ((n : Nat) : Int))).cps.toList = (Nat.toDigits 10 n).map Char.toNat := e
    rw [intText_digits (by rw [e']; exact hd) (by rw [e', ec]; simp) (by rw [cz_length, e, List.length_map]; omega), e', PySem.W.KIN.val_back]
theorem blank_is : (Str.ofString " ") = ⟨#[32]⟩ := by decide +kernel
theorem join_part (c : Nat) : ∀ {l : List Str} {x : Str}, x ∈ l → x.length ≤ (Str.join ⟨#[c]⟩ l).length
  | [y], x, h => by rw [List.mem_singleton.mp h]; exact Nat.le_refl _
  | y :: z :: r, x, h => by
    have e : (Str.join ⟨#[c]⟩ (y :: z :: r)).length = y.length + 1 + (Str.join ⟨#[c]⟩ (z :: r)).length := by
      rw [cz_length, cz_join2, List.length_append, List.length_append, ← cz_length, ← cz_length]; rfl
    rcases List.mem_cons.mp h with rfl | h
    · omega
    · have := join_part c h
      omega
theorem split_part {z x : Str} (h : x ∈ Txt.split z ⟨#[32]⟩) : x.length ≤ z.length := by
  have := join_part 32 h
  rw [StrLaws.join_split] at this
  exact this
noncomputable abbrev noS : Str := ⟨#[]⟩
noncomputable def spIsName : Sp := fun vs H Q _ => ∃ z : Str, vs = [.str z] ∧ z.length ≤ 1000000 ∧ ∀ H', Same H H' → Q (.bl (nameB z)) H'
noncomputable def spIsCount : Sp := fun vs H Q _ => ∃ z : Str, vs = [.str z] ∧ z.length ≤ 1000000 ∧ ∀ H', Same H H' → Q (.bl (countB z)) H'
structure Ws (K : PySem.W.Frag) (H : Hp) (p : Addr) (l : List Str) : Prop where
  sq : SqL K H p (l.map V.str)
  few : l.length ≤ 900
  short : ∀ x ∈ l, x.length ≤ 1000000
noncomputable def spIsHat (K : PySem.W.Frag) : Sp := fun vs H Q _ => ∃ (p : Addr) (l : List Str), vs = [.ref p] ∧ Ws K H p l ∧ ∀ H', Same H H' → Q (.bl (hatB l)) H'
noncomputable def spIsSees (K : PySem.W.Frag) : Sp := fun vs H Q _ => ∃ (p : Addr) (l : List Str), vs = [.ref p] ∧ Ws K H p l ∧ ∀ H', Same H H' → Q (.bl (seesB l)) H'
theorem small1M {n : Nat} (h : n ≤ 1000000) : n ≤ sizeLine := Nat.le_trans h (by decide)
theorem str_item {l : List Str} {k : Nat} (h : k < l.length) : (l.map V.str)[k]? = some (.str (l.getD k noS)) := by
  rw [List.getElem?_map, List.getElem?_eq_getElem h, List.getD_eq_getElem?_getD, List.getElem?_eq_getElem h]; rfl
theorem getD_memS {l : List Str} {k : Nat} (h : k < l.length) : l.getD k noS ∈ l := by
  rw [List.getD_eq_getElem?_getD, List.getElem?_eq_getElem h]; exact List.getElem_mem h
theorem all_signs (z : Str) (p : Nat → Bool) : ((List.range z.cps.size).map fun i => p ((z.cps[i]?).getD 0)).all id = (cz z).all p := by
  rw [List.all_map]
  have e : cz z = (List.range z.cps.size).map fun i => (z.cps[i]?).getD 0 := by
    apply List.ext_getElem?
    intro i
    by_cases hi : i < z.cps.size
    · rw [List.getElem?_map, List.getElem?_range hi, Array.getElem?_toList, Array.getElem?_eq_getElem hi]
      show some z.cps[i] = some ((z.cps[i]?).getD 0)
      rw [Array.getElem?_eq_getElem hi]; rfl
    · rw [List.getElem?_eq_none (by rw [Array.length_toList]; omega), List.getElem?_eq_none (by rw [List.length_map, List.length_range]; omega)]
  rw [e, List.all_map]
  rfl
theorem lc_signs {K : PySem.W.Frag} {z y : Str} {H : Hp} {Q : VK} (hz : z.length ≤ 1000000) (q : ∀ H', Same H H' → Q (.bl ((cz z).all fun c => decide (c ∈ cz y))) H') :
    rLC (gName 0) tTrue (tOp (fun x y H Q => ∃ i j, x = V.str i ∧ y = V.str j ∧ Q (V.bl !(Builtin.Str.occurrences j i 0 j.length 1).isEmpty) H) (tVar 0) (tC (.str y))) [none] (fun x H1 => rAll K [x] H1 Q) (Itx z) H := by
  refine lc1 itok_str (fun _ => true) (fun i => .bl (decide ((z.cps[i]?).getD 0 ∈ cz y))) (Nat.lt_of_le_of_lt hz (by decide)) ?_ ?_
  · intro i H1 A B hi hS hA _
    simp only [q_True, q_iT, q_ifT, q_Op, q_var0, q_C]
    refine ⟨_, _, rfl, rfl, ?_⟩
    rw [StrLaws.found_one]
    exact hA rfl _ (Same.refl _)
  · intro acc H1 hn s1 hacc
    rw [fil_all] at hacc
    refine ⟨acc, (List.range z.cps.size).map fun i => decide ((z.cps[i]?).getD 0 ∈ cz y), rfl, SqL.of (by rw [hacc, List.map_map]; rfl), ?_⟩
    rw [all_signs z fun c => decide (c ∈ cz y)]
    exact q H1 s1
end L2
namespace L2
open PySem PySem.Spec PyProof.Rows KM
theorem inV_strs (k : Str) (ns : List Str) : inV (.str k) (ns.map V.str) = decide (k ∈ ns) := by
  induction ns with
  | nil => simp [inV]
  | cons a r ih =>
    unfold inV at ih ⊢
    rw [List.map_cons, List.any_cons, ih]
    by_cases e : a = k
    · subst e; simp [eqV]
    · have : ¬ k = a := fun z => e z.symm
      simp [eqV, e, this]
theorem to_inS {K : PySem.W.Frag} {neg : Bool} {H : Hp} {Q : VK} {p : Addr} {k : Str} {a : List Str} (h : SqL K H p (a.map V.str) ∨ SqT K H p (a.map V.str)) (q : Q (.bl (if neg then !decide (k ∈ a) else decide (k ∈ a))) H) : rIn K neg (.str k) (.ref p) H Q := by
  refine ⟨p, _, rfl, h, rfl, ?_, ?_⟩
  · rw [List.all_map]; exact List.all_eq_true.mpr fun _ _ => rfl
  · rw [inV_strs]; exact q
noncomputable def LowS (x : Str) : Prop := ∀ c ∈ cz x, lowB c = true
theorem LowS.append {a b : Str} (ha : LowS a) (hb : LowS b) : LowS (a ++ b) := fun c hc => by
  rw [cz_append] at hc
  rcases List.mem_append.mp hc with z | z
  · exact ha c z
  · exact hb c z
theorem len_append (a b : Str) : (a ++ b).length = a.length + b.length := by rw [cz_length, cz_append, List.length_append, ← cz_length, ← cz_length]
theorem name_of {x : Str} (h : LowS x) (h1 : 1 ≤ x.length) (h2 : x.length ≤ 12) : nameB x = true := by
  unfold nameB
  rw [decide_eq_true (show 1 ≤ x.length ∧ x.length ≤ 12 from ⟨h1, h2⟩), Bool.true_and]
  exact List.all_eq_true.mpr h
theorem low_of {x : Str} (h : nameB x = true) : LowS x ∧ 1 ≤ x.length ∧ x.length ≤ 12 := by
  unfold nameB at h
  rw [Bool.and_eq_true, List.all_eq_true] at h
  exact ⟨h.2, (of_decide_eq_true h.1).1, (of_decide_eq_true h.1).2⟩
theorem slice_to {x : Str} {k : Nat} (h : k ≤ x.length) : cz (StrLaws.sliceText x none (some (k : Int))) = (cz x).take k := by
  have h' : k ≤ x.cps.toList.length := by rw [cz_length] at h; exact h
  rw [StrLaws.sliceText_to ⟨by omega, by omega⟩]
  show List.take ((k : Int) - 0).toNat (List.drop 0 _) = _
  rw [List.drop_zero, show ((k : Int) - 0).toNat = k by omega]
theorem slice_from {x : Str} {k : Nat} (h : k ≤ x.length) : cz (StrLaws.sliceText x (some (k : Int)) none) = (cz x).drop k := by
  have h' : k ≤ x.cps.toList.length := by rw [cz_length] at h; exact h
  rw [StrLaws.sliceText_from ⟨by omega, by omega⟩]
  show List.take _ (List.drop ((k : Int)).toNat _) = _
  rw [Int.toNat_natCast, List.take_of_length_le (by rw [List.length_drop]; omega)]
theorem slice_back {x : Str} {k : Nat} (h0 : 1 ≤ k) (h : k ≤ x.length) : cz (StrLaws.sliceText x (some (-(k : Int))) none) = (cz x).drop ((cz x).length - k) := by
  have e := cz_length x
  rw [StrLaws.sliceText_from_neg (by omega) (by omega)]
  show List.take _ (List.drop (-(k : Int) + (x.length : Nat)).toNat _) = _
  rw [show (-(k : Int) + (x.length : Nat)).toNat = (cz x).length - k by omega, List.take_of_length_le (by rw [List.length_drop]; show (cz x).length - _ ≤ (((cz x).length : Int) - _).toNat; omega)]
theorem low_take {x y : Str} {k : Nat} (h : LowS x) (e : cz y = (cz x).take k) : LowS y := fun c hc => h c (List.mem_of_mem_take (by rw [← e]; exact hc))
theorem low_drop {x y : Str} {k : Nat} (h : LowS x) (e : cz y = (cz x).drop k) : LowS y := fun c hc => h c (List.mem_of_mem_drop (by rw [← e]; exact hc))
theorem low_one {c : Nat} {i : Nat} (h : (cz letS)[i]? = some c) : LowS ⟨#[c]⟩ := fun d hd => by
  have e : d = c := by simpa using hd
  subst e
  unfold lowB
  exact decide_eq_true (List.mem_of_getElem? h)
theorem letS_len : (cz letS).length = 26 := by decide +kernel
theorem let_at {i : Int} (h0 : 0 ≤ i) (h1 : i < 26) : ∃ c, atI (cz letS) i = some c ∧ LowS ⟨#[c]⟩ := by
  obtain ⟨n, rfl⟩ := Int.eq_ofNat_of_zero_le h0
  have hn : n < (cz letS).length := by rw [letS_len]; omega
  refine ⟨(cz letS).getD n 0, atI_getD rfl 0 hn, low_one (i := n) ?_⟩
  rw [List.getD_eq_getElem?_getD, List.getElem?_eq_getElem hn]; rfl
noncomputable def spDrawsL : Sp := fun vs H Q _ => ∃ (cell : Int) (n : Nat), vs = [.int cell, .int n] ∧ n ≤ 100 ∧ ∀ (l : Addr) (ns : List Int) (H' : Hp), Same H H' → H l = none → H' l = some (.lst (ns.map V.int)) → ns.length = n → (∀ x ∈ ns, 0 ≤ x) → Q (.ref l) H'
noncomputable def InvDw (H0 : Hp) (cell : Int) (n : Nat) (l : Addr) (k : Nat) (σ : St) (H : Hp) : Prop := ∃ (num : Int) (ns : List Int) (y : Option V), σ = [some (.int cell), some (.int n), some (.int num), some (.ref l), y] ∧ Same H0 H ∧ H l = some (.lst (ns.map V.int)) ∧ ns.length = k ∧ ∀ x ∈ ns, 0 ≤ x
noncomputable def spFresh : Sp := fun vs H Q _ => ∃ (num : Int) (k : Nat), vs = [.int num, .int k] ∧ k ≤ 12 ∧ ∀ z : Str, z.length = k → LowS z → Q (.str z) H
noncomputable def InvFr (H0 : Hp) (n : Nat) (k : Nat) (σ : St) (H : Hp) : Prop := ∃ (num : Int) (z : Str) (y : Option V), σ = [some (.int num), some (.int n), some (.str letS), some (.str z), y] ∧ H = H0 ∧ z.length = k ∧ LowS z
structure Nms (ns : List Str) (n : Nat) : Prop where
  few : ns.length ≤ n
  nd : ns.Nodup
  nm : ∀ x ∈ ns, nameB x = true
noncomputable def spNames : Sp := fun vs H Q _ => ∃ (cell : Int) (n : Nat), vs = [.int cell, .int n] ∧ 1 ≤ n ∧ n ≤ 8 ∧ ∀ (l : Addr) (ns : List Str) (H' : Hp), Same H H' → H l = none → H' l = some (.lst (ns.map V.str)) → ns ≠ [] → Nms ns n → Q (.ref l) H'
noncomputable def someS : List Str := ["hat", "sees", "put", "guess", "right", "ring", "order", "book", "sure", "share", "groups", "circle", "hats"]
theorem someS_ok : ∀ x ∈ someS, nameB x = true := by decide +kernel
noncomputable def InvNm (H0 : Hp) (cell : Int) (n : Nat) (sm dr : Addr) (base : Str) (a : Nat) (l : Addr) (dn : List Int) (k : Nat) (σ : St) (H : Hp) : Prop := ∃ (ns : List Str) (y1 y2 y3 y4 : Option V), σ = [some (.int cell), some (.int n), some (.str letS), some (.ref sm), some (.ref dr), some (.str base), some (.int a), some (.ref l), y1, y2, y3, y4] ∧ Same H0 H ∧ H l = some (.lst (ns.map V.str)) ∧ H sm = some (.lst (someS.map V.str)) ∧ H dr = some (.lst (dn.map V.int)) ∧ Nms ns k ∧ (1 ≤ k → ns ≠ [])
noncomputable def spCountL : Sp := fun vs H Q _ => ∃ (cell : Int) (k : Int), vs = [.int cell, .int k] ∧ ∀ (c : Nat) (H' : Hp), 0 < c → c < 10 ^ 30 → Same H H' → Q (.int (c : Int)) H'
end L2
namespace L2
open PySem PySem.Spec PyProof.Rows KM
theorem dt_strs {K : PySem.W.Frag} {H : Hp} : ∀ l : List Str, DtAll K H (l.map V.str) (l.map PyData.str)
  | [] => .nil
  | x :: r => .cons (.str x) (dt_strs r)
theorem depth_strs : ∀ l : List Str, PyData.depthAll (l.map PyData.str) ≤ 1
  | [] => by simp [PyData.depthAll]
  | x :: r => by
    have := depth_strs r
    simp only [List.map_cons, PyData.depthAll, PyData.depth]
    omega
theorem shaped_of {d : PyData} (h1 : PyData.canLay0 d = true) (h2 : PyData.depth d ≤ 64) : PySem.SeqAt.shaped d = true := by
  show (PyData.canLay0 d && decide (PyData.depth d ≤ 64)) = true
  rw [h1, decide_eq_true h2]; rfl
noncomputable def SeesAt (H : Hp) (f : Addr) (n : Str) (l : List Str) : Prop := ∃ p, H f = some (.tup [.str "sees", .str n, .ref p]) ∧ H p = some (.tup (l.map V.str))
noncomputable def HatAt (H : Hp) (f : Addr) (n : Str) (c : Int) : Prop := H f = some (.tup [.str "hat", .str n, .int c])
noncomputable abbrev cntT (c : Nat) : Str := Str.ofString (toString ((c : Nat) : Int))
structure Lst (l : List Str) : Prop where
  two : 2 ≤ l.length
  few : l.length ≤ 40
  nd : l.Nodup
  nm : ∀ x ∈ l, nameB x = true
theorem join_len (c : Nat) : ∀ l : List Str, (Str.join ⟨#[c]⟩ l).length ≤ (l.map fun z => z.length + 1).sum
  | [] => by show (0 : Nat) ≤ _; omega
  | [x] => by show x.length ≤ (x.length + 1) + 0; omega
  | x :: y :: r => by
    have ih := join_len c (y :: r)
    have e : (Str.join ⟨#[c]⟩ (x :: y :: r)).length = x.length + 1 + (Str.join ⟨#[c]⟩ (y :: r)).length := by
      rw [cz_length, cz_join2, List.length_append, List.length_append, ← cz_length, ← cz_length]; rfl
    rw [e, List.map_cons, List.sum_cons]
    omega
theorem sum_le (b : Nat) : ∀ l : List Str, (∀ x ∈ l, x.length ≤ b) → (l.map fun z => z.length + 1).sum ≤ l.length * (b + 1)
  | [], _ => by simp
  | x :: r, h => by
    have ih := sum_le b r fun x hx => h x (List.mem_cons_of_mem _ hx)
    have := h x List.mem_cons_self
    rw [List.map_cons, List.sum_cons, List.length_cons, Nat.add_mul]
    omega
theorem count_len {x : Str} (h : countB x = true) : x.length ≤ 30 := by
  unfold countB at h
  rw [Bool.and_eq_true] at h
  exact (of_decide_eq_true h.1).2
theorem hat_parts {n : Str} {c : Nat} (hn : nameB n = true) (h0 : 0 < c) (h30 : c < 10 ^ 30) : ∀ x ∈ [Str.ofString "hat", n, cntT c], 32 ∉ cz x ∧ 10 ∉ cz x ∧ x.length ≤ 30 := by
  intro x hx
  have h1 : 32 ∉ cz (Str.ofString "hat") ∧ 10 ∉ cz (Str.ofString "hat") ∧ (Str.ofString "hat").length ≤ 30 := by decide +kernel
  have h2 := nameB_free hn
  have h3 := (count_text h0 h30).1
  rcases List.mem_cons.mp hx with rfl | hx
  · exact h1
  rcases List.mem_cons.mp hx with rfl | hx
  · exact ⟨h2.1, h2.2, Nat.le_trans (low_of hn).2.2 (by decide)⟩
  rw [List.mem_singleton.mp hx]
  exact ⟨(countB_free h3).1, (countB_free h3).2, count_len h3⟩
theorem sees_parts {l : List Str} (h : ∀ x ∈ l, nameB x = true) : ∀ x ∈ (Str.ofString "sees" :: l), 32 ∉ cz x ∧ 10 ∉ cz x ∧ x.length ≤ 30 := by
  intro x hx
  have h1 : 32 ∉ cz (Str.ofString "sees") ∧ 10 ∉ cz (Str.ofString "sees") ∧ (Str.ofString "sees").length ≤ 30 := by decide +kernel
  rcases List.mem_cons.mp hx with rfl | hx
  · exact h1
  · exact ⟨(nameB_free (h x hx)).1, (nameB_free (h x hx)).2, Nat.le_trans (low_of (h x hx)).2.2 (by decide)⟩
theorem hat_text (n c : Str) : (((Str.ofString "hat " ++ n) ++ Str.ofString " ") ++ c) = Str.join ⟨#[32]⟩ [Str.ofString "hat", n, c] := by
  apply str_ext
  rw [cz_append, cz_append, cz_append, cz_join2, cz_join2, show cz (Str.ofString "hat ") = cz (Str.ofString "hat") ++ [32] by decide +kernel, show cz (Str.ofString " ") = [32] by decide +kernel]
  show _ = cz (Str.ofString "hat") ++ [32] ++ (cz n ++ [32] ++ cz c)
  simp only [List.append_assoc]
noncomputable def zxW : List Str := (List.range 12).map fun i => (⟨#[((Str.ofString "abcdefghijkl").cps[i]?).getD 0]⟩ : Str) ++ Str.ofString "zx"
theorem zxW_ok : ∀ x ∈ zxW, nameB x = true := by decide +kernel
theorem zx_size : (Str.ofString "abcdefghijkl").cps.size = 12 := by decide +kernel
end L2
namespace L2
open PySem PySem.Spec PyProof.Rows KM
section
variable {prog : Program} {w : World} {A : Around} {E : Value → Shared → Prop} {s : Shared} {κ : Type} [DecidableEq κ] {knd : KeyKind prog w κ}
theorem dictAt_of {h : Heap} {a : Addr} {kvs : List (κ × Value)} (x : h.DictOf knd a kvs) : ∃ ep, h.DictAt knd a kvs ep := by
  obtain ⟨o, es, ep, r⟩ := x
  exact ⟨ep, o, es, r⟩
theorem code_tuple_new_dict {d : Addr} {kvs : List (κ × Value)} {ep : Nat} {Q₁ : Value → Shared → Prop} (lo : (d == sysModules) = false) (hh : A.handled = none) (hd : s.heap.DictAt knd d kvs ep) (hn : kvs.length ≤ sizeLine)
    (h : ∀ (h' : Heap) (tk : Nat) (acc : Array Value), (∀ b o, s.heap.get? b = some o → h'.get? b = some o) → ItemsOf (fun i v => ∃ k x, kvs[i]? = some (k, x) ∧ knd.is k v = true) acc kvs.length → Q₁ (.ref h'.objs.size) { s with heap := h'.push { cls := .type "tuple", data := .seq acc }, toks := tk }) :
    codeAny (model prog w) A (.call (.builtin "tuple.__new__") ⟨[.type "tuple", .ref d], []⟩) (wants Q₁ E) s := by
  refine codeAny_of_tree ?_
  show wpAny _ A.in1 (do checkBuiltinCall "tuple.__new__" ⟨[.type "tuple", .ref d], []⟩; again (.builtin "tuple.__new__" ⟨[.type "tuple", .ref d], []⟩)) _ _ s
  refine wpAny_bind (wpAny_of_eq (F.newCall_tuple_1 _) (wpAny_pure ⟨plainId_quiet F.plain_tuple_new _, codeAny_builtin F.entry_tuple_new ?_⟩))
  rw [Around.under_plainId F.plain_tuple_new _]
  have hsub := sub_tuple_self
  have hinit := init_tuple_lookup
  have hmh := madeHere_tuple
  have hTI := hd.dictOf.typeIs
  wp_walk using wpAny_typeOf hTI, PySem.W.kdu_collect (A := A.in1) (PySem.W.kdl_dict (knd := knd) (ep := ep) lo) hh hd hn
  intro h' tk acc hm hacc
  show wpAny _ _ (Builtin.Tuple.tupleExact acc.toList.toArray >>= fun v => ret v) _ _ _
  unfold Builtin.Tuple.tupleExact
  refine wpAny_bind (wpAny_newObj_type ?_ (by show acc.toList.toArray.size ≤ sizeLine; simp only [Array.toArray_toList]; rw [hacc.1]; exact hn))
  refine wpAny_pure ?_
  have e : acc.toList.toArray = acc := by simp
  rw [e]
  exact h h' tk acc hm hacc
theorem call_tuple_dict {d : Addr} {kvs : List (κ × Value)} {ep : Nat} {Q : Value → Shared → Prop} (lo : (d == sysModules) = false) (hh : A.handled = none) (hd : s.heap.DictAt knd d kvs ep) (hn : kvs.length ≤ sizeLine)
    (h : ∀ (h' : Heap) (tk : Nat) (acc : Array Value), (∀ b o, s.heap.get? b = some o → h'.get? b = some o) → ItemsOf (fun i v => ∃ k x, kvs[i]? = some (k, x) ∧ knd.is k v = true) acc kvs.length → Q (.ref h'.objs.size) { s with heap := h'.push { cls := .type "tuple", data := .seq acc }, toks := tk }) :
    wpAny (model prog w) A (call (.type "tuple") [.ref d]) Q E s := by
  refine callType_codes (Q₁ := fun obj s₁ => s₁.TypeIs obj "tuple" ∧ Q obj s₁) F.called_tuple (F.typeCall_tuple_1 _) F.entry_object_init
    (code_tuple_new_dict lo hh hd hn fun h' tk acc hm hacc => ⟨⟨_, Heap.get?_push_size _ rfl, rfl⟩, h h' tk acc hm hacc⟩) fun obj s₁ h₁ => ?_
  exact ⟨h₁.1, F.args_object_init_2 obj _, object_init_meets F.called_tuple.init.lookup F.called_tuple.made (by decide) prog w A.in1 _ s₁ ⟨h₁.1, rfl, h₁.2⟩⟩
end
section
variable {X : Cx} {o i value : Expr} {pos pos' : Pos} {td ty tv : TE}
theorem kdget (hu : X.A.units + 1 < cLine) (ho : QE X o td) (hi : QE X i ty) (hs : NoSl i := by intro _ _; rfl) : QE X (.Subscript o i pos) (tDGet td ty) := ⟨pe_dget hu ho.h hi.h hs⟩
noncomputable def rLenD : List V → Hp → VK → Prop := fun xs H Q => ∃ a kvs, xs = [.ref a] ∧ H a = some (.dK kvs) ∧ Q (.int kvs.length) H
theorem call_lenD : CallR X (.builtin "len") rLenD := by
  intro pins s σ H xs us Q I r h
  obtain ⟨a, kvs, rfl, e, q⟩ := h
  obtain ⟨u, rfl, rx⟩ := vals1 r
  cases rx
  exact d_len I (.inl e) fun t s' I' => ⟨.int kvs.length, H, I', ⟨_, rfl⟩, q⟩
noncomputable def rTupD : List V → Hp → VK → Prop := fun xs H Q => ∃ a kvs, xs = [.ref a] ∧ H a = some (.dK kvs) ∧ ∀ l, H l = none → Q (.ref l) (upd H l (.tup (kvs.map fun p => kV p.1)))
theorem is_int {P : Program} {w : World} {i : Int} {u : Value} (h : (mixKind P w).is (Sum.inl i) u = true) : RelV (.int i) u := by
  rcases keyIs_shape (show keyIs (Sum.inl i) u = true from h) with ⟨j, t, e, rfl⟩ | ⟨x, t, e, rfl⟩
  · cases e; exact ⟨t, rfl⟩
  · cases e
theorem is_str {P : Program} {w : World} {x : Str} {u : Value} (h : (mixKind P w).is (Sum.inr x) u = true) : RelV (.str x) u := by
  rcases keyIs_shape (show keyIs (Sum.inr x) u = true from h) with ⟨j, t, e, rfl⟩ | ⟨y, t, e, rfl⟩
  · cases e
  · cases e; exact ⟨t, rfl⟩
theorem paired_of {α β : Type} {F : α → β → Prop} : ∀ {l₁ : List α} {l₂ : List β}, l₁.length = l₂.length → (∀ (i : Nat) a b, l₁[i]? = some a → l₂[i]? = some b → F a b) → Paired F l₁ l₂
  | [], [], _, _ => .nil
  | a :: l₁, b :: l₂, e, h => .cons (h 0 a b rfl rfl) (paired_of (Nat.succ.inj e) fun i a b h1 h2 => h (i + 1) a b h1 h2)
theorem key_val {P : Program} {w : World} {k : Key} {u : Value} (h : (mixKind P w).is k u = true) : RelV (kV k) u := by
  cases k with
  | inl i => exact is_int h
  | inr x => exact is_str h
theorem keys_vals {P : Program} {w : World} {kvs : List (Key × V)} {vs : List (Key × Value)} {acc : Array Value} (rel : KV kvs vs) (h : ItemsOf (fun i v => ∃ k x, vs[i]? = some (k, x) ∧ (mixKind P w).is k v = true) acc vs.length) : Vals (kvs.map fun p => kV p.1) acc.toList := by
  have hk := rel.keys
  have hl := rel.length
  refine paired_of (by rw [List.length_map, hl, ← h.1]; exact (Array.length_toList (xs := acc)).symm) fun i a b h1 h2 => ?_
  obtain ⟨k, x, e, hi⟩ := h.2 i b (by rw [← Array.getElem?_toList]; exact h2)
  rw [List.getElem?_map] at h1
  obtain ⟨p, hp, rfl⟩ := Option.map_eq_some_iff.mp h1
  have e1 : (kvs.map (·.1))[i]? = some p.1 := by rw [List.getElem?_map, hp]; rfl
  have e2 : (vs.map (·.1))[i]? = some k := by rw [List.getElem?_map, e]; rfl
  rw [hk, e2] at e1
  cases e1
  exact key_val hi
theorem call_tupD (hc : X.calm = true) : CallR X (.type "tuple") rTupD := by
  intro pins s σ H xs us Q I r h
  obtain ⟨a, kvs, rfl, e, q⟩ := h
  obtain ⟨u, rfl, rx⟩ := vals1 r
  cases rx
  obtain ⟨z, hd, vs, rel, dd⟩ := dk_of I.hok e
  obtain ⟨ep, dd⟩ := dictAt_of dd
  refine call_tuple_dict hd (I.ok.hd hc) dd (by rw [← rel.length]; exact z) fun h' tk acc hk hacc => ?_
  have I1 : Inv X pins σ H { s with heap := h', toks := tk } := I.kept (t' := tk) hk
  have hv : Vals (kvs.map fun p => kV p.1) acc.toList := keys_vals rel hacc
  exact ⟨.ref _, _, I1.laid (t' := tk) (fun b o eb => Heap.get?_push_of_some _ eb) (Nat.le_refl _) (show ObjOk X.prog X.w _ _ _ (.tup _) from ⟨by rw [List.length_map]; exact z, acc.toList, hv, ⟨_, Heap.get?_push_size _ rfl, rfl, 0, by simp⟩⟩), rfl, q _ (I1.hok.fresh (Nat.le_refl _))⟩
end
section
variable {σ : St} {H : Hp} {Q : VK} {td ty : TE}
theorem q_DGet : tDGet td ty σ H Q = td σ H fun x H1 => ty σ H1 fun y H2 => ∃ a v, x = .ref a ∧ DGet H2 a y (some v) ∧ Q v H2 := rfl
end
end L2
namespace L2
open PySem PySem.Spec PyProof.Rows KM
noncomputable def IteL (K : PySem.W.Frag) (a : Addr) : It :=
  ⟨fun i H => ∃ xs x, SqL K H a xs ∧ xs[i]? = some x, fun i H x H' => ∃ p v, H p = none ∧ x = .ref p ∧ H' = upd H p (.tup [.int i, v]) ∧ ∀ xs, SqL K H a xs → xs[i]? = some v, fun i H => ∃ xs, SqL K H a xs ∧ xs.length = i⟩
theorem turn_enumL {P : Program} {w : World} {K : PySem.W.Frag} {elts : List Expr} {x1 : Nat} {pos : Pos} (a e it : Addr) (hei : e ≠ it) : Turn P w K (.Tuple elts x1 pos) (IteL K a) [e, it] e (fun i h => (∃ old, IsEnum h e it i old) ∧ h.IsListIter it a i) where
  mem := by simp
  obj := fun i h st b hb => by
    obtain ⟨⟨old, he⟩, o, eo, c, d⟩ := st
    rcases List.mem_cons.mp hb with rfl | hb
    · exact ⟨_, he, fun v z => by cases z⟩
    · have : b = it := by simpa using hb
      subst this
      exact ⟨o, eo, fun v z => by rw [d] at z; cases z⟩
  keep := fun i h h' st k => by
    obtain ⟨⟨old, he⟩, st⟩ := st
    exact ⟨⟨old, k e (by simp) _ he⟩, st.at fun o q => k it (by simp) o q⟩
  item := by
    intro X hP hw hK hc i pins s σ H E I hf st hg
    subst hP hw hK
    obtain ⟨xs, x, hq, hx⟩ := hg
    obtain ⟨its, rv, p0, hz⟩ := I.list hq
    have p := p0.isList
    obtain ⟨u, hu, ru⟩ := rv.get hx
    obtain ⟨⟨old, he⟩, si⟩ := st
    have hai : a ≠ it := fun z => by
      subst z
      obtain ⟨o1, q1, c1, _⟩ := p
      obtain ⟨o2, q2, c2, _⟩ := si
      rw [q1] at q2; cases q2
      rw [c1] at c2
      exact absurd c2 (by decide)
    have hae : a ≠ e := fun z => by
      subst z
      obtain ⟨o1, q1, c1, _⟩ := p
      have he : s.heap.get? a = some _ := he
      rw [q1] at he; cases he
      exact absurd (show Value.type "enumerate" = Value.type "list" from c1) (by decide)
    have hil : i < its.toArray.size := by
      rw [List.size_toArray]
      exact (List.getElem?_eq_some_iff.mp hu).1
    refine wpAny_pyNext_enum_itemD (Draws.list (by simpa using I.ok.hd hc) it a hai its.toArray) he ⟨si, show s.heap.IsList a its.toArray from p⟩ hil hei (by simp only [List.mem_cons, List.not_mem_nil, or_false, not_or]; exact ⟨hei, Ne.symm hae⟩) fun v h1 tk hv ho st1 ht hsz hk => ?_
    refine ⟨_, rfl, wpAny_letOwnedTupleGo_enum ho fun h2 he2 hs2 => ?_⟩
    have hel : e < s.heap.objs.size := Heap.lt_size he
    have ev : v = u := by
      have hv' : its[i]? = some v := by simpa using hv
      rw [hu] at hv'; cases hv'; rfl
    subst ev
    refine ⟨.ref s.heap.objs.size, upd H s.heap.objs.size (.tup [.int i, x]), I.turnedNew (ch := [e, it]) (fun b o hb q => ?_) hf (Nat.le_refl _) (show ObjOk X.prog X.w _ h2 _ (.tup _) from ⟨by show 2 ≤ sizeLine; decide, [.int i tk, v], .cons ⟨_, rfl⟩ (.cons ru .nil), ?_⟩), rfl, ⟨_, x, I.fresh, rfl, rfl, fun ys hy => by rw [I.list_inj hy hq]; exact hx⟩, ⟨⟨v, ?_⟩, ?_⟩, fun b hb => ?_⟩
    · simp only [List.mem_cons, List.not_mem_nil, or_false, not_or] at hb
      exact (hs2.2 b hb.1).trans (hk b o hb.1 hb.2 q)
    · exact ⟨_, (hs2.2 _ (Nat.ne_of_gt hel)).trans ht, rfl, _, rfl⟩
    · have := he2
      rw [show ((i : Int) + 1) = ((i + 1 : Nat) : Int) by omega] at this
      exact this
    · exact st1.1.at fun o q => (hs2.2 it (Ne.symm hei)).trans q
    · rw [upd_ne (fun z => ?_)]
      · exact (hf b hb).1
      · obtain ⟨_, si2, _⟩ := si
        rcases List.mem_cons.mp hb with rfl | hb
        · exact absurd z (Nat.ne_of_lt hel)
        · have : b = it := by simpa using hb
          subst this
          exact absurd z (Nat.ne_of_lt (Heap.lt_size si2))
  done := by
    intro X hP hw hK hc i pins s σ H E I hf st hg
    subst hP hw hK
    obtain ⟨xs, hq, hx⟩ := hg
    obtain ⟨its, rv, p0, hz⟩ := I.list hq
    have p := p0.isList
    obtain ⟨⟨old, he⟩, si⟩ := st
    have hai : a ≠ it := fun z => by
      subst z
      obtain ⟨o1, q1, c1, _⟩ := p
      obtain ⟨o2, q2, c2, _⟩ := si
      rw [q1] at q2; cases q2
      rw [c1] at c2
      exact absurd c2 (by decide)
    have hl := rv.length
    have hT : s.TypeIs (.ref e) "enumerate" := ⟨_, he, rfl⟩
    unfold pyNext
    refine wpAny_bind (wpAny_attempt (wpAny_callSpecial?_slot (name := Str.ofString "__next__") hT F.slot_enumerate_next (wpAny_call_entry F.slot_enumerate_next hT F.entry_enumerate_next ?_ (F.args_enumerate_next_1 _))))
    refine wpAny_bind (m := field (.ref e) 2) (wpAny_field he rfl (x := .ref it) rfl (wpAny_bind ((Draws.list (by simpa using I.ok.hd hc) it a hai its.toArray).done _ _ _ ⟨by rw [List.size_toArray, ← hl, hx]; exact si, p⟩ fun h' x eb hx' => ?_)))
    obtain ⟨o, q, c⟩ := hx'
    refine wpAny_bind (wpAny_isInstance (T := "StopIteration") (b := true) ⟨o, q, c⟩ isSubtype_stop ?_)
    obtain ⟨f0, f1, f2, f3, f4, f5⟩ := hf it (by simp)
    exact wpAny_pure ⟨rfl, I.turned (t' := s.toks) (fun b o hb z => eb b o hb z) f0 f1 f3 f4 f5⟩
  self := fun _ _ _ _ _ st h => by
    obtain ⟨⟨old, he⟩, _⟩ := st
    exact wpAny_pyIter_enum he h
noncomputable def iEnL (K : PySem.W.Frag) (ta : TA) : TI := fun σ H R => ta σ H fun vs H1 => ∃ a, vs = [.ref a] ∧ (∃ xs, SqL K H1 a xs) ∧ R (IteL K a) H1
section
variable {X : Cx} {N W G : List Str} {K : PySem.W.Frag} {e : Expr} {t : TA} {p pos tpos : Pos} {elts : List Expr} {x1 : Nat}
theorem pi_enL (S : Sc X N W G) (g : Nat) (hm : X.mg "enumerate" = none) (hK : X.K = K) (ha : PB X [e] t) (hg : G[g]? = some "enumerate" := by rfl) : PI X (.Tuple elts x1 tpos) (.Call (.Name "enumerate" p) [e] [] pos) (iEnL K t) := by
  subst hK
  intro pins s σ H R I h
  have q := S.gl _ (List.mem_of_getElem? hg)
  refine Call_ (ld_blt I q.1 hm boot_enumerate (PyProof.Rows.callWith_type1 (thn (ha.pa pos pins s σ H _ I h) fun us s1 ⟨vs, H1, I1, r1, q1⟩ => ?_) (star_cons ha.he) rfl))
  obtain ⟨a, rfl, ⟨xs, hq⟩, q⟩ := q1
  obtain ⟨u, rfl, rx⟩ := vals1 r1
  cases rx
  obtain ⟨its, rv, pl, hz⟩ := I1.list hq
  refine call_enumerate_list pl.isList fun h' k1 k2 _ k3 => ?_
  have hei : s1.heap.objs.size + 1 ≠ s1.heap.objs.size := Nat.succ_ne_self _
  refine wpAny_pyIter_enum k1 ?_
  refine ⟨s1.heap.objs.size + 1, [s1.heap.objs.size + 1, s1.heap.objs.size], _, _, H1, rfl, I1.kept (t' := s1.toks) k3, turn_enumL a _ _ hei, ⟨⟨_, k1⟩, k2⟩, fun b hb => ?_, q⟩
  have hb2 : s1.heap.objs.size ≤ b := by
    rcases List.mem_cons.mp hb with rfl | hb
    · exact Nat.le_succ _
    · have : b = s1.heap.objs.size := by simpa using hb
      rw [this]; exact Nat.le_refl _
  exact I1.fpOk hb2 (I1.hok.fresh hb2)
theorem ienL (S : Sc X N W G) (g : Nat) (hm : X.mg "enumerate" = none) (hK : X.K = K) (ha : QB X [e] t) (hg : G[g]? = some "enumerate" := by rfl) : QI X (.Tuple elts x1 tpos) (.Call (.Name "enumerate" p) [e] [] pos) (iEnL K t) := ⟨pi_enL S g hm hK ha.h hg⟩
theorem q_iEnL {K : PySem.W.Frag} {ta : TA} {σ : St} {H : Hp} {R : It → Hp → Prop} : iEnL K ta σ H R = ta σ H fun vs H1 => ∃ a, vs = [.ref a] ∧ (∃ xs, SqL K H1 a xs) ∧ R (IteL K a) H1 := rfl
end
theorem forEL {K : PySem.W.Frag} {a : Addr} {us : List V} {i j : Nat} {tb : TS} {D : Ends} {σ : St} {H : Hp} (I : Nat → St → Hp → Prop) (h : SqL K H a us) (h0 : I 0 σ H) (hl : ∀ i σ H, I i σ H → SqL K H a us)
    (step : ∀ k v σ H H2, us[k]? = some v → I k σ H → Same H H2 → tb { D with nx := I (k + 1), ct := I (k + 1), bk := D.nx } ((σ.set i (some (.int k))).set j (some v)) H2)
    (fin : ∀ σ H, I us.length σ H → D.nx σ H) : ∃ b, [V.ref a] = [.ref b] ∧ (∃ xs, SqL K H b xs) ∧ rFor (gTup K 2 (gCons (gName i) (gCons (gName j) gNil))) tb D σ (IteL K b) H := by
  refine ⟨a, rfl, ⟨_, h⟩, fun k m σ H => m = us.length - k ∧ k ≤ us.length ∧ I k σ H, ⟨us.length, by simp, Nat.zero_le _, h0⟩, ?_⟩
  rintro k m σ H ⟨rfl, hk, p⟩
  have q := hl k σ H p
  by_cases hlt : k < us.length
  · obtain ⟨v, hx⟩ : ∃ v, us[k]? = some v := ⟨_, List.getElem?_eq_getElem hlt⟩
    refine .inr ⟨⟨_, _, q, hx⟩, I (k + 1), fun σ' H' p' => ⟨us.length - (k + 1), by omega, rfl, hlt, p'⟩, fun x H' y => ?_⟩
    obtain ⟨t, v', hn, rfl, rfl, hv⟩ := y
    have := hv _ q
    rw [hx] at this; cases this
    refine ⟨t, [.int k, v], rfl, SqT.of upd_same, rfl, ?_⟩
    exact ⟨_, _, rfl, _, _, rfl, rfl, step k v σ H _ hx p (Same.new hn _)⟩
  · have e : k = us.length := by omega
    subst e
    exact .inl ⟨⟨_, q, rfl⟩, fin σ H p⟩
end L2
namespace L2
open PySem PySem.Spec PyProof.Rows KM
theorem tdin {X : Cx} {o i : Expr} {pos : Pos} {td ty : TE} (hu : X.A.units + 1 < cLine) (hi : QE X i ty) (ho : QE X o td) (hm : behindInMarks .In o = false) : QT X (.Compare i [.In] [o] pos) (tB (tDIn ty td)) := ⟨pt_cmp (pc_din hu hi.h ho.h) hm⟩
noncomputable def kvF : Nat → List Str → List (Key × V)
  | _, [] => []
  | k, x :: r => (Sum.inr x, .int (k : Int)) :: kvF (k + 1) r
theorem kvF_len : ∀ (k : Nat) (ns : List Str), (kvF k ns).length = ns.length
  | _, [] => rfl
  | k, x :: r => by rw [kvF, List.length_cons, kvF_len, List.length_cons]
theorem kvF_keys : ∀ (k : Nat) (ns : List Str), (kvF k ns).map (fun p => kV p.1) = ns.map V.str
  | _, [] => rfl
  | k, x :: r => by rw [kvF, List.map_cons, kvF_keys, List.map_cons]; rfl
theorem kvF_snoc : ∀ (k : Nat) (ns : List Str) (x : Str), kvF k (ns ++ [x]) = kvF k ns ++ [(Sum.inr x, .int ((k + ns.length : Nat) : Int))]
  | k, [], x => rfl
  | k, y :: r, x => by
    rw [List.cons_append, kvF, kvF_snoc, kvF, List.length_cons, show k + 1 + r.length = k + (r.length + 1) by omega]
    rfl
theorem kvF_val (x : Str) : ∀ (k : Nat) (ns : List Str), valV (kvF k ns) (Sum.inr x) = if x ∈ ns then some (.int ((k + ns.idxOf x : Nat) : Int)) else none
  | _, [] => rfl
  | k, y :: r => by
    rw [kvF]
    by_cases e : y = x
    · subst e
      rw [valV_pos rfl, if_pos List.mem_cons_self, List.idxOf_cons_self]
      rfl
    · rw [valV_neg (fun z => e (Sum.inr.inj z)), kvF_val x (k + 1) r]
      by_cases m : x ∈ r
      · have ei : List.idxOf x (y :: r) = List.idxOf x r + 1 := by
          rw [List.idxOf_cons, show (y == x) = false from beq_eq_false_iff_ne.mpr e]; rfl
        rw [if_pos m, if_pos (List.mem_cons_of_mem _ m), ei, show k + 1 + List.idxOf x r = k + (List.idxOf x r + 1) by omega]
      · rw [if_neg m, if_neg (fun z => (List.mem_cons.mp z).elim (fun z => e z.symm) m)]
noncomputable def DN (H : Hp) (d : Addr) (ns : List Str) : Prop := H d = some (.dK (kvF 0 ns))
theorem to_dnin {H : Hp} {Q : VK} {d : Addr} {ns : List Str} {x : Str} (h : DN H d ns) (q : Q (.bl (decide (x ∈ ns))) H) : ∃ a o, V.ref d = .ref a ∧ DGet H a (.str x) o ∧ Q (.bl o.isSome) H := by
  refine ⟨d, _, rfl, DGet.k (k := Sum.inr x) h, ?_⟩
  rw [kvF_val]
  by_cases m : x ∈ ns
  · rw [if_pos m]; rw [decide_eq_true m] at q; exact q
  · rw [if_neg m]; rw [decide_eq_false m] at q; exact q
theorem dn_in {H : Hp} {d : Addr} {ns : List Str} {x : Str} (h : DN H d ns) (m : x ∈ ns) : DGet H d (.str x) (some (.int (ns.idxOf x : Nat))) := by
  have := DGet.k (k := Sum.inr x) h
  rw [kvF_val, if_pos m, Nat.zero_add] at this
  exact this
theorem dn_out {H : Hp} {d : Addr} {ns : List Str} {x : Str} (h : DN H d ns) (m : x ∉ ns) : DGet H d (.str x) none := by
  have := DGet.k (k := Sum.inr x) h
  rw [kvF_val, if_neg m] at this
  exact this
theorem to_dnput {H : Hp} {Q : Hp → Prop} {d : Addr} {ns : List Str} {x : Str} {k : Int} (h : DN H d ns) (hk : k = (ns.length : Nat)) (m : x ∉ ns) (hl : ns.length < sizeLine) (q : Q (upd H d (.dK (kvF 0 (ns ++ [x]))))) : ∃ a H4, V.ref d = .ref a ∧ DPut H a (.str x) (.int k) H4 ∧ Q H4 := by
  subst hk
  refine ⟨d, _, rfl, DPut.k (k := Sum.inr x) h (by rw [kvF_len]; exact hl), ?_⟩
  rw [putK_new _ (by rw [kvF_val, if_neg m]), show ((ns.length : Nat) : Int) = ((0 + ns.length : Nat) : Int) by rw [Nat.zero_add], ← kvF_snoc]
  exact q
theorem to_dnlen {H : Hp} {Q : VK} {d : Addr} {ns : List Str} (h : DN H d ns) (q : Q (.int (ns.length : Nat)) H) : rLenD [.ref d] H Q := ⟨d, _, rfl, h, by rw [kvF_len]; exact q⟩
theorem to_dntup {H : Hp} {Q : VK} {d : Addr} {ns : List Str} (h : DN H d ns) (q : ∀ l, H l = none → Q (.ref l) (upd H l (.tup (ns.map V.str)))) : rTupD [.ref d] H Q := ⟨d, _, rfl, h, by rw [kvF_keys]; exact q⟩
inductive Ln where
  | hat (n : Str) (c : Nat)
  | sees (n : Str) (l : List Str)
noncomputable def lnW : Ln → List Str
  | .hat n c => [Str.ofString "hat", n, cntT c]
  | .sees n l => Str.ofString "sees" :: n :: l
noncomputable def lnT (x : Ln) : Str := Str.join ⟨#[32]⟩ (lnW x)
noncomputable def lnOk : Ln → Prop
  | .hat n c => nameB n = true ∧ 0 < c ∧ c < 10 ^ 30
  | .sees n l => Lst (n :: l)
noncomputable def maskL (ns l : List Str) : Nat := (l.map fun y => 2 ^ ns.idxOf y).sum
theorem map_rangeS {α : Type} (g : Str → α) (l : List Str) : ((List.range l.length).map fun i => g (l.getD i noS)) = l.map g := by
  apply List.ext_getElem?
  intro i
  by_cases hi : i < l.length
  · rw [List.getElem?_map, List.getElem?_range hi, List.getElem?_map, List.getElem?_eq_getElem hi]
    show some (g (l.getD i noS)) = some (g l[i])
    rw [List.getD_eq_getElem?_getD, List.getElem?_eq_getElem hi]; rfl
  · rw [List.getElem?_eq_none (by rw [List.length_map, List.length_range]; omega), List.getElem?_eq_none (by rw [List.length_map]; omega)]
theorem sum_castS {α : Type} (f : α → Nat) : ∀ l : List α, (l.map fun i => ((f i : Nat) : Int)).sum = ((l.map f).sum : Nat)
  | [] => rfl
  | x :: r => by rw [List.map_cons, List.sum_cons, sum_castS f r, List.map_cons, List.sum_cons]; rfl
theorem mask_sum (ns l : List Str) : ((List.range l.length).map fun i => ((2 ^ ns.idxOf (l.getD i noS) : Nat) : Int)).sum = (maskL ns l : Nat) := by
  rw [sum_castS (fun i => 2 ^ ns.idxOf (l.getD i noS)), map_rangeS (fun y => 2 ^ ns.idxOf y)]; rfl
theorem asI_setV (ws : List Nat) (i m : Nat) : ((asI ws).map V.int).set i (.int (m : Int)) = (asI (ws.set i m)).map V.int := by
  unfold asI
  rw [List.map_set, List.map_set]
theorem asI_snoc (ws : List Nat) (m : Nat) : (asI ws).map V.int ++ [.int (m : Int)] = (asI (ws ++ [m])).map V.int := by
  unfold asI
  rw [List.map_append, List.map_append]; rfl
theorem lnW_ok {x : Ln} (h : lnOk x) : (∀ y ∈ lnW x, 32 ∉ cz y ∧ 10 ∉ cz y ∧ y.length ≤ 30) ∧ (lnW x).length ≤ 41 ∧ 3 ≤ (lnW x).length := by
  cases x with
  | hat n c => exact ⟨hat_parts h.1 h.2.1 h.2.2, by show 3 ≤ 41; decide, Nat.le_refl 3⟩
  | sees n l => exact ⟨sees_parts h.nm, Nat.succ_le_succ h.few, Nat.succ_le_succ h.two⟩
theorem lnT_len {x : Ln} (h : lnOk x) : (lnT x).length ≤ 1271 := by
  have h1 := join_len 32 (lnW x)
  have h2 := sum_le 30 (lnW x) fun y hy => ((lnW_ok h).1 y hy).2.2
  have h3 := (lnW_ok h).2.1
  have h4 : (lnW x).length * 31 ≤ 41 * 31 := Nat.mul_le_mul_right _ h3
  unfold lnT
  omega
noncomputable def rowsS (z : Str) : List Str := if z = Str.ofString "" then [] else Txt.split z ⟨#[10]⟩
noncomputable def spRows : Sp := fun vs H Q _ => ∃ z : Str, vs = [.str z] ∧ z.length ≤ 1000000 ∧ (rowsS z).length ≤ 900 ∧ ∀ l H', Same H H' → H l = none → H' l = some (.lst ((rowsS z).map V.str)) → Q (.ref l) H'
end L2
namespace L2
open PySem PySem.Spec PyProof.Rows KM
section
variable {prog : Program} {w : World} {A : Around} {E : Value → Shared → Prop} {s : Shared}
theorem drawL {it t : Addr} {items : Array Value} (hne : t ≠ it) : ∀ (n i : Nat) (s : Shared) (Q : List Value → Shared → Prop), s.heap.IsListIter it t i → s.heap.IsList t items → i + n ≤ items.size →
    (∀ h', h'.IsListIter it t (i + n) → Heap.SameBut it s.heap h' → Q ((items.toList.drop i).take n) { s with heap := h' }) → wpAny (model prog w) A (draw (.ref it) n) Q E s
  | 0, i, s, Q, hit, _, _, hQ => by
    show wpAny _ _ (pure []) Q E s
    exact wpAny_pure (by simpa using hQ s.heap hit (Heap.SameBut.refl ..))
  | n + 1, i, s, Q, hit, ht, hle, hQ => by
    have hlt : i < items.size := by omega
    show wpAny _ _ (pyNext (.ref it) >>= _) Q E s
    refine wpAny_bind (wpAny_pyNext_list_item hit ht (x := items[i]) (by simp [hlt]) fun h₁ hit₁ hs₁ => ?_)
    refine wpAny_bind (wpAny_holding (drawL hne n (i + 1) _ _ hit₁ (ht.extBut hs₁.extBut hne) (by omega) fun h₂ hit₂ hs₂ => wpAny_pure ?_))
    have hd : items.toList.drop i = items[i] :: items.toList.drop (i + 1) := by simp [List.drop_eq_getElem_cons, hlt]
    have := hQ h₂ (by rw [show i + (n + 1) = i + 1 + n by omega]; exact hit₂) (hs₁.trans hs₂)
    rw [hd, List.take_succ_cons] at this
    exact this
theorem unpackItemsL {t : Addr} {items : Array Value} {Q : List Value → Shared → Prop} (hh : A.handled = none) (ht : s.heap.IsList t items)
    (hQ : ∀ h', Heap.ExtBut s.heap.objs.size s.heap h' → Q items.toList { s with heap := h' }) : wpAny (model prog w) A (unpackItems (.ref t) items.size none) Q E s := by
  have hlt : t ≠ s.heap.objs.size := by obtain ⟨o, ho, _⟩ := ht; exact Nat.ne_of_lt (Heap.lt_size ho)
  unfold unpackItems
  refine wpAny_bind ?_
  · unfold notIterableAtAll
    refine wpAny_bind (wpAny_specialOf ht.typeIs F.slot_list_iter.lookup ?_)
    refine wpAny_pure ?_
    simp only [Bool.false_eq_true, if_false]
    refine wpAny_bind (wpAny_holding (wpAny_pyIter_list ht ?_))
    refine wpAny_bind (wpAny_holding (drawL hlt items.size 0 _ _ ⟨_, Heap.get?_push_size _ rfl, rfl, rfl⟩ (ht.push _) (by omega) fun h₁ hit₁ hs₁ => ?_))
    have hall : List.take items.size (List.drop 0 items.toList) = items.toList := by
      rw [List.drop_zero]; exact List.take_of_length_le (by simp)
    rw [hall]
    rw [if_neg (by simp)]
    have ht₁ : h₁.IsList t items := (ht.push _).extBut hs₁.extBut hlt
    refine wpAny_bind (wpAny_holding (wpAny_pyNext_list_end hh hit₁ ht₁ (by simp) fun h₂ he₂ => ?_))
    simp only [Option.isSome_none, Bool.false_eq_true, if_false]
    refine wpAny_pure (hQ h₂ fun b o hb e => he₂ b o hb (hs₁.extBut b o hb (Heap.get?_push_of_some _ e)))
theorem assignL {env : Env} {elts : List Expr} {x1} {pos : Pos} {t : Addr} {items : Array Value} {Q : Unit → Shared → Prop} (hh : A.handled = none) (ht : s.heap.IsList t items)
    (hn : (assignEach elts env).length = items.size) (hstar : (assignEach elts env).findIdx? (·.1) = none)
    (h : ∀ h', Heap.ExtBut s.heap.objs.size s.heap h' → wpAny (model prog w) A (assignInOrder ((assignEach elts env).map (·.2)) items.toList) Q E { s with heap := h' }) :
    wpAny (model prog w) A (assign (.Tuple elts x1 pos) env (.ref t)) Q E s := by
  rw [assign_Tuple]
  refine wpAny_bind (wpAny_standAt ?_)
  unfold unpack
  rw [hn, hstar]
  exact wpAny_bind (wpAny_holding (unpackItemsL hh ht h))
end
section
variable {X : Cx} {K : PySem.W.Frag} {pos : Pos}
noncomputable def gLst (K : PySem.W.Frag) (n : Nat) (t : TGs) : TG := fun v σ H Q => ∃ a xs, v = .ref a ∧ SqL K H a xs ∧ xs.length = n ∧ t xs σ H Q
theorem pg_lst {es : List Expr} {k : Nat} {t : TGs} {n : Nat} (hc : X.calm = true) (h : PGs X es t)
    (hn : (assignEach es X.env).length = n := by rfl) (hst : (assignEach es X.env).findIdx? (·.1) = none := by rfl) : PG X (.Tuple es k pos) (gLst X.K n t) := by
  intro pins s σ H v u Q I r hw
  obtain ⟨a, xs, e1, hq, hl, hw⟩ := hw
  subst e1
  cases r
  obtain ⟨its, rv, ht, hz⟩ := I.list hq
  refine assignL (I.ok.hd hc) ht.isList (by simp [hn, ← hl, rv.length]) hst fun h' hx => ?_
  have I1 : Inv X pins σ H { s with heap := h' } := I.kept (t' := s.toks) fun b o e => hx b o (Nat.ne_of_lt (Heap.lt_size e)) e
  exact h pins _ σ H xs _ Q I1 (by simpa using rv) hw
theorem glst {es : List Expr} {kk : Nat} {tgs : TGs} {n : Nat} (hc : X.calm = true) (hK : X.K = K) (h : QGs X es tgs) (hn : (assignEach es X.env).length = n := by rfl) (hst : (assignEach es X.env).findIdx? (·.1) = none := by rfl) : QG X (.Tuple es kk pos) (gLst K n tgs) := ⟨by subst hK; exact pg_lst hc h.h hn hst⟩
end
theorem q_gLst {K : PySem.W.Frag} {n : Nat} {t : TGs} {v : V} {σ : St} {H : Hp} {Q : St → Hp → Prop} : gLst K n t v σ H Q = ∃ a xs, v = .ref a ∧ SqL K H a xs ∧ xs.length = n ∧ t xs σ H Q := rfl
noncomputable def insAt {α : Type} (l : List α) (k : Nat) (x : α) : List α := l.take k ++ x :: l.drop k
noncomputable def rInsert : V → List V → Hp → VK → Prop := fun x vs H Q => ∃ (l : Addr) (xs : List V) (k : Nat) (y : V), x = .ref l ∧ vs = [.int (k : Int), y] ∧ H l = some (.lst xs) ∧ xs.length < 1000000 ∧ k ≤ xs.length ∧ Q .non (upd H l (.lst (insAt xs k y)))
section
variable {X : Cx}
theorem valsTwo {x y : V} {us : List Value} (r : Vals [x, y] us) : ∃ u v, us = [u, v] ∧ RelV x u ∧ RelV y v := by
  cases r with
  | cons a r => cases r with
    | cons b r => cases r; exact ⟨_, _, rfl, a, b⟩
theorem fits_nat {k : Nat} (h : k ≤ 1000000) : ¬(!Builtin.List.listFitsIndex (k : Int)) = true := by
  have : Builtin.List.listFitsIndex (k : Int) = true := by
    unfold Builtin.List.listFitsIndex
    rw [Bool.and_eq_true]
    have e63 : (2 : Int) ^ 63 = 9223372036854775808 := by decide
    exact ⟨decide_eq_true (by rw [e63]; omega), decide_eq_true (by rw [e63]; omega)⟩
  rw [this]; decide
theorem pairIns {α β : Type} {F : α → β → Prop} {a : α} {b : β} : ∀ {l₁ : List α} {l₂ : List β} (k : Nat), Paired F l₁ l₂ → F a b → Paired F (insAt l₁ k a) (insAt l₂ k b)
  | _, _, 0, r, h => .cons h r
  | [], _, k + 1, .nil, h => .cons h .nil
  | _ :: _, _ :: _, k + 1, .cons c r, h => .cons c (pairIns k r h)
theorem mt_insert : MtM X "list.insert" rInsert := by
  intro pins s σ H x vs v us Q I rx rv h
  obtain ⟨l, xs, k, y, rfl, rfl, hH, hz, hk, q⟩ := h
  cases rx
  obtain ⟨u, w, rfl, ⟨t, rfl⟩, rw'⟩ := valsTwo rv
  obtain ⟨z, its, n, r, hl, e⟩ := I.lstM hH
  have hlen := r.length
  have hsl : (1000002 : Nat) ≤ sizeLine := by decide
  have hss : its.toArray.size ≤ sizeLine := by rw [List.size_toArray]; omega
  have hfit := fits_nat (k := k) (by omega)
  generalize hkk : (k : Int) = ki at hfit ⊢
  have M := PySem.AutoSeq1.list_insert_list_int_val_1 l its.toArray n ki t w hfit hss
  refine call_meets F.slot_list_insert ⟨_, e, rfl⟩ F.entry_list_insert (F.args_list_insert_3 _ _ _) M ⟨e, ?_⟩
  refine ⟨.non, _, I.lset (its' := insAt its k w) hH e ?_ (pairIns k r rw') ?_, rfl, q⟩
  · subst hkk
    show (its.toArray.extract 0 (if (k : Int) < 0 then ((k : Int) + (its.toArray.size : Int)).toNat else min (k : Int).toNat its.toArray.size)).push w ++ its.toArray.extract (if (k : Int) < 0 then ((k : Int) + (its.toArray.size : Int)).toNat else min (k : Int).toNat its.toArray.size) = _
    rw [if_neg (by omega), Int.toNat_natCast, List.size_toArray, Nat.min_eq_left (by omega)]
    apply Array.toList_inj.mp
    simp [insAt]
    exact List.take_of_length_le (by rw [List.length_drop]; omega)
  · unfold insAt
    rw [List.length_append, List.length_cons, List.length_take, List.length_drop]
    omega
noncomputable def isStr (k : Str) : Value → Bool
  | .str x _ => x == k
  | _ => false
theorem isStr_at (k : Str) : ∀ {xs : List Str} {vs : List Value}, Vals (xs.map V.str) vs → ∀ (j : Nat) (h1 : j < vs.length) (h2 : j < xs.length), isStr k vs[j] = (xs[j] == k)
  | x :: xs, _, .cons ⟨t, rfl⟩ r, 0, _, _ => rfl
  | x :: xs, _, .cons ⟨t, rfl⟩ r, j + 1, h1, h2 => isStr_at k r j (Nat.lt_of_succ_lt_succ h1) (Nat.lt_of_succ_lt_succ h2)
theorem isStr_eq (k : Str) (t : Tok) {A : Around} {s : Shared} : ∀ {xs : List Str} {vs : List Value}, Vals (xs.map V.str) vs → ∀ y, y ∈ vs → PySem.SeqAt.EqAt A s y (.str k t) (isStr k y)
  | [], _, .nil, _, hy => nomatch hy
  | x :: xs, _, .cons ⟨u, rfl⟩ r, y, hy => by
    rcases List.mem_cons.mp hy with rfl | hy
    · exact PySem.SeqAt.EqAt.str_str x u k t
    · exact isStr_eq k t r y hy
theorem ne_idxS {k : Str} {ns : List Str} {j : Nat} (h : j < ns.idxOf k) (h2 : j < ns.length) : (ns[j] == k) = false := by
  have := List.not_of_lt_findIdx (p := (· == k)) h
  simpa using this
noncomputable def rIndexS (K : PySem.W.Frag) : V → List V → Hp → VK → Prop := fun x vs H Q => ∃ (l : Addr) (ns : List Str) (k : Str), x = .ref l ∧ vs = [.str k] ∧ SqL K H l (ns.map V.str) ∧ k ∈ ns ∧ Q (.int (ns.idxOf k : Nat)) H
theorem mt_indexS {K : PySem.W.Frag} (hK : X.K = K) : MtR X "list.index" (rIndexS K) := by
  subst hK
  intro pins s σ H x vs v us Q I rx rv h
  obtain ⟨l, ns, k, rfl, rfl, hl, hk, q⟩ := h
  cases rx
  obtain ⟨u, rfl, ru⟩ := rv.one
  obtain ⟨t, rfl⟩ := ru
  obtain ⟨its, r, pl, hz⟩ := I.list hl
  obtain ⟨⟨cls, dd, data, sl⟩, e0, ec, n, ed⟩ := id pl.isList
  simp only at ec ed
  subst ec ed
  have hlen := r.length
  rw [List.length_map] at hlen
  have hlt : ns.idxOf k < ns.length := List.idxOf_lt_length_iff.mpr hk
  rw [List.length_map] at hz
  have hbig : sizeLine < 2 ^ 62 := by decide
  refine call_meets PySem.F.slot_list_index ⟨_, e0, rfl⟩ PySem.F.entry_list_index (PySem.F.args_list_index_2 _ _) (PySem.SeqAt.list_indexAt l its.toArray n dd sl (.str k t) (isStr k) (ns.idxOf k) (by rw [List.size_toArray, ← hlen]; exact hlt) (by omega) ?a ?b) ⟨e0, fun y hy => isStr_eq k t r y (by simpa using hy), ?_⟩
  case a =>
    have z := isStr_at k r (ns.idxOf k) (by rw [← hlen]; exact hlt) hlt
    rw [List.getElem_idxOf hlt, beq_self_eq_true] at z
    exact z
  case b =>
    intro j hj hjl
    have z := isStr_at k r j (by simpa using hj) (by omega)
    rw [ne_idxS hjl] at z
    exact z
  exact ⟨.int _, H, I.tok _, ⟨_, rfl⟩, q⟩
end
end L2
namespace L2
open PySem PySem.Spec PyProof.Rows KM
noncomputable def clrB (m k : Nat) : Nat := m - m / 2 ^ k % 2 * 2 ^ k
theorem clr_sub (m k : Nat) : m / 2 ^ k % 2 * 2 ^ k ≤ m := Nat.le_trans (Nat.mul_le_mul_right _ (Nat.mod_le _ _)) (Nat.div_mul_le_self _ _)
theorem clr_le (m k : Nat) : clrB m k ≤ m := Nat.sub_le _ _
theorem clr_bit (m k : Nat) : clrB m k / 2 ^ k % 2 = 0 := by
  have hp : 0 < 2 ^ k := Nat.pow_pos (by decide)
  have h : clrB m k / 2 ^ k = m / 2 ^ k - m / 2 ^ k % 2 := by
    unfold clrB
    rw [Nat.mul_comm (m / 2 ^ k % 2)]
    exact Nat.sub_mul_div_of_le _ _ _ (by rw [Nat.mul_comm]; exact clr_sub m k)
  rw [h]
  omega
structure Ppl (ns : List Str) (cs ws : List Nat) : Prop where
  nm : Nms ns 8
  lc : cs.length = ns.length
  lw : ws.length = ns.length
  cok : ∀ c ∈ cs, 0 < c ∧ c < 10 ^ 30
  wlt : ∀ j, j < ns.length → ws.getD j 0 < 2 ^ ns.length
  wself : ∀ j, j < ns.length → ws.getD j 0 / 2 ^ j % 2 = 0
noncomputable def PplAt (H : Hp) (b : Addr) (ns : List Str) (cs ws : List Nat) : Prop := ∃ a1 a2 a3, H b = some (.lst [.ref a1, .ref a2, .ref a3]) ∧ H a1 = some (.lst (ns.map V.str)) ∧ H a2 = some (.lst ((asI cs).map V.int)) ∧ H a3 = some (.lst ((asI ws).map V.int))
theorem PplAt.mono {H H' : Hp} {b : Addr} {ns : List Str} {cs ws : List Nat} (h : PplAt H b ns cs ws) (s : Same H H') : PplAt H' b ns cs ws := by
  obtain ⟨a1, a2, a3, h0, h1, h2, h3⟩ := h
  exact ⟨a1, a2, a3, s _ _ h0, s _ _ h1, s _ _ h2, s _ _ h3⟩
noncomputable def spPeople (K : PySem.W.Frag) : Sp := fun vs H Q _ => ∃ (s : Addr) (xs : List Int), vs = [.ref s] ∧ SqL K H s (xs.map V.int) ∧ ∀ b ns cs ws H', Same H H' → PplAt H' b ns cs ws → Ppl ns cs ws → Q (.ref b) H'
noncomputable def InvCt (H0 : Hp) (s nm c : Addr) (ns : List Str) (k : Nat) (σ : St) (H : Hp) : Prop := ∃ (cs : List Nat) (y3 y4 y5 y6 : Option V), σ = [some (.ref s), some (.ref nm), some (.ref c), y3, y4, y5, y6] ∧ Same H0 H ∧ H nm = some (.lst (ns.map V.str)) ∧ H c = some (.lst ((asI cs).map V.int)) ∧ cs.length = k ∧ ∀ x ∈ cs, 0 < x ∧ x < 10 ^ 30
noncomputable def InvWe (H0 : Hp) (s nm c w : Addr) (ns : List Str) (cs : List Nat) (k : Nat) (σ : St) (H : Hp) : Prop := ∃ (ws : List Nat) (y3 y5 y6 : Option V), σ = [some (.ref s), some (.ref nm), some (.ref c), y3, some (.ref w), y5, y6] ∧ Same H0 H ∧ H nm = some (.lst (ns.map V.str)) ∧ H c = some (.lst ((asI cs).map V.int)) ∧ H w = some (.lst ((asI ws).map V.int)) ∧ ws.length = k ∧ ∀ j, j < k → ws.getD j 0 < 2 ^ ns.length ∧ ws.getD j 0 / 2 ^ j % 2 = 0
noncomputable def InvMk (H1 : Hp) (s nm c w dr : Addr) (n k : Nat) (σ : St) (H : Hp) : Prop := H = H1 ∧ ∃ m : Nat, m < 2 ^ n ∧ σ = [some (.ref s), some (.ref nm), some (.ref c), some (.int (k : Int)), some (.ref w), some (.ref dr), some (.int (m : Int))]
noncomputable def InvN0 (H0 : Hp) (s : Addr) (σ : St) (H : Hp) : Prop := ∃ (nm : Addr) (ns : List Str) (y2 y3 y4 y5 y6 : Option V), σ = [some (.ref s), some (.ref nm), y2, y3, y4, y5, y6] ∧ Same H0 H ∧ H nm = some (.lst (ns.map V.str)) ∧ Nms ns 8
theorem getD_snoc (ws : List Nat) (x j : Nat) : (ws ++ [x]).getD j 0 = if j < ws.length then ws.getD j 0 else if j = ws.length then x else 0 := by
  rw [List.getD_eq_getElem?_getD, List.getD_eq_getElem?_getD]
  by_cases h : j < ws.length
  · rw [if_pos h, List.getElem?_append_left h]
  · rw [if_neg h, List.getElem?_append_right (by omega)]
    by_cases e : j = ws.length
    · rw [if_pos e, e, Nat.sub_self]; rfl
    · rw [if_neg e, List.getElem?_eq_none (by simp; omega)]; rfl
end L2
namespace L2
open PySem PySem.Spec PyProof.Rows KM
noncomputable def btN (n w : Nat) : List Nat := (List.range n).filter fun j => decide (w / 2 ^ j % 2 = 1)
theorem btN_mem {n w j : Nat} : j ∈ btN n w ↔ j < n ∧ w / 2 ^ j % 2 = 1 := by
  unfold btN
  rw [List.mem_filter, List.mem_range, decide_eq_true_iff]
theorem btN_nd (n w : Nat) : (btN n w).Nodup := List.nodup_range.sublist List.filter_sublist
inductive Mx where
  | hat (j : Nat)
  | sees (i : Nat) (l : List Nat)
noncomputable def Mx.hi : Mx → Option Nat
  | .hat j => some j
  | .sees _ _ => none
noncomputable def Mx.si : Mx → Option Nat
  | .hat _ => none
  | .sees i _ => some i
noncomputable def mxL (ns : List Str) (cs : List Nat) : Mx → Ln
  | .hat j => .hat (ns.getD j noS) (cs.getD j 0)
  | .sees i l => .sees (ns.getD i noS) (l.map fun j => ns.getD j noS)
noncomputable def okM : List Nat → List Mx → Prop
  | _, [] => True
  | S, .hat j :: r => okM (S ++ [j]) r
  | S, .sees i l :: r => (i ∈ S ∧ ∀ j ∈ l, j ∈ S) ∧ okM S r
theorem okM_append : ∀ (S : List Nat) (A B : List Mx), okM S (A ++ B) ↔ okM S A ∧ okM (S ++ A.filterMap Mx.hi) B
  | S, [], B => by simp [okM]
  | S, .hat j :: A, B => by
    show okM (S ++ [j]) (A ++ B) ↔ okM (S ++ [j]) A ∧ _
    rw [okM_append, List.filterMap_cons]
    show _ ↔ _ ∧ okM (S ++ (j :: A.filterMap Mx.hi)) B
    rw [List.append_assoc]; rfl
  | S, .sees i l :: A, B => by
    show (_ ∧ okM S (A ++ B)) ↔ (_ ∧ okM S A) ∧ okM (S ++ (Mx.sees i l :: A).filterMap Mx.hi) B
    rw [okM_append, List.filterMap_cons]
    exact and_assoc.symm
theorem okM_ins {M : List Mx} {q i : Nat} {l : List Nat} (h : okM [] M) (hi : i ∈ (M.take q).filterMap Mx.hi) (hl : ∀ j ∈ l, j ∈ (M.take q).filterMap Mx.hi) : okM [] (insAt M q (.sees i l)) := by
  have h2 := (okM_append [] (M.take q) (M.drop q)).mp (by rw [List.take_append_drop]; exact h)
  unfold insAt
  refine (okM_append _ _ _).mpr ⟨h2.1, ⟨?_, h2.2⟩⟩
  rw [List.nil_append]
  exact ⟨hi, hl⟩
theorem hi_ins {M : List Mx} {q i : Nat} {l : List Nat} : (insAt M q (.sees i l)).filterMap Mx.hi = M.filterMap Mx.hi := by
  unfold insAt
  rw [List.filterMap_append, List.filterMap_cons]
  show _ ++ (M.drop q).filterMap Mx.hi = _
  rw [← List.filterMap_append, List.take_append_drop]
theorem si_ins {M : List Mx} {q i : Nat} {l : List Nat} : ((insAt M q (.sees i l)).filterMap Mx.si).Perm (i :: M.filterMap Mx.si) := by
  unfold insAt
  rw [List.filterMap_append, List.filterMap_cons]
  show ((M.take q).filterMap Mx.si ++ i :: (M.drop q).filterMap Mx.si).Perm _
  refine List.perm_middle.trans (List.Perm.cons _ ?_)
  rw [← List.filterMap_append, List.take_append_drop]
theorem mem_ins {α : Type} {M : List α} {q : Nat} {x y : α} : y ∈ insAt M q x ↔ y = x ∨ y ∈ M := by
  unfold insAt
  rw [List.mem_append, List.mem_cons]
  constructor
  · rintro (h | h | h)
    · exact .inr (List.mem_of_mem_take h)
    · exact .inl h
    · exact .inr (List.mem_of_mem_drop h)
  · rintro (h | h)
    · exact .inr (.inl h)
    · rw [← List.take_append_drop q M] at h
      rcases List.mem_append.mp h with z | z
      · exact .inl z
      · exact .inr (.inr z)
theorem map_ins {α β : Type} (f : α → β) (M : List α) (q : Nat) (x : α) : (insAt M q x).map f = insAt (M.map f) q (f x) := by
  unfold insAt
  rw [List.map_append, List.map_cons, List.map_take, List.map_drop]
section
variable {ns : List Str} {cs ws : List Nat}
theorem take_getD {α : Type} {l : List α} {h : Nat} (d : α) (hh : h < l.length) : l.take (h + 1) = l.take h ++ [l.getD h d] := by
  rw [List.take_add_one, List.getElem?_eq_getElem hh, List.getD_eq_getElem?_getD, List.getElem?_eq_getElem hh]; rfl
structure Mixed (ns : List Str) (ws : List Nat) (done : Nat → Prop) (M : List Mx) : Prop where
  ok : okM [] M
  hats : M.filterMap Mx.hi = List.range ns.length
  nd : (M.filterMap Mx.si).Nodup
  pm : ∀ i l, Mx.sees i l ∈ M → l.Perm (btN ns.length (ws.getD i 0)) ∧ i < ns.length ∧ l ≠ []
  al : ∀ i, i ∈ M.filterMap Mx.si ↔ done i ∧ i < ns.length ∧ btN ns.length (ws.getD i 0) ≠ []
end
end L2
namespace L2
open PySem PySem.Spec PyProof.Rows KM
section
variable {ns : List Str} {cs ws : List Nat}
noncomputable abbrev txM (ns : List Str) (cs : List Nat) (x : Mx) : Str := lnT (mxL ns cs x)
theorem getD_inj (P : Ppl ns cs ws) {i j : Nat} (hi : i < ns.length) (hj : j < ns.length) (e : ns.getD i noS = ns.getD j noS) : i = j := by
  rw [List.getD_eq_getElem?_getD, List.getD_eq_getElem?_getD, List.getElem?_eq_getElem hi, List.getElem?_eq_getElem hj] at e
  exact (List.getElem_inj P.nm.nd).mp e
theorem ln_hat (P : Ppl ns cs ws) {j : Nat} (hj : j < ns.length) : lnOk (mxL ns cs (.hat j)) := by
  have hc : cs.getD j 0 ∈ cs := by
    rw [List.getD_eq_getElem?_getD, List.getElem?_eq_getElem (by rw [P.lc]; exact hj)]; exact List.getElem_mem _
  exact ⟨P.nm.nm _ (getD_memS hj), P.cok _ hc⟩
theorem map_nd (P : Ppl ns cs ws) : ∀ {l : List Nat}, l.Nodup → (∀ j ∈ l, j < ns.length) → (l.map fun j => ns.getD j noS).Nodup
  | [], _, _ => .nil
  | x :: r, h, hl => by
    have h' := List.nodup_cons.mp h
    rw [List.map_cons, List.nodup_cons]
    refine ⟨fun z => ?_, map_nd P h'.2 fun j hj => hl j (List.mem_cons_of_mem _ hj)⟩
    obtain ⟨j, hj, e⟩ := List.mem_map.mp z
    have := getD_inj P (hl j (List.mem_cons_of_mem _ hj)) (hl x List.mem_cons_self) e
    exact h'.1 (this ▸ hj)
theorem ln_sees (P : Ppl ns cs ws) {i : Nat} {l : List Nat} (hi : i < ns.length) (hp : l.Perm (btN ns.length (ws.getD i 0))) (hl : l ≠ []) : lnOk (mxL ns cs (.sees i l)) := by
  have hm : ∀ j ∈ l, j < ns.length ∧ ws.getD i 0 / 2 ^ j % 2 = 1 := fun j hj => btN_mem.mp (hp.mem_iff.mp hj)
  have hnd : l.Nodup := hp.nodup_iff.mpr (btN_nd _ _)
  have hil : i ∉ l := fun z => by have := (hm i z).2; rw [P.wself i hi] at this; cases this
  have hlen : l.length ≤ ns.length := by
    rw [hp.length_eq]
    unfold btN
    have := List.length_filter_le (fun j => decide (ws.getD i 0 / 2 ^ j % 2 = 1)) (List.range ns.length)
    rw [List.length_range] at this
    exact this
  have h8 := P.nm.few
  have hpos : 0 < l.length := List.length_pos_iff.mpr hl
  have e : (ns.getD i noS :: l.map fun j => ns.getD j noS) = (i :: l).map fun j => ns.getD j noS := rfl
  show Lst (ns.getD i noS :: l.map fun j => ns.getD j noS)
  rw [e]
  refine ⟨by rw [List.length_map, List.length_cons]; omega, by rw [List.length_map, List.length_cons]; omega, map_nd P (List.nodup_cons.mpr ⟨hil, hnd⟩) ?_, ?_⟩
  · intro j hj
    rcases List.mem_cons.mp hj with z | z
    · rw [z]; exact hi
    · exact (hm j z).1
  · intro x hx
    obtain ⟨j, hj, rfl⟩ := List.mem_map.mp hx
    rcases List.mem_cons.mp hj with z | z
    · rw [z]; exact P.nm.nm _ (getD_memS hi)
    · exact P.nm.nm _ (getD_memS (hm j z).1)
theorem mem_hi {M : List Mx} {j : Nat} : Mx.hat j ∈ M ↔ j ∈ M.filterMap Mx.hi := by
  rw [List.mem_filterMap]
  constructor
  · intro h; exact ⟨_, h, rfl⟩
  · rintro ⟨x, hx, e⟩
    cases x with
    | hat k => cases e; exact hx
    | sees i l => cases e
theorem Mixed.all_ok (P : Ppl ns cs ws) {done : Nat → Prop} {M : List Mx} (h : Mixed ns ws done M) : ∀ x ∈ M, lnOk (mxL ns cs x) := by
  intro x hx
  cases x with
  | hat j =>
    have := mem_hi.mp hx
    rw [h.hats] at this
    exact ln_hat P (List.mem_range.mp this)
  | sees i l => exact ln_sees P (h.pm i l hx).2.1 (h.pm i l hx).1 (h.pm i l hx).2.2
theorem tx_words {x y : Ln} (hx : lnOk x) (hy : lnOk y) (e : lnT x = lnT y) : lnW x = lnW y := by
  have f : ∀ {z : Ln}, lnOk z → Txt.split (lnT z) ⟨#[32]⟩ = lnW z := fun {z} hz => split_join 32 (by intro w; have := (lnW_ok hz).2.2; rw [w] at this; exact absurd this (by decide)) fun y hy => ((lnW_ok hz).1 y hy).1
  rw [← f hx, ← f hy, e]
theorem tx_hat (P : Ppl ns cs ws) {done : Nat → Prop} {M : List Mx} (h : Mixed ns ws done M) {x : Mx} {j : Nat} (hx : x ∈ M) (hj : j < ns.length) (e : txM ns cs x = txM ns cs (.hat j)) : x = .hat j := by
  have w := tx_words (h.all_ok P x hx) (ln_hat P hj) e
  cases x with
  | hat k =>
    have hk : k < ns.length := by
      have := mem_hi.mp hx
      rw [h.hats] at this
      exact List.mem_range.mp this
    have w : [Str.ofString "hat", ns.getD k noS, cntT (cs.getD k 0)] = [Str.ofString "hat", ns.getD j noS, cntT (cs.getD j 0)] := w
    have e2 : ns.getD k noS = ns.getD j noS := (List.cons.inj (List.cons.inj w).2).1
    rw [getD_inj P hk hj e2]
  | sees i l =>
    have w : Str.ofString "sees" :: _ = Str.ofString "hat" :: _ := w
    exact absurd (List.cons.inj w).1 (by decide +kernel)
theorem Mixed.idx (P : Ppl ns cs ws) {done : Nat → Prop} {M : List Mx} (h : Mixed ns ws done M) {j : Nat} (hj : j < ns.length) : txM ns cs (.hat j) ∈ M.map (txM ns cs) ∧ (M.map (txM ns cs)).idxOf (txM ns cs (.hat j)) < M.length ∧ ∀ q, (M.map (txM ns cs)).idxOf (txM ns cs (.hat j)) < q → j ∈ (M.take q).filterMap Mx.hi := by
  have hm : Mx.hat j ∈ M := mem_hi.mpr (by rw [h.hats]; exact List.mem_range.mpr hj)
  have h1 : txM ns cs (.hat j) ∈ M.map (txM ns cs) := List.mem_map.mpr ⟨_, hm, rfl⟩
  have h2 := List.idxOf_lt_length_iff.mpr h1
  rw [List.length_map] at h2
  refine ⟨h1, h2, fun q hq => ?_⟩
  have e := List.getElem_idxOf (xs := M.map (txM ns cs)) (x := txM ns cs (.hat j)) (by rw [List.length_map]; exact h2)
  rw [List.getElem_map] at e
  have hx := tx_hat P h (List.getElem_mem h2) hj e
  refine mem_hi.mp ?_
  rw [← hx]
  refine List.mem_of_getElem? (i := (M.map (txM ns cs)).idxOf (txM ns cs (.hat j))) ?_
  rw [List.getElem?_take_of_lt hq]
  exact List.getElem?_eq_getElem h2
theorem Mixed.start : Mixed ns ws (fun _ => False) ((List.range ns.length).map Mx.hat) := by
  have hh : ∀ l : List Nat, (l.map Mx.hat).filterMap Mx.hi = l := fun l => by
    induction l with
    | nil => rfl
    | cons a r ih => rw [List.map_cons, List.filterMap_cons]; show a :: _ = _; rw [ih]
  have hs : ∀ l : List Nat, (l.map Mx.hat).filterMap Mx.si = [] := fun l => by
    induction l with
    | nil => rfl
    | cons a r ih => rw [List.map_cons, List.filterMap_cons]; exact ih
  have ho : ∀ (l S : List Nat), okM S (l.map Mx.hat) := fun l => by
    induction l with
    | nil => intro S; trivial
    | cons a r ih => intro S; exact ih (S ++ [a])
  refine ⟨ho _ _, hh _, by rw [hs]; exact .nil, fun i l hm => ?_, fun i => ?_⟩
  · obtain ⟨k, _, e⟩ := List.mem_map.mp hm; cases e
  · rw [hs]
    exact ⟨(fun z => nomatch z), fun z => z.1.elim⟩
theorem Mixed.ins {done done' : Nat → Prop} {M : List Mx} (h : Mixed ns ws done M) {q i : Nat} {l : List Nat} (hi : i < ns.length) (hd : ¬ done i) (hp : l.Perm (btN ns.length (ws.getD i 0))) (hl : l ≠ []) (hq : ∀ j ∈ i :: l, j ∈ (M.take q).filterMap Mx.hi) (hdd : ∀ x, done' x ↔ done x ∨ x = i) :
    Mixed ns ws done' (insAt M q (.sees i l)) where
  ok := okM_ins h.ok (hq i List.mem_cons_self) fun j hj => hq j (List.mem_cons_of_mem _ hj)
  hats := by rw [hi_ins]; exact h.hats
  nd := si_ins.nodup_iff.mpr (List.nodup_cons.mpr ⟨fun z => hd ((h.al i).mp z).1, h.nd⟩)
  pm := fun k m hm => by
    rcases mem_ins.mp hm with e | e
    · cases e; exact ⟨hp, hi, hl⟩
    · exact h.pm k m e
  al := fun k => by
    rw [si_ins.mem_iff, List.mem_cons, h.al k, hdd]
    constructor
    · rintro (rfl | ⟨a, b, c⟩)
      · exact ⟨.inr rfl, hi, fun z => hl (by rw [z] at hp; exact hp.eq_nil)⟩
      · exact ⟨.inl a, b, c⟩
    · rintro ⟨a | a, b, c⟩
      · exact .inr ⟨a, b, c⟩
      · exact .inl a
theorem Mixed.skip {done done' : Nat → Prop} {M : List Mx} (h : Mixed ns ws done M) {i : Nat} (hb : btN ns.length (ws.getD i 0) = []) (hdd : ∀ x, done' x ↔ done x ∨ x = i) : Mixed ns ws done' M where
  ok := h.ok
  hats := h.hats
  nd := h.nd
  pm := h.pm
  al := fun k => by
    rw [h.al k, hdd]
    constructor
    · rintro ⟨a, b, c⟩
      exact ⟨.inl a, b, c⟩
    · rintro ⟨a | a, b, c⟩
      · exact ⟨a, b, c⟩
      · rw [a] at c; exact absurd hb c
end
theorem asI_itemV {l : List Nat} {k : Nat} (h : k < l.length) : ((asI l).map V.int).getD k .non = .int ((l.getD k 0 : Nat) : Int) := by
  unfold asI
  rw [List.getD_eq_getElem?_getD, List.getElem?_map, List.getElem?_map, List.getElem?_eq_getElem h, List.getD_eq_getElem?_getD, List.getElem?_eq_getElem h]; rfl
theorem map_rangeN {α : Type} (g : Nat → α) (l : List Nat) : ((List.range l.length).map fun i => g (l.getD i 0)) = l.map g := by
  apply List.ext_getElem?
  intro i
  by_cases hi : i < l.length
  · rw [List.getElem?_map, List.getElem?_range hi, List.getElem?_map, List.getElem?_eq_getElem hi]
    show some (g (l.getD i 0)) = some (g l[i])
    rw [List.getD_eq_getElem?_getD, List.getElem?_eq_getElem hi]; rfl
  · rw [List.getElem?_eq_none (by rw [List.length_map, List.length_range]; omega), List.getElem?_eq_none (by rw [List.length_map]; omega)]
theorem getD_memV {l : List Nat} {k : Nat} (h : k < l.length) : l.getD k 0 ∈ l := by
  rw [List.getD_eq_getElem?_getD, List.getElem?_eq_getElem h]; exact List.getElem_mem h
noncomputable def InvM1 (H0 : Hp) (b dr a1 a2 a3 l : Addr) (ns : List Str) (cs : List Nat) (k : Nat) (σ : St) (H : Hp) : Prop := ∃ y6 y7 y8 y9 y10 y11 y12 : Option V, σ = [some (.ref b), some (.ref dr), some (.ref a1), some (.ref a2), some (.ref a3), some (.ref l), y6, y7, y8, y9, y10, y11, y12] ∧ Same H0 H ∧ H l = some (.lst ((((List.range k).map Mx.hat).map (txM ns cs)).map V.str))
noncomputable def InvM2 (H0 : Hp) (b dr a1 a2 a3 l o : Addr) (ns : List Str) (cs ws od : List Nat) (k : Nat) (σ : St) (H : Hp) : Prop := ∃ (M : List Mx) (y6 y8 y9 y10 y11 y12 : Option V), σ = [some (.ref b), some (.ref dr), some (.ref a1), some (.ref a2), some (.ref a3), some (.ref l), y6, some (.ref o), y8, y9, y10, y11, y12] ∧ Same H0 H ∧ H o = some (.lst ((asI od).map V.int)) ∧ H l = some (.lst ((M.map (txM ns cs)).map V.str)) ∧ Mixed ns ws (fun i => i ∈ od.take k) M ∧ M.length ≤ ns.length + k
noncomputable def InvOd (H0 : Hp) (b dr a1 a2 a3 l : Addr) (ns : List Str) (cs : List Nat) (σ : St) (H : Hp) : Prop := ∃ (o : Addr) (od : List Nat) (y6 y8 y9 y10 y11 y12 : Option V), σ = [some (.ref b), some (.ref dr), some (.ref a1), some (.ref a2), some (.ref a3), some (.ref l), y6, some (.ref o), y8, y9, y10, y11, y12] ∧ Same H0 H ∧ H l = some (.lst ((((List.range ns.length).map Mx.hat).map (txM ns cs)).map V.str)) ∧ H o = some (.lst ((asI od).map V.int)) ∧ od.Perm (List.range ns.length) ∧ l ≠ o
noncomputable def InvSo (H0 : Hp) (b dr a1 a2 a3 l o : Addr) (i : Nat) (bt : List Nat) (σ : St) (H : Hp) : Prop := ∃ (s : Addr) (sm : List Nat) (y6 y10 y11 y12 : Option V), σ = [some (.ref b), some (.ref dr), some (.ref a1), some (.ref a2), some (.ref a3), some (.ref l), y6, some (.ref o), some (.int (i : Int)), some (.ref s), y10, y11, y12] ∧ Same H0 H ∧ H s = some (.lst ((asI sm).map V.int)) ∧ sm.Perm bt
theorem take_done {od : List Nat} {k : Nat} (hk : k < od.length) (x : Nat) : x ∈ od.take (k + 1) ↔ x ∈ od.take k ∨ x = od.getD k 0 := by
  rw [take_getD 0 hk, List.mem_append, List.mem_singleton]
theorem not_done {od : List Nat} (nd : od.Nodup) {k : Nat} (hk : k < od.length) : od.getD k 0 ∉ od.take k := fun z => by
  have e : od.getD k 0 = od[k] := by rw [List.getD_eq_getElem?_getD, List.getElem?_eq_getElem hk]; rfl
  rw [e] at z
  obtain ⟨j, hj, ej⟩ := List.getElem_of_mem z
  rw [List.getElem_take] at ej
  rw [List.length_take] at hj
  have := (List.getElem_inj nd).mp ej
  omega
end L2
namespace L2
open PySem PySem.Spec PyProof.Rows KM
end L2
namespace L2
open PySem PySem.Spec PyProof.Rows KM
section
variable {X : Cx} {v : Expr} {tv : TE} {pos : Pos}
end
end L2
namespace L2
open PySem PySem.Spec PyProof.Rows KM
section
variable {X : Cx} {K : PySem.W.Frag} {e lo st : Expr} {te tl ts : TE} {pos p2 : Pos}
end
end L2
namespace L2
open PySem PySem.Spec PyProof.Rows KM
section
variable {ns : List Str} {cs ws : List Nat}
end
end L2
namespace L2
open PySem PySem.Spec PyProof.Rows KM
section
variable {M : Model} {A : Around} {E : Value → Shared → Prop}
variable {nm q : Str} {C N : Addr} {bs bm : List Value} {hdct : Bool} {sn : List Str} {sub : List Value} {ab : Bool} {col : Option Bool} {dd : Option Addr} {k0 k1 k2 k3 k5 : Option Value} {newId : String}
variable {nm' q' : Str} {D N' : Addr} {bs' bm' : List Value} {hdct' : Bool} {sn' : List Str} {sub' : List Value} {ab' : Bool} {col' : Option Bool} {dd' : Option Addr} {k0' k1' k2' k3' k5' : Option Value} {newId' : String}
end
end L2
namespace L2
open PySem PySem.Spec PyProof.Rows KM
noncomputable def Fl (h : Heap) (a T C : Addr) (d : Option Addr) (fl : Value) : Prop :=
  ∃ oe vs oT ts, h.get? a = some oe ∧ oe.cls = .ref C ∧ oe.dict = d ∧ oe.data = .fields vs ∧ vs[1]? = some (.ref T) ∧ T ≠ a ∧ h.get? T = some oT ∧ oT.data = .fields ts ∧ ts[3]? = some fl
noncomputable def FlyAt (h : Heap) (H : Hp) (a T C : Addr) (d : Option Addr) : Prop := Fl h a T C d .none ∧ H a = none ∧ H T = none
noncomputable def CXE (P : Program) (w : World) : CXT := fun outer H s E e s' =>
  ∃ a T C d H', e = .ref a ∧ s'.os = s.os ∧ AllBare s'.gens ∧ Un (frs outer) [] H H' s.heap s'.heap ∧ HOk P w H' s'.heap ∧ s.heap.get? a = none ∧ s.heap.get? T = none ∧ FlyAt s'.heap H' a T C d ∧ E (.ref C) d H'
section
variable {P : Program} {w : World} {fs bad : List Addr} {H0 H1 : Hp} {h0 h1 h2 : Heap}
theorem un_exc (u : Un fs [] H0 H1 h0 h1) (hb : ∀ b ∈ bad, h0.get? b = none) (k : ∀ b o, h1.get? b = some o → b ∉ fs → b ∉ bad → h2.get? b = some o)
    (sl : ∀ b o, h1.get? b = some o → b ∈ fs → b ∉ bad → ∃ s, h2.get? b = some { o with slots := s }) : Un fs [] H0 H1 h0 h2 := by
  have nb : ∀ b o, h0.get? b = some o → b ∉ bad := fun b o e z => by rw [hb b z] at e; cases e
  refine ⟨fun b o e n hf hx => k b o (u.keep b o e n hf hx) hf (nb b o e), fun b o e n hf hx => ?_, u.free, fun b o e hx => ?_, u.tups, u.frzs, u.tbls⟩
  · obtain ⟨s1, e1⟩ := u.slot b o e n hf hx
    obtain ⟨s2, e2⟩ := sl b _ e1 hf (nb b o e)
    exact ⟨s2, e2⟩
  · obtain ⟨o1, e1⟩ := u.there b o e hx
    by_cases hf : b ∈ fs
    · obtain ⟨s2, e2⟩ := sl b _ e1 hf (nb b o e)
      exact ⟨_, e2⟩
    · exact ⟨_, k b _ e1 hf (nb b o e)⟩
theorem hok_exc (x : HOk P w H1 h1) (k : ∀ b o, h1.get? b = some o → b ∉ fs → b ∉ bad → h2.get? b = some o) (nf : ∀ b ∈ fs, H1 b = none) (nb : ∀ b ∈ bad, H1 b = none) : HOk P w H1 h2 := fun a o e =>
  (x a o e).stay (fun b u hb q => k b u q (fun z => by
    rcases hb with rfl | hb
    · rw [nf b z] at e; cases e
    · rw [nf b z] at hb; cases hb) (fun z => by
    rcases hb with rfl | hb
    · rw [nb b z] at e; cases e
    · rw [nb b z] at hb; cases hb)) (fun _ q => q) fun _ _ q => q
end
theorem HOk.there {P : Program} {w : World} {H : Hp} {h : Heap} {a : Addr} {o : HO} (x : HOk P w H h) (e : H a = some o) : ∃ u, h.get? a = some u := by
  have z := x a o e
  cases o with
  | lst xs => obtain ⟨_, _, _, _, e⟩ := z; exact ⟨_, e⟩
  | tup xs => obtain ⟨_, _, _, o, e, _⟩ := z; exact ⟨_, e⟩
  | dK kvs => obtain ⟨_, _, _, _, o, _, _, e, _⟩ := z; exact ⟨_, e⟩
  | dT kvs => obtain ⟨_, _, _, _, o, _, _, e, _⟩ := z; exact ⟨_, e⟩
  | set S n => obtain ⟨o, _, _, _, e, _⟩ := z; exact ⟨_, e⟩
  | ins C dx fs => obtain ⟨_, _, _, e, _⟩ := z; exact ⟨_, e⟩
  | own y => exact z
  | xd fs => obtain ⟨_, ⟨_, _, _, e, _⟩, _⟩ := z; exact ⟨_, e⟩
  | rng lo hi => obtain ⟨_, _, _, e⟩ := z; exact ⟨_, e⟩
  | frz ob u => obtain ⟨e, _⟩ := z; exact ⟨_, e⟩
  | tbl ps => exact ⟨_, z⟩
  | met f y => exact ⟨_, z⟩
  | ext φ => obtain ⟨_, e, _⟩ := z; exact e
theorem HOk.fresh' {P : Program} {w : World} {H : Hp} {h : Heap} {a : Addr} (x : HOk P w H h) (e : h.get? a = none) : H a = none := by
  cases q : H a with
  | none => rfl
  | some o => obtain ⟨u, z⟩ := x.there q; rw [e] at z; cases z
section
variable {X : Cx} {pins : List (Addr × Obj)} {σ : St} {H : Hp} {s : Shared} {h h' : Heap}
end
theorem dict_mapF (o : Obj) (f) : (o.mapFields f).dict = o.dict := by
  cases o with
  | mk c d dt sl => cases dt <;> rfl
section
variable {M : Model} {A : Around} {E : Value → Shared → Prop} {s : Shared} {base : Heap} {env : Env} {outer : List Env} {L a C : Addr} {d : Option Addr} {Q : Unit → Shared → Prop}
noncomputable def Kept (l : List Addr) (bad : List Addr) (h h' : Heap) : Prop := (∀ b o, h.get? b = some o → b ∉ l → b ∉ bad → h'.get? b = some o) ∧ ∀ b o, h.get? b = some o → b ∉ bad → ∃ sl, h'.get? b = some { o with slots := sl }
theorem Kept.trans {l bad bad' : List Addr} {h h1 h2 : Heap} (x : Kept l bad h h1) (y : Kept l bad' h1 h2) (hs : ∀ b o, h.get? b = some o → b ∈ bad' → b ∈ bad) : Kept l bad h h2 := by
  refine ⟨fun b o e n1 n2 => y.1 b o (x.1 b o e n1 n2) n1 fun z => n2 (hs b o e z), fun b o e n2 => ?_⟩
  obtain ⟨s1, e1⟩ := x.2 b o e n2
  obtain ⟨s2, e2⟩ := y.2 b _ e1 fun z => n2 (hs b o e z)
  exact ⟨s2, e2⟩
theorem entry_new {oe : Obj} {vs : Array Value} {head : Value} {nx : Bool} (hfr : A.frames = some (env :: outer)) (hl : s.heap.FunFrames base (env :: outer)) (hf : env.frame = some L)
    (he : s.heap.get? a = some oe) (hc : oe.cls = .ref C) (hdi : oe.dict = d) (hd : oe.data = .fields vs) (hsz : 1 < vs.size)
    (h : ∀ h' T, s.heap.get? T = none → Fl h' a T C d (rawInt L) → Kept (frs (env :: outer)) [a] s.heap h' → Q () { s with heap := h' }) :
    wpAny M A (do let fr ← frameOf env; let pl ← entryPlaceOf L nx; let t ← EntryCells.newEntry head fr .none (rawInt L) .none pl; setField (.ref a) 1 t) Q E s := by
  have na : a ∉ (env :: outer).filterMap (·.frame) := fun hm => by
    obtain ⟨_, o, ho, hn⟩ := hl.mem hm
    rw [he] at ho; cases ho; exact hn vs hd
  refine wpAny_bind (wpAny_frameOf_fun hfr hl hf fun h1 s1 => ?_)
  refine wpAny_bind (wpAny_entryPlaceOf fun pl hpl => ?_)
  unfold EntryCells.newEntry newFields
  refine wpAny_bind (wpAny_newObj_type ?_ (hpl.sizeOk5 _ _ _ _ _))
  have e1 : h1.get? a = some oe := (s1.2.1 a na).trans he
  have lt : a < h1.objs.size := Heap.lt_size e1
  generalize hO : ({ cls := .type "traceback", dict := none, data := .fields ([head, .ref L, .none, rawInt L, .none] ++ (if pl.isEmpty then List.replicate 6 Value.none else pl)).toArray } : Obj) = oT
  have hOf : oT.isFreed = false := by rw [← hO]; rfl
  have e2 : (h1.push oT).get? a = some oe := Heap.get?_push_of_some _ e1
  have eT : (h1.push oT).get? h1.objs.size = some oT := Heap.get?_push_size h1 hOf
  refine wpAny_setField e2 hd hsz (h _ h1.objs.size (Heap.get?_none_of_le (Nat.le_of_eq s1.1.symm)) ?_ ⟨fun b o eb n1 n2 => ?_, fun b o eb n2 => ?_⟩)
  · have ne : h1.objs.size ≠ a := Nat.ne_of_gt lt
    have hd3 := Obj.data_mapFields hd (·.setIfInBounds 1 (Value.ref h1.objs.size))
    refine ⟨_, _, oT, _, Heap.get?_update_self _ e2 (Obj.isFreed_of_fields hd3), (Obj.cls_mapFields _ _).trans hc, (dict_mapF _ _).trans hdi, hd3, by simp [hsz], ne, (Heap.get?_update_other _ _ ne.symm).trans eT, by rw [← hO], ?_⟩
    first | (simp; done) | (rcases hpl with rfl | ⟨_, _, _, _, _, _, _, rfl⟩ <;> simp)
  · have hba : b ≠ a := fun z => n2 (by rw [z]; exact List.mem_cons_self)
    rw [Heap.get?_update_other _ _ hba.symm]
    exact Heap.get?_push_of_some _ ((s1.2.1 b n1).trans eb)
  · have hba : b ≠ a := fun z => n2 (by rw [z]; exact List.mem_cons_self)
    obtain ⟨sl, q⟩ := s1.2.2 b o eb
    refine ⟨sl, ?_⟩
    rw [Heap.get?_update_other _ _ hba.symm]
    exact Heap.get?_push_of_some _ q
theorem note_first {oe : Obj} {vs : Array Value} (hfr : A.frames = some (env :: outer)) (hl : s.heap.FunFrames base (env :: outer)) (hf : env.frame = some L)
    (he : s.heap.get? a = some oe) (hc : oe.cls = .ref C) (hdi : oe.dict = d) (hd : oe.data = .fields vs) (h1 : vs[1]? = some .none)
    (h : ∀ h' T, s.heap.get? T = none → Fl h' a T C d (rawInt L) → Kept (frs (env :: outer)) [a] s.heap h' → Q () { s with heap := h' }) : wpAny M A (noteFrame (.ref a) env) Q E s := by
  unfold noteFrame
  simp only [hf]
  refine wpAny_bind (wpAny_field he hd h1 ?_)
  rw [if_neg (by decide)]
  exact entry_new hfr hl hf he hc hdi hd (Array.getElem?_eq_some_iff.mp h1).1 h
theorem note_on {T : Addr} (hfr : A.frames = some (env :: outer)) (hl : s.heap.FunFrames base (env :: outer)) (hf : env.frame = some L) (f : Fl s.heap a T C d .none)
    (h : ∀ h' T', s.heap.get? T' = none → Fl h' a T' C d (rawInt L) → Kept (frs (env :: outer)) [a, T] s.heap h' → Q () { s with heap := h' }) : wpAny M A (noteFrame (.ref a) env) Q E s := by
  obtain ⟨oe, vs, oT, ts, he, hc, hdi, hd, h1, hTa, hT, hdT, h3⟩ := f
  unfold noteFrame
  simp only [hf]
  refine wpAny_bind (wpAny_field he hd h1 ?_)
  rw [if_pos (show (Value.ref T != Value.none) = true from by simp)]
  refine wpAny_bind (wpAny_field hT hdT h3 ?_)
  rw [if_neg (show ¬ ((Value.none == rawInt L) = true) from by simp [rawInt])]
  refine wpAny_bind (wpAny_setField hT hdT (Array.getElem?_eq_some_iff.mp h3).1 ?_)
  have oth : ∀ b, b ≠ T → (s.heap.update T (Obj.mapFields (·.setIfInBounds 3 Value.none))).get? b = s.heap.get? b := fun b hb => Heap.get?_update_other _ _ hb.symm
  have k0 : Kept (frs (env :: outer)) [a, T] s.heap (s.heap.update T (Obj.mapFields (·.setIfInBounds 3 Value.none))) := by
    refine ⟨fun b o e _ n => (oth b fun z => n (by simp [z])).trans e, fun b o e n => ⟨o.slots, (oth b fun z => n (by simp [z])).trans e⟩⟩
  have noT : ∀ b o, s.heap.get? b = some o → (∀ vs, o.data ≠ .fields vs) → b ≠ T := fun b o hb hn q => by rw [q, hT] at hb; cases hb; exact hn ts hdT
  refine entry_new hfr (hl.of_keeps fun b o hb hn => ⟨o, (oth b (noT b o hb hn)).trans hb, rfl⟩) hf ((oth a hTa.symm).trans he) hc hdi hd (Array.getElem?_eq_some_iff.mp h1).1 fun h' T' n' f' k' => ?_
  refine h h' T' ?_ f' (k0.trans k' fun b _ _ z => by rw [List.mem_singleton.mp z]; exact List.mem_cons_self)
  have hne : T' ≠ T := fun z => by
    rw [z, Heap.get?_update_self _ hT (Obj.isFreed_of_fields (Obj.data_mapFields hdT _))] at n'
    cases n'
  rw [← oth T' hne]; exact n'
theorem flight_none {T : Addr} {fl : Value} {l : List Addr} (f : Fl s.heap a T C d fl) (h : ∀ h', Fl h' a T C d .none → Kept l [T] s.heap h' → Q () { s with heap := h' }) : wpAny M A (setFlight (.ref a) none) Q E s := by
  obtain ⟨oe, vs, oT, ts, he, hc, hdi, hd, h1, hTa, hT, hdT, h3⟩ := f
  have hsz : 3 < ts.size := (Array.getElem?_eq_some_iff.mp h3).1
  unfold setFlight
  refine wpAny_bind (wpAny_field he hd h1 ?_)
  rw [if_pos (show (Value.ref T != Value.none) = true from by simp)]
  have oth : ∀ b, b ≠ T → (s.heap.update T (Obj.mapFields (·.setIfInBounds 3 ((none : Option Addr).elim Value.none fun f => rawInt f)))).get? b = s.heap.get? b := fun b hb => Heap.get?_update_other _ _ hb.symm
  refine wpAny_setField hT hdT hsz (h _ ⟨oe, vs, _, _, (oth a hTa.symm).trans he, hc, hdi, hd, h1, hTa, Heap.get?_update_self _ hT (Obj.isFreed_of_fields (Obj.data_mapFields hdT _)), Obj.data_mapFields hdT _, by simp [hsz]⟩ ?_)
  exact ⟨fun b o e _ n => (oth b fun z => n (by simp [z])).trans e, fun b o e n => ⟨o.slots, (oth b fun z => n (by simp [z])).trans e⟩⟩
theorem leave_first {oe : Obj} {vs : Array Value} (hfr : A.frames = some (env :: outer)) (hl : s.heap.FunFrames base (env :: outer)) (hf : env.frame = some L)
    (he : s.heap.get? a = some oe) (hc : oe.cls = .ref C) (hdi : oe.dict = d) (hd : oe.data = .fields vs) (h1 : vs[1]? = some .none)
    (h : ∀ h' T, s.heap.get? T = none → Fl h' a T C d .none → Kept (frs (env :: outer)) [a] s.heap h' → Q () { s with heap := h' }) : wpAny M A (leaving env (.ref a)) Q E s := by
  unfold leaving
  refine wpAny_bind (note_first hfr hl hf he hc hdi hd h1 fun h' T nT f k => ?_)
  refine flight_none (l := frs (env :: outer)) f fun h2 f2 k2 => h h2 T nT f2 (k.trans k2 fun b o e z => ?_)
  rw [List.mem_singleton.mp z, nT] at e; cases e
theorem leave_on {T : Addr} (hfr : A.frames = some (env :: outer)) (hl : s.heap.FunFrames base (env :: outer)) (hf : env.frame = some L) (f : Fl s.heap a T C d .none)
    (h : ∀ h' T', s.heap.get? T' = none → Fl h' a T' C d .none → Kept (frs (env :: outer)) [a, T] s.heap h' → Q () { s with heap := h' }) : wpAny M A (leaving env (.ref a)) Q E s := by
  unfold leaving
  refine wpAny_bind (note_on hfr hl hf f fun h' T' nT f k => ?_)
  refine flight_none (l := frs (env :: outer)) f fun h2 f2 k2 => h h2 T' nT f2 (k.trans k2 fun b o e z => ?_)
  rw [List.mem_singleton.mp z, nT] at e; cases e
end
section
variable {P : Program} {w : World} {K : PySem.W.Frag} {mg : Str → Option Value} {base : Heap} {N : List Str} {qual : Str} {scope : Scope} {f : Addr} {cd : Value} {A : Around} {outer : List Env} {s0 s : Shared} {H0 H : Hp} {E : XK} {pins : List (Addr × Obj)} {σ : St}
theorem left_ok {e T C : Addr} {d : Option Addr} {bad : List Addr} {h2 : Heap} (I : Inv (cxOf (CXE P w) P w K mg base N qual scope f cd A outer s0 H0 E) pins σ H s)
    (hb : ∀ b ∈ bad, s0.heap.get? b = none ∧ H b = none) (k : Kept (frs (envOfC qual scope s0.heap.objs.size f cd :: outer)) bad s.heap h2) (he : s0.heap.get? e = none) (nT : s.heap.get? T = none) (hH : H e = none)
    (fl : Fl h2 e T C d .none) (q : E (.ref C) d H) : CXE P w outer H0 s0 E (.ref e) { s with heap := h2 } := by
  have mfs : ∀ b, b ∉ frs outer → b ≠ (envOfC qual scope s0.heap.objs.size f cd).locals → b ∉ frs (envOfC qual scope s0.heap.objs.size f cd :: outer) := fun b h1 h2 z => by
    rcases List.mem_cons.mp (I.stkSub b z) with z | z
    · exact h2 z
    · exact h1 z
  have bad' : ∀ b ∈ (envOfC qual scope s0.heap.objs.size f cd).locals :: bad, s0.heap.get? b = none ∧ H b = none := fun b hm => by
    rcases List.mem_cons.mp hm with z | z
    · rw [z]; exact ⟨Heap.get?_none_of_le (Nat.le_refl _), I.free⟩
    · exact hb b z
  have k2 : ∀ b o, s.heap.get? b = some o → b ∉ frs outer → b ∉ (envOfC qual scope s0.heap.objs.size f cd).locals :: bad → h2.get? b = some o := fun b o e1 n1 n2 =>
    k.1 b o e1 (mfs b n1 fun z => n2 (by rw [z]; exact List.mem_cons_self)) fun z => n2 (List.mem_cons_of_mem _ z)
  have nfs : ∀ b ∈ frs outer, H b = none := fun b hm => I.stkFree b (by
    show b ∈ frs (envOfC qual scope s0.heap.objs.size f cd :: outer)
    unfold frs
    rw [List.filterMap_cons]
    exact List.mem_cons_of_mem _ hm)
  refine ⟨e, T, C, d, H, rfl, I.os, I.bare, un_exc I.base (fun b hm => (bad' b hm).1) k2 (fun b o e1 _ n => k.2 b o e1 fun z => n (List.mem_cons_of_mem _ z)), hok_exc I.hok k2 nfs fun b hm => (bad' b hm).2, he, ?_, ⟨fl, hH, I.hok.fresh' nT⟩, q⟩
  cases z : s0.heap.get? T with
  | none => rfl
  | some o =>
    obtain ⟨o', e'⟩ := I.base.there T o z (by simp [cxOf])
    rw [nT] at e'; cases e'
theorem new_there {a : Addr} (I : Inv (cxOf (CXE P w) P w K mg base N qual scope f cd A outer s0 H0 E) pins σ H s) (n : s.heap.get? a = none) : s0.heap.get? a = none := by
  cases z : s0.heap.get? a with
  | none => rfl
  | some o =>
    obtain ⟨o', e'⟩ := I.base.there a o z (by simp [cxOf])
    rw [n] at e'; cases e'
theorem leave_obj {e C : Addr} {d : Option Addr} {oe : Obj} {vs : Array Value} (I : Inv (cxOf (CXE P w) P w K mg base N qual scope f cd A outer s0 H0 E) pins σ H s)
    (he : s.heap.get? e = some oe) (n0 : s0.heap.get? e = none) (hH : H e = none) (hc : oe.cls = .ref C) (hdi : oe.dict = d) (hd : oe.data = .fields vs) (h1 : vs[1]? = some .none) (q : E (.ref C) d H) :
    (cxOf (CXE P w) P w K mg base N qual scope f cd A outer s0 H0 E).xe (.ref e) s := by
  refine leave_first (L := s0.heap.objs.size) I.ok.frames I.stack rfl he hc hdi hd h1 fun h2 T nT fl k => ?_
  exact left_ok I (fun b hb => by rw [List.mem_singleton.mp hb]; exact ⟨n0, hH⟩) k n0 nT hH fl q
theorem leave_pass {s' : Shared} {e : Value} (I : Inv (cxOf (CXE P w) P w K mg base N qual scope f cd A outer s0 H0 E) pins σ H s) (h : CXE P w (envOfC qual scope s0.heap.objs.size f cd :: outer) H s E e s') :
    (cxOf (CXE P w) P w K mg base N qual scope f cd A outer s0 H0 E).xe e s' := by
  obtain ⟨a, T, C, d, H', rfl, os, bare, un, hok, na, nT, ⟨fl, ha, hT⟩, q⟩ := h
  have I' : Inv (cxOf (CXE P w) P w K mg base N qual scope f cd A outer s0 H0 E) pins σ H' s' := I.call' (ch := []) os un hok bare fun b z => absurd z (by simp)
  refine leave_on (L := s0.heap.objs.size) I'.ok.frames I'.stack rfl fl fun h2 T' nT' fl' k => ?_
  refine left_ok I' (fun b hb => ?_) k (new_there I na) nT' ha fl' q
  rcases List.mem_cons.mp hb with z | z
  · rw [z]; exact ⟨new_there I na, ha⟩
  · rw [List.mem_singleton.mp z]; exact ⟨new_there I nT, hT⟩
theorem passes_cx : Passes (CXE P w) (cxOf (CXE P w) P w K mg base N qual scope f cd A outer s0 H0 E) E := fun _ _ _ _ _ _ I h => leave_pass I h
end
end L2
namespace L2
open PySem PySem.Spec PyProof.Rows KM
section
variable {prog : Program} {w : World} {A : Around} {E : Value → Shared → Prop} {h : Heap} {g : Array GenState} {d : Drawn} {t : Nat} {os : OsState} {a C : Addr} {oe : Obj} {od : Option Obj} {K : PySem.W.Frag} {name : Str}
theorem exc_check {M : Model} {nv : Value} {Q : Unit → Shared → Prop} (X : K.In h) (I : PySem.W.InstAt h a oe C od) (hb : PySem.W.mroIn K C (.type "BaseException") = some true) (hq : Q () ⟨h, g, d, t, os⟩) :
    wpAny M A (checkBuiltinCall "BaseException.__getattribute__" ⟨[.ref a, nv], []⟩) Q E ⟨h, g, d, t, os⟩ := by
  have hk : builtinKind "BaseException.__getattribute__" = some .slot := by decide +kernel
  have hs : splitId "BaseException.__getattribute__" = some ("BaseException", "__getattribute__") := by decide +kernel
  have L0 := I.type (M := M)
  have L1 := PySem.W.looks_mroIn (M := M) X hb
  have LI : PySem.W.Looks M h (isInstance (.ref a) (.type "BaseException")) true := L0.andThen L1
  have ha := F.args_bexc_ga (.ref a) nv
  simp only [checkBuiltinCall, hk, hs]
  refine wpAny_bind (LI.at ?_)
  repeat (first | assumption | wp_step)
theorem exc_entry_bind {tk : Tok} {gt at' v : Value} {Q : Fin → Shared → Prop} (X : K.In h) (I : PySem.W.InstAt h a oe C od) (hf : PySem.W.findObj K C od name = some (.bind gt at'))
    (hc : ∀ (A : Around) (R : Result → Shared → Prop) (s : Shared), s.heap = h → R (.ok (.ret v)) s → codeAny (model prog w) A (.call gt ⟨[at', .ref a, .ref C], []⟩) R s) (hq : Q (.done (.ret v)) ⟨h, g, d, t, os⟩) :
    wpAny (model prog w) A (Builtin.«object.__getattribute__» ⟨[.ref a, .str name tk], []⟩) Q E ⟨h, g, d, t, os⟩ := by
  have L0 := I.type (M := model prog w)
  have L1 := PySem.W.looks_find (M := model prog w) X I hf
  unfold Builtin.«object.__getattribute__»
  repeat (first | with_reducible refine L0.at ?_ | with_reducible refine L1.at ?_ | wp_step)
  refine hc _ _ _ rfl ?_
  repeat (first | assumption | wp_step)
theorem exc_entry_value {tk : Tok} {v : Value} {Q : Fin → Shared → Prop} (X : K.In h) (I : PySem.W.InstAt h a oe C od) (hf : PySem.W.findObj K C od name = some (.value v)) (hq : Q (.done (.ret v)) ⟨h, g, d, t, os⟩) :
    wpAny (model prog w) A (Builtin.«object.__getattribute__» ⟨[.ref a, .str name tk], []⟩) Q E ⟨h, g, d, t, os⟩ := by
  have L0 := I.type (M := model prog w)
  have L1 := PySem.W.looks_find (M := model prog w) X I hf
  unfold Builtin.«object.__getattribute__»
  repeat (first | with_reducible refine L0.at ?_ | with_reducible refine L1.at ?_ | assumption | wp_step)
structure ExcGet (K : PySem.W.Frag) (C : Addr) : Prop where
  ga : PySem.W.findIn K (.ref C) "__getattribute__" = some (some (.builtin "BaseException.__getattribute__"))
  no : PySem.W.findIn K (.ref C) "__getattr__" = some none
  base : PySem.W.mroIn K C (.type "BaseException") = some true
theorem exc_by {tk : Tok} {fill expr : Bool} {v : Value} {Q : Value → Shared → Prop} (X : K.In h) (I : PySem.W.InstAt h a oe C od) (G : ExcGet K C)
    (hc : ∀ (A : Around) (Q : Fin → Shared → Prop) (E : Value → Shared → Prop), Q (.done (.ret v)) ⟨h, g, d, t, os⟩ → wpAny (model prog w) A (Builtin.«object.__getattribute__» ⟨[.ref a, .str name tk], []⟩) Q E ⟨h, g, d, t, os⟩)
    (hv : PySem.W.handedIn v = true) (hq : Q v ⟨h, g, d, t, os⟩) : wpAny (model prog w) A (getAttrBy (.ref a) (.str name tk) fill expr) Q E ⟨h, g, d, t, os⟩ := by
  have L0 := I.type (M := model prog w)
  have L1 := PySem.W.looks_findIn (M := model prog w) X G.ga
  have L2 := PySem.W.looks_findIn (M := model prog w) X G.no
  have FB := F.excAttr_ValueError
  have f3 := FB.ga.bind (.ref a)
  have hx0 : (expr && onTheHeap (Value.builtin "BaseException.__getattribute__")) = false := by cases expr <;> rfl
  have hx2 : (Value.builtin "BaseException.__getattribute__" == Value.builtin "object.__getattribute__") = false := by decide +kernel
  have hx1 : (onTheHeap (Value.ref C) && Value.builtin "BaseException.__getattribute__" == Value.builtin "object.__getattribute__") = false := by rw [hx2]; rfl
  unfold getAttrBy getAttrByItsOwn hookBefore
  repeat (first | with_reducible refine L0.at ?_ | with_reducible refine L1.at ?_ | with_reducible refine L2.at ?_ | assumption | wp_step)
  refine codeAny_call_builtin FB.ga.plain F.entry_bexc_ga (exc_check X I G.base (hc _ _ _ ?_))
  exact PySem.W.handed_on hv hq
theorem exc_attr {expr : Bool} {v : Value} {Q : Value → Shared → Prop} (X : K.In h) (I : PySem.W.InstAt h a oe C od) (G : ExcGet K C) (hf : PySem.W.findObj K C od name = some (.value v))
    (hv : PySem.W.handedIn v = true) (hq : Q v ⟨h, g, d, t + 1, os⟩) : wpAny (model prog w) A (getAttr (.ref a) name expr) Q E ⟨h, g, d, t, os⟩ := by
  unfold getAttr
  refine wpAny_bind (wpAny_mkText ?_)
  exact exc_by X I G (fun A Q E q => exc_entry_value X I hf q) hv hq
theorem exc_isType {K : PySem.W.Frag} {C : Addr} {M : Model} {h : Heap} (X : K.In h) {t : Value} (z : PySem.W.mroIn K C t = some true) : PySem.W.Looks M h (isType (.ref C)) true := by
  unfold PySem.W.mroIn PySem.W.clsIn at z
  split at z
  · rename_i c' d' cd' sl' ho
    intro A' Q' E' s' k q
    unfold isType loadHead
    exact wpAny_bind (wpAny_loadPart (k _ _ (X _ _ ho)) (wpAny_pure q))
  · cases z
structure ExcCls (K : PySem.W.Frag) (C : Addr) : Prop extends ExcGet K C where
  cl : PySem.W.findIn K (.ref C) "__class__" = some (some (.builtin "object.__class__"))
  gt : PySem.W.specialIn K (.builtin "object.__class__") "__get__" = some (some (.builtin "getset_descriptor.__get__"))
  tk : PySem.W.takesIn K (.builtin "object.__class__") = some true
  ob : PySem.W.mroIn K C (.type "object") = some true
theorem exc_class {Q : Option Value → Shared → Prop} (X : K.In h) (I : PySem.W.InstAt h a oe C od) (G : ExcCls K C) (hq : Q (some (.ref C)) ⟨h, g, d, t + 1, os⟩) :
    wpAny (model prog w) A (getAttr? (.ref a) "__class__") Q E ⟨h, g, d, t, os⟩ := by
  have hcl : (PySem.W.clsIn K C).isSome = true := by
    have z := G.ob
    unfold PySem.W.mroIn at z
    cases q : PySem.W.clsIn K C with
    | none => rw [q] at z; cases z
    | some _ => rfl
  have hf : PySem.W.findObj K C od "__class__" = some (.bind (.builtin "getset_descriptor.__get__") (.builtin "object.__class__")) := by
    obtain ⟨cd, hc⟩ := Option.isSome_iff_exists.mp hcl
    unfold PySem.W.findObj
    rw [hc, Option.bind_some, G.cl, Option.bind_some]
    simp [G.gt, G.tk]
  unfold getAttr? getAttrBy?
  refine wpAny_bind (wpAny_mkText (wpAny_bind (wpAny_attempt ?_)))
  refine exc_by (v := .ref C) X I G.toExcGet (fun A Q E q => exc_entry_bind X I hf (fun A R s e r => ?_) q) rfl ?_
  · obtain ⟨hh, gg, dd, tt, oo⟩ := s
    cases e
    exact PySem.W.class_get X I G.ob r
  · exact wpAny_pure hq
theorem kitx_exc (G : ExcCls K C) : PySem.W.KitX K (.ref a) (.ref C) (fun h => PySem.W.InstAt h a oe C od) where
  ty := fun _ _ _ I => I.type
  it := fun _ _ X _ => by
    have z := G.ob
    unfold PySem.W.mroIn PySem.W.clsIn at z
    split at z
    · rename_i c' d' cd' sl' ho
      intro A' Q' E' s' k q
      unfold isType loadHead
      exact wpAny_bind (wpAny_loadPart (k _ _ (X _ _ ho)) (wpAny_pure q))
    · cases z
  ne := fun h tp dd its n sl X htp => by
    have z := G.ob
    refine Bool.eq_false_iff.mpr fun q => ?_
    have e : C = tp := Value.ref.inj (beq_iff_eq.mp q)
    subst e
    unfold PySem.W.mroIn PySem.W.clsIn at z
    split at z
    · rename_i c' d' cd' sl' ho
      have z := (X _ _ ho).symm.trans htp
      cases z
    · cases z
  ca := fun {_ _ _ _ _ s} X I k => by
    obtain ⟨hh, gg, dd, tt, oo⟩ := s
    exact exc_class X I G k
end
end L2
namespace L2
open PySem PySem.Spec PyProof.Rows KM
noncomputable def isaE (x y : Str) : Bool := x == y || y == "HatError" || (y == "LineError" && (x == "NoLine" || x == "Twice" || x == "Unknown" || x == "TooMany"))
noncomputable def hasIn (x : Str) : Bool := x == "LineError" || x == "NoLine" || x == "Twice" || x == "Unknown" || x == "TooMany"
noncomputable def vmro : List Value := [.type "ValueError", .type "Exception", .type "BaseException", .type "object"]
noncomputable def errOne (K : PySem.W.Frag) (C : Addr) : Bool :=
  PySem.W.findIn K (.ref C) "__getattribute__" == some (some (.builtin "BaseException.__getattribute__")) && PySem.W.findIn K (.ref C) "__getattr__" == some none && PySem.W.mroIn K C (.type "BaseException") == some true &&
  PySem.W.findIn K (.ref C) "__class__" == some (some (.builtin "object.__class__")) && PySem.W.specialIn K (.builtin "object.__class__") "__get__" == some (some (.builtin "getset_descriptor.__get__")) &&
  PySem.W.takesIn K (.builtin "object.__class__") == some true && PySem.W.mroIn K C (.type "object") == some true && PySem.W.typeIn K (.ref C) == some (.type "type") && PySem.W.kitOne K (.ref C) (.type "ValueError") == some true
noncomputable def errOk (K : PySem.W.Frag) (names : List Str) (er : Str → Addr) : Bool :=
  names.all fun x => PySem.W.nsIn K mainGlobals x == some (some (.ref (er x))) && errOne K (er x) && (hasIn x || PySem.W.excIn K (er x) vmro "ValueError.__new__") &&
    names.all fun y => PySem.W.kitOne K (.ref (er x)) (.ref (er y)) == some (isaE x y) && PySem.W.mroIn K (er x) (.ref (er y)) == some (isaE x y)
structure ErrT (K : PySem.W.Frag) (mg : Str → Option Value) (names : List Str) (er : Str → Addr) : Prop where
  gl : ∀ x ∈ names, mg x = some (.ref (er x))
  cls : ∀ x ∈ names, ExcCls K (er x)
  ty : ∀ x ∈ names, PySem.W.typeIn K (.ref (er x)) = some (.type "type")
  val : ∀ x ∈ names, PySem.W.kitOne K (.ref (er x)) (.type "ValueError") = some true
  own : ∀ x ∈ names, hasIn x = false → PySem.W.excIn K (er x) vmro "ValueError.__new__" = true
  isi : ∀ x ∈ names, ∀ y ∈ names, PySem.W.kitOne K (.ref (er x)) (.ref (er y)) = some (isaE x y)
  mat : ∀ x ∈ names, ∀ y ∈ names, PySem.W.mroIn K (er x) (.ref (er y)) = some (isaE x y)
theorem errT_of {K : PySem.W.Frag} {h : Heap} {mg : Str → Option Value} {names : List Str} {er : Str → Addr} (X : K.In h) (G : h.Ns mainGlobals mg) (e : errOk K names er = true) : ErrT K mg names er := by
  have z : ∀ x ∈ names, _ := List.all_eq_true.mp e
  simp only [Bool.and_eq_true, Bool.or_eq_true, beq_iff_eq, errOne, List.all_eq_true] at z
  refine ⟨fun x hx => PySem.W.mg_of X G (z x hx).1.1.1, fun x hx => ?_, fun x hx => (z x hx).1.1.2.1.2, fun x hx => (z x hx).1.1.2.2, fun x hx hn => ?_, fun x hx y hy => ((z x hx).2 y hy).1, fun x hx y hy => ((z x hx).2 y hy).2⟩
  · obtain ⟨⟨⟨_, ⟨⟨⟨⟨⟨⟨⟨⟨a, b⟩, c⟩, d⟩, e⟩, f⟩, g⟩, _⟩, _⟩⟩, _⟩, _⟩ := z x hx
    exact ⟨⟨a, b, c⟩, d, e, f, g⟩
  · rcases (z x hx).1.2 with q | q
    · rw [hn] at q; cases q
    · exact q
section
variable {K : PySem.W.Frag} {h : Heap} {C : Addr} {bmB : List Value} {newId : String}
end
section
variable {X : Cx} {E : XK} {x : Str} {C : Addr} {np cpos pos : Pos} {e : Expr} {es : List Expr} {t : TA}
end
end L2
namespace L2
open PySem PySem.Spec PyProof.Rows KM
theorem exc_match {M : Model} {A : Around} {E : Value → Shared → Prop} {K : PySem.W.Frag} {h : Heap} {g : Array GenState} {d : Drawn} {t : Nat} {os : OsState} {a C D : Addr} {oe : Obj} {b : Bool} {Q : Bool → Shared → Prop} (X : K.In h)
    (he : h.get? a = some oe) (hc : oe.cls = .ref C) (hD : PySem.W.typeIn K (.ref D) = some (.type "type")) (GD : ExcCls K D) (hs : PySem.W.mroIn K C (.ref D) = some b) (hq : Q b ⟨h, g, d, t, os⟩) :
    wpAny M A (excMatches (.ref a) (.ref D)) Q E ⟨h, g, d, t, os⟩ := by
  have L0 : PySem.W.Looks M h (typeOf (.ref a)) (.ref C) := hc ▸ (PySem.W.Looks.ld he).andThen .now
  have L1 := PySem.W.looks_typeIn (M := M) X hD
  have L2 := PySem.W.looks_mroIn (M := M) X GD.base
  have L3 := PySem.W.looks_mroIn (M := M) X hs
  have L4 : PySem.W.Looks M h (isType (.ref D)) true := exc_isType X GD.base
  have f := tc_notTuple
  unfold excMatches isExcClass isInstance
  repeat (first | with_reducible refine L0.at ?_ | with_reducible refine L1.at ?_ | with_reducible refine L2.at ?_ | with_reducible refine L3.at ?_ | with_reducible refine L4.at ?_ | wp_step)
  all_goals (cases b <;> first | exact hq | (wp_walk; exact hq))
structure FnE (P : Program) (w : World) (K : PySem.W.Frag) (mg : Str → Option Value) (base : Heap) (k : Nat) (x : Str) (ps : List Str) (sp : Sp) : Prop where
  ex : ∃ f fd, FnOk P w K mg base (CXE P w) k f fd ps sp ∧ mg x = some (.ref f) ∧ PySem.W.keepIn K (.ref f) = true ∧ Binds K fd ps []
section
variable {P : Program} {w : World} {K : PySem.W.Frag} {mg : Str → Option Value} {base : Heap} {k : Nat} {x : Str} {N ps G : List Str} {sp : Sp} {st : Stmt}
theorem DS.cxE {CX : CXT} {sc : Scope} {q : Str} {f : Addr} {cdv : Value} {A : Around} {outer : List Env} {s : Shared} {H : Hp} {E : XK} (D : DS sc N ps G) : Sc (cxOf CX P w K mg base N q sc f cdv A outer s H E) N N G :=
  ⟨rfl, D.fs.nd, fun x hx => visB_of (D.vis x hx), fun x hx => ⟨D.loc x hx, .inl rfl⟩, fun x hx => glB_of (D.gl x hx)⟩
noncomputable def Own (X : Cx) : Prop := X.stack = X.env :: X.outer ∧ X.env.frame = some X.env.locals
end
section
variable {X : Cx} {N W G : List Str} {k m : Nat} {x : Str} {ps : List Str} {sp : Sp} {p pos : Pos} {e : Expr} {es : List Expr} {t : TA} {E : XK}
theorem kfe (S : Sc X N W G) (g : Nat) (F : FnE X.prog X.w X.K X.mg X.base k x ps sp) (hx : Passes (CXE X.prog X.w) X E) (hr : Room m X.A) (ha : QB X (e :: es) t) (hk : k ≤ m := by decide) (hg : G[g]? = some x := by rfl) :
    QE X (.Call (.Name x p) (e :: es) [] pos) (tCall sp [] E t) := by
  obtain ⟨f, fd, F, hm, hkp, hb⟩ := F.ex
  have q := S.gl x (List.mem_of_getElem? hg)
  exact ⟨pe_call F (hr.mono hk) q.1 hm hkp hb .nil hx ha.h.pa q.2.1 (star_cons ha.h.he) (plain_of ha.h.hes)⟩
end
noncomputable abbrev TEx := St → Hp → VK → XK → Prop
noncomputable abbrev TSx := Ends → (St → XK) → St → Hp → Prop
noncomputable def XP (X : Cx) (pins : List (Addr × Obj)) (W : St → XK) (e : Value) (s' : Shared) : Prop := ∃ σ' H0 s0, Inv X pins σ' H0 s0 ∧ CXE X.prog X.w X.stack H0 s0 (W σ') e s'
structure QEx (X : Cx) (e : Expr) (t : TEx) : Prop where
  h : ∀ (pins : List (Addr × Obj)) (s : Shared) (σ : St) (H : Hp) (Q : VK) (E : XK), Inv X pins σ H s → t σ H Q E → wpAny (model X.prog X.w) X.A (eval e X.env) (EP X pins σ Q) (fun x s' => ∃ H0 s0, Inv X pins σ H0 s0 ∧ CXE X.prog X.w X.stack H0 s0 E x s') s
structure QSx (X : Cx) (st : Stmt) (t : TSx) : Prop where
  h : ∀ (pins : List (Addr × Obj)) (s : Shared) (σ : St) (H : Hp) (D : Ends) (W : St → XK), Inv X pins σ H s → t D W σ H → wpAny (model X.prog X.w) X.A (exec st X.env) (SP X pins D) (XP X pins W) s
structure QSsx (X : Cx) (st : List Stmt) (t : TSx) : Prop where
  h : ∀ (pins : List (Addr × Obj)) (s : Shared) (σ : St) (H : Hp) (D : Ends) (W : St → XK), Inv X pins σ H s → t D W σ H → wpAny (model X.prog X.w) X.A (execs st X.env) (SP X pins D) (XP X pins W) s
noncomputable def tCallX (sp : Sp) (t : TA) : TEx := fun σ H Q E => t σ H fun vs H1 => sp vs H1 Q E
noncomputable def tAsgX (te : TEx) (g : TG) : TSx := fun D W σ H => te σ H (fun x H1 => g x σ H1 D.nx) (W σ)
section
variable {X : Cx} {N W G : List Str} {k m : Nat} {x : Str} {ps : List Str} {sp : Sp} {p pos pos' : Pos} {e c : Expr} {es : List Expr} {t : TA} {te : TEx} {tc : TT} {u v : TSx} {st : Stmt} {sts l l' : List Stmt}
theorem kfx (S : Sc X N W G) (hxe : X.xe = fun _ _ => False) (g : Nat) (F : FnE X.prog X.w X.K X.mg X.base k x ps sp) (hr : Room m X.A) (ha : QB X (e :: es) t) (hk : k ≤ m := by decide) (hg : G[g]? = some x := by rfl) :
    QEx X (.Call (.Name x p) (e :: es) [] pos) (tCallX sp t) := by
  obtain ⟨f, fd, F, hm, hkp, hb⟩ := F.ex
  have q := S.gl x (List.mem_of_getElem? hg)
  refine ⟨fun pins s σ H Q E I h => ?_⟩
  refine wpAny_Call_Name_kw (ld_glob I q.1 hm ?_ q.2.1)
  refine PySem.W.callWith_K (h₀ := X.base) I.ok.mod.kin hkp (wpAny_mono (ha.h.pa pos pins s σ H _ I h) (fun us s1 ⟨vs, H1, I1, r, q⟩ => ⟨I1.kIn, ?_⟩) fun x s' z => by rw [hxe] at z; exact z.elim) (star_cons ha.h.he) (plain_of ha.h.hes)
  have hl : us.length = ps.length := by rw [← r.length]; exact F.len _ _ _ _ q
  have hbd := hb s1 us I1.kIn (by rw [List.append_nil]; exact hl)
  rw [List.append_nil] at hbd
  refine wpAny_call (codeAny_mono (F.run X.A X.stack s1 H1 ⟨us, []⟩ us vs Q E (hr.mono hk) I1.env0 hbd r q) fun r s' hq => ?_)
  cases r with
  | error e => exact ⟨H1, s1, I1, hq⟩
  | ok fl =>
    cases fl with
    | ret u => exact I1.after hq
    | next => exact False.elim hq
    | brk => exact False.elim hq
    | cont => exact False.elim hq
theorem xset (S : Sc X N W G) (i : Nat) (he : QEx X e te) (h : N[i]? = some x := by rfl) (hw : W[i]? = some x := by rfl) (hs : swapsWith e (some (.Name x pos')) pos.line X.env = pure false := by rfl) :
    QSx X (.Assign [.Name x pos'] e pos) (tAsgX te (gName i)) := by
  have q := S.sto x (List.mem_of_getElem? hw)
  refine ⟨fun pins s σ H D W I z => wpAny_Assign_Name (wpAny_mono (he.h pins s σ H _ _ I z) (fun v s1 ⟨y, H1, I1, r1, q1⟩ => ?_) fun x s' ⟨H0, s0, I0, z⟩ => ⟨σ, H0, s0, I0, z⟩) hs⟩
  exact store_ok I1 (by rw [S.eN]; exact S.nd) (by rw [S.eN]; exact h) q.1 r1 (fun s2 I2 => ⟨_, H1, I2, q1⟩) q.2
theorem xs_one (h1 : QSx X st u) : QSsx X [st] u := by
  refine ⟨fun pins s σ H D W I h => wpAny_execs_cons (thn (h1.h pins s σ H D W I h) fun f s1 q => ?_)⟩
  cases f with
  | next => exact wpAny_execs_nil q
  | ret v => exact q
  | brk => exact q
  | cont => exact q
end
end L2
namespace L2
open PySem PySem.Spec PyProof.Rows KM
section
variable {X : Cx} {pins : List (Addr × Obj)} {σ : St} {H : Hp} {s : Shared}
theorem goes_ok {M : Model} {A : Around} {E : Value → Shared → Prop} {i : Nat} {x : Str} {pos : Pos} {Q : Unit → Shared → Prop} (I : Inv X pins σ H s) (hN : X.N.Nodup) (hi : X.N[i]? = some x) (hk : X.env.kindOf x = some .local)
    (h : ∀ s', Inv X pins (σ.set i none) H s' → Q () s') : wpAny M A (do bindName X.env x .none; unbindBehindTheSuite X.env x pos) Q E s := by
  obtain ⟨m, hn, hl⟩ := id I.loc
  have hcls : (X.env.scope.kind == .class || (X.env.scope.kind == .module && X.env.locals != X.env.globals)) = false := by rw [I.ok.kind]; rfl
  refine wpAny_nameGoes_keeps hk hn hcls fun h' v hn' hs => h _ ?_
  have ab : ∀ b o, X.s₀.heap.get? b = some o → b ≠ X.env.locals := fun b o e => Nat.ne_of_lt (Nat.lt_of_lt_of_le (Heap.lt_size e) I.ok.above)
  refine ⟨I.ok, I.os, I.bare, ⟨fun b o e n hb hx => (hs.2 b (ab b o e)).trans (I.base.keep b o e n hb hx), fun b o e n hb hx => ?_, I.base.free, fun b o e hx => ?_, I.base.tups, I.base.frzs, I.base.tbls⟩,
    ⟨_, hn', fun j y v' e1 e2 e3 => ?_⟩, fun y c e => ?_, I.free, I.freeC, fun p hp => ?_, fun b ob e => ?_, by simpa using I.len⟩
  · obtain ⟨sl, e1⟩ := I.base.slot b o e n hb hx
    exact ⟨sl, (hs.2 b (ab b o e)).trans e1⟩
  · obtain ⟨o', e1⟩ := I.base.there b o e hx
    exact ⟨o', (hs.2 b (ab b o e)).trans e1⟩
  · by_cases hj : j = i
    · subst hj
      rw [List.getElem?_set_self (by rw [I.len]; exact (List.getElem?_eq_some_iff.mp hi).1)] at e2
      cases e2
    · rw [List.getElem?_set_ne (Ne.symm hj)] at e2
      obtain ⟨u', r', q⟩ := hl j y v' e1 e2 e3
      refine ⟨u', r', ?_⟩
      rcases q with ⟨k, e⟩ | ⟨k, c, e, z⟩
      · have : y ≠ x := fun e => hj (nodup_ix hN e1 (e ▸ hi))
        exact .inl ⟨k, by simp [this, e]⟩
      · exact .inr ⟨k, c, e, z.sameBut hs (I.cne y c e)⟩
  · obtain ⟨w', z⟩ := I.cell y c e
    exact ⟨w', z.sameBut hs (I.cne y c e)⟩
  · obtain ⟨e, n, ne, nf, d⟩ := I.pin p hp
    exact ⟨(hs.2 p.1 ne).trans e, n, ne, nf, d⟩
  · refine (I.hok b ob e).stay (fun c w' hc q => (hs.2 c ?_).trans q) (fun _ q => q) fun _ _ q => q
    rintro rfl
    rcases hc with rfl | hc
    · rw [I.free] at e; cases e
    · rw [I.free] at hc; cases hc
end
noncomputable def Cx.held (X : Cx) (a : Addr) : Cx := { X with A := X.A.mark (some (.ref a)), calm := false }
section
variable {X : Cx} {pins : List (Addr × Obj)} {σ : St} {H : Hp} {s : Shared} {a : Addr} {o : Obj}
theorem Inv.held (I : Inv X pins σ H s) (a : Addr) : Inv (X.held a) pins σ H s :=
  ⟨⟨I.ok.mod, I.ok.kind, I.ok.glob, I.ok.blt, I.ok.above, I.ok.inj, I.ok.has, I.ok.cab, (fun z => by cases z), I.ok.frames, I.ok.stk, I.ok.exf, I.ok.bs, I.ok.bsz, I.ok.noex, I.ok.exfs, I.ok.funs, I.ok.frf⟩, I.os, I.bare, I.base, I.loc, I.cell, I.free, I.freeC, I.pin, I.hok, I.len⟩
noncomputable def ErrO (o : Obj) (C : Addr) (d : Option Addr) : Prop := o.cls = .ref C ∧ o.dict = d ∧ ∃ vs, o.data = .fields vs
end
end L2
namespace L2
open PySem PySem.Spec PyProof.Rows KM
noncomputable def ErrV (H : Hp) : Option Addr → Prop
  | none => True
  | some dx => ∃ fs, H dx = some (.xd fs)
section
variable {X : Cx} {N W G names : List Str} {er : Str → Addr} {x y : Str} {a : Addr} {o : Obj} {d : Option Addr} {pos : Pos}
theorem kcl (S : Sc X N W G) (g : Nat) (ER : ErrT X.K X.mg names er) (hy : y ∈ names) (hg : G[g]? = some y := by rfl) : QE X (.Name y pos) (tC (.ref (er y))) := by
  have q := S.gl y (List.mem_of_getElem? hg)
  exact ⟨pe_glob q.1 (ER.gl y hy) rfl q.2.1⟩
end
section
variable {a : Addr} {d : Option Addr} {c : V} {b : Bool} {H : Hp} {Q : VK} {σ : St} {E : XK} {C : Addr} {t : TA} {D : Ends}
theorem q_callX {sp : Sp} {Q : VK} : tCallX sp t σ H Q E = t σ H fun vs H1 => sp vs H1 Q E := rfl
theorem q_asgX {te : TEx} {g : TG} {W : St → XK} : tAsgX te g D W σ H = te σ H (fun x H1 => g x σ H1 D.nx) (W σ) := rfl
end
end L2
namespace L2
open PySem PySem.Spec PyProof.Rows KM
theorem boot_ValueError : bootBuiltins "ValueError" = some (.type "ValueError") := by decide +kernel
end L2
namespace L2
open PySem PySem.Spec PyProof.Rows KM
theorem dt_bls {K : PySem.W.Frag} {H : Hp} : ∀ bs : List Bool, DtAll K H (bs.map V.bl) (bs.map PyData.bool)
  | [] => .nil
  | b :: bs => .cons (.bl b) (dt_bls bs)
end L2
namespace L2
open PySem PySem.Spec PyProof.Rows KM
section
variable {k : Int} (t : Tok) (l : Addr) (dd : Option Addr) (it : Value) (n : Nat) (sl : Array (Option Value))
end
end L2
namespace L2
open PySem PySem.Spec PyProof.Rows KM
structure MDef (K : PySem.W.Frag) (C : Addr) (m qual : Str) (st : Stmt) : Prop where
  ex : ∃ f fd, Fun K m qual st f fd ∧ Meth K C m f
theorem mdef_mk {K : PySem.W.Frag} {C : Addr} {m qual : Str} {st : Stmt} {f : Addr} {oc : Value} {od an : Option Addr} {osl : Array (Option Value)} {kV doc pm cdv ct : Value}
    (a : PySem.W.findIn K (.ref C) m = some (some (.ref f))) (l : K.lookup f = some ⟨oc, od, .func (PySem.W.fnOf m qual (defArgs st) (defBody st) (defScope st) .none kV doc pm an cdv ct), osl⟩)
    (c : PySem.W.codeIn K cdv qual = true) (k : PySem.W.keepIn K (.ref f) = true) (i : PySem.W.isFn K (.ref f) = true) : MDef K C m qual st := ⟨f, _, fun_mk l c k, a, i, k⟩
noncomputable def clsSt (s : Stmt) (j : Nat) : Stmt := match s with
  | .ClassDef _ _ _ body _ _ _ _ _ _ _ => body.getD j (.Pass ⟨0, 0, 0, 0⟩)
  | _ => .Pass ⟨0, 0, 0, 0⟩
structure FnM (P : Program) (w : World) (K : PySem.W.Frag) (mg : Str → Option Value) (base : Heap) (k : Nat) (C : Addr) (m : Str) (ps : List Str) (sp : Sp) : Prop where
  ex : ∃ f fd, FnOk P w K mg base (CXE P w) k f fd ps sp ∧ Meth K C m f ∧ Binds K fd ps []
section
variable {P : Program} {w : World} {K : PySem.W.Frag} {mg : Str → Option Value} {base : Heap} {k : Nat} {x m qual : Str} {C : Addr} {N ps G : List Str} {sp : Sp} {st : Stmt}
theorem FnOk.lift {f : Addr} {fd : FuncData} (F : FnOk P w K mg base CX0 k f fd ps sp) : FnOk P w K mg base (CXE P w) k f fd ps sp :=
  ⟨F.len, fun A outer s H args us vs Q E hr e0 hb hv hs => codeAny_mono (F.run A outer s H args us vs Q E hr e0 hb hv hs) fun r s' z => by
    cases r with
    | error e => exact False.elim z
    | ok fl => cases fl <;> exact z⟩
theorem MDef.gq (D : MDef K C m qual st) (S : DS (defScope st) N ps G)
    (hb : ∀ (kV doc pm : Value) (an : Option Addr) (cdv ct : Value) (us : List Value), us.length = ps.length → bindArgs (PySem.W.fnOf m qual (defArgs st) (defBody st) (defScope st) .none kV doc pm an cdv ct) ⟨us, []⟩ = pure (ps.zip us))
    (len : ∀ vs H Q E, sp vs H Q E → vs.length = ps.length)
    (hbody : ∀ (X : Cx), Sc X N N G → X.prog = P → X.w = w → X.K = K → X.mg = mg → X.base = base → X.calm = true → X.env.scope = defScope st → X.xe = (fun _ _ => False) → Room k X.A → X.A.units + 64 < cLine →
      ∀ (H : Hp) (vs : List V) (Q : VK) (E : XK), sp vs H Q E → ∃ t, QSs X (defBody st) t ∧ t { nx := fun _ H' => Q .non H', rt := Q } (L2.start N vs) H) : FnM P w K mg base (k + 1) C m ps sp := by
  obtain ⟨f, fd, F, M⟩ := D.ex
  refine ⟨f, fd, FnOk.lift ?_, M, F.binds hb⟩
  refine F.ok S.fs len fun cdv A outer s H vs Q E hr h => ?_
  obtain ⟨t, z, y⟩ := hbody _ S.cx rfl rfl rfl rfl rfl rfl rfl rfl hr hr.units H vs Q E h
  exact ⟨t, z.h, y⟩
end
section
variable {X : Cx} {N W G fields : List Str} {k n : Nat} {x f m : Str} {C : Addr} {ps : List Str} {sp : Sp} {p pos pos' apos : Pos} {e o value : Expr} {es : List Expr} {t : TA} {ta tv : TE} {E : XK}
end
section
variable {C : Addr} {f m : Str} {ta tv : TE} {σ : St} {H : Hp} {Q : VK} {D : Ends} {sp : Sp} {E : XK} {t : TA}
end
end L2
namespace L2
open PySem PySem.Spec PyProof.Rows KM
section
variable {K : PySem.W.Frag} {a r C dx : Addr} {fs : List (Str × V)} {H H' : Hp} {xs : List V}
end
end L2
namespace L2
open PySem PySem.Spec PyProof.Rows KM
end L2
namespace L2
open PySem PySem.Spec PyProof.Rows KM
end L2
namespace L2
open PySem PySem.Spec PyProof.Rows KM
end L2
namespace L2
open PySem PySem.Spec PyProof.Rows KM
end L2
namespace L2
open PySem PySem.Spec PyProof.Rows KM
end L2
namespace L2
open PySem PySem.Spec PyProof.Rows KM
end L2
namespace L2
open PySem PySem.Spec PyProof.Rows KM
end L2
namespace L2
open PySem PySem.Spec PyProof.Rows KM
theorem seqJ {A B : TS} {D : Ends} {σ : L2.St} {H : Hp} (I : L2.St → Hp → Prop) (h2 : ∀ σ' H', I σ' H' → B D σ' H') (h1 : ∀ R : L2.St → Hp → Prop, (∀ σ' H', I σ' H' → R σ' H') → A { D with nx := R } σ H) : tSeq A B D σ H := h1 (B D) h2
end L2
namespace L2
open PySem PySem.Spec PyProof.Rows KM
noncomputable def ErrF (a C : Addr) (d : Option Addr) : Heap → Prop := fun h => ∃ oe, h.get? a = some oe ∧ ErrO oe C d
noncomputable def errH (a C : Addr) (d : Option Addr) : HO := .ext (ErrF a C d)
theorem errH_ok {P : Program} {w : World} {H : Hp} {h : Heap} {a C : Addr} {d : Option Addr} {oe : Obj} (e : h.get? a = some oe) (o : ErrO oe C d) : ObjOk P w H h a (errH a C d) :=
  ⟨⟨oe, e, o⟩, ⟨oe, e⟩, fun h1 h2 ⟨o1, e1, p1⟩ k => ⟨o1, k _ e1, p1⟩⟩
section
variable {X : Cx} {pins : List (Addr × Obj)} {σ : St} {H : Hp} {s : Shared} {a : Addr} {o : HO}
theorem Inv.track (I : Inv X pins σ H s) (n : H a = none) (n0 : X.s₀.heap.get? a = none) (ne : a ≠ X.env.locals) (nc : ∀ x c, X.env.cells.lookup x = some c → c ≠ a) (np : ∀ p ∈ X.pn ++ pins, p.1 ≠ a) (new : ObjOk X.prog X.w (upd H a o) s.heap a o) : Inv X pins σ (upd H a o) s := by
  have ne' : ∀ b u, H b = some u → b ≠ a := fun b u e => ne_of_none e n
  refine ⟨I.ok, I.os, I.bare, ⟨I.base.keep, I.base.slot, fun b u e nb hx => ?_, I.base.there, fun b xs e => ?_, fun b u v e => ?_, fun b ps e => ?_⟩, I.loc, I.cell, ?_, fun x c e => ?_, fun p hp => ?_, fun b u e => ?_, I.len⟩
  · rw [upd_ne (fun z => by rw [z, n0] at e; cases e)]; exact I.base.free b u e nb hx
  · have := I.base.tups b xs e; rw [upd_ne (ne' _ _ this)]; exact this
  · have := I.base.frzs b u v e; rw [upd_ne (ne' _ _ this)]; exact this
  · obtain ⟨more, z⟩ := I.base.tbls b ps e; exact ⟨more, by rw [upd_ne (ne' _ _ z)]; exact z⟩
  · rw [upd_ne (Ne.symm ne)]; exact I.free
  · rw [upd_ne (nc x c e)]; exact I.freeC x c e
  · obtain ⟨e, q, r⟩ := I.pin p hp; exact ⟨e, by rw [upd_ne (np p hp)]; exact q, r⟩
  · by_cases hb : b = a
    · subst hb; rw [upd_same] at e; cases e; exact new
    · rw [upd_ne hb] at e
      exact (I.hok b u e).stay (fun c v _ q => q) (fun c q => by rw [upd_ne (ne' _ _ q)]; exact q) fun c xs q => by rw [upd_ne (ne' _ _ q)]; exact q
theorem Inv.unheld (hc : X.calm = true → X.A.handled = none) (hf : X.A.frames = some X.stack) (I : Inv (X.held a) pins σ H s) : Inv X pins σ H s :=
  ⟨⟨I.ok.mod, I.ok.kind, I.ok.glob, I.ok.blt, I.ok.above, I.ok.inj, I.ok.has, I.ok.cab, hc, hf, I.ok.stk, I.ok.exf, I.ok.bs, I.ok.bsz, I.ok.noex, I.ok.exfs, I.ok.funs, I.ok.frf⟩, I.os, I.bare, I.base, I.loc, I.cell, I.free, I.freeC, I.pin, I.hok, I.len⟩
theorem Sc.held {N W G : List Str} (S : Sc X N W G) : Sc (X.held a) N W G := ⟨S.eN, S.nd, S.vis, S.sto, S.gl⟩
end
noncomputable def tTryH (names : List Str) (er : Str → Addr) (tb : TSx) (i : Nat) (y : Str) (th : Addr → TS) : TS := fun D σ H =>
  tb D (fun σ' C d H' => ∃ x, x ∈ names ∧ C = .ref (er x) ∧ isaE x y = true ∧ ∀ a, H' a = none → th a { nx := fun σ'' => D.nx (σ''.set i none), rt := D.rt, bk := fun σ'' => D.bk (σ''.set i none), ct := fun σ'' => D.ct (σ''.set i none) } (σ'.set i (some (.ref a))) (upd H' a (errH a (er x) d))) σ H
section
variable {X : Cx}
theorem stryH {N W G : List Str} {names : List Str} {er : Str → Addr} {y n : Str} {np hpos pos : Pos} {b0 : Stmt} {suite body : List Stmt} {rest : List ExceptHandler} {tb : TSx} {th : Addr → TS} (S : Sc X N W G) (g i : Nat)
    (hxe : X.xe = fun _ _ => False) (hc : X.calm = true) (ho : Own X) (hex : X.ex = []) (ER : ErrT X.K X.mg names er) (hy : y ∈ names) (hb : QSsx X body tb)
    (hh : ∀ (a : Addr), Sc (X.held a) N W G → QSs (X.held a) (b0 :: suite) (th a))
    (hk : X.env.scope.names.lookup n = some .local) (hg : G[g]? = some y := by rfl) (hi : N[i]? = some n := by rfl) (hw : W[i]? = some n := by rfl) :
    QS X (.Try body (.ExceptHandler (some (.Name y np)) (some n) (b0 :: suite) hpos :: rest) [] [] pos) (tTryH names er tb i y th) := by
  have qg := S.gl y (List.mem_of_getElem? hg)
  have qs := S.sto n (List.mem_of_getElem? hw)
  have hN : X.N.Nodup := by rw [S.eN]; exact S.nd
  have hiN : X.N[i]? = some n := by rw [S.eN]; exact hi
  refine ⟨fun pins s σ H D I h => ?_⟩
  refine wpAny_Try_except (wpAny_mono (hb.h pins s σ H D _ I h) (fun f s1 q => ?_) fun e s1 ⟨σ', H0, s0, I0, z⟩ => ?_)
  · cases f with
    | next => exact wpAny_execs_nil q
    | ret v => exact q
    | brk => exact q
    | cont => exact q
  obtain ⟨a, T, C, d, H', rfl, os, bare, un, hok, na, nT, ⟨fl, ha, hT⟩, x, hx, hC, hxy, w⟩ := z
  cases hC
  have J : Inv X pins σ' H' s1 := I0.call' (ch := []) os un hok bare fun b z => absurd z (by simp)
  have fr : X.A.frames = some (X.env :: X.outer) := by rw [I.ok.frames, ho.1]
  have stk : s1.heap.FunFrames X.base (X.env :: X.outer) := by rw [← ho.1]; exact J.stack
  refine note_on fr stk ho.2 fl fun h4 T4 nT4 f4 k4 => ?_
  refine flight_none (l := frs (X.env :: X.outer)) f4 fun h5 f5 k5 => ?_
  have k45 : Kept (frs (X.env :: X.outer)) [a, T] s1.heap h5 := k4.trans k5 fun b o e z => by rw [List.mem_singleton.mp z, nT4] at e; cases e
  have step : ∀ (bad : List Addr) (h2 : Heap), (∀ b ∈ bad, s0.heap.get? b = none ∧ H' b = none) → Kept (frs (X.env :: X.outer)) bad s1.heap h2 → Inv X pins σ' H' { s1 with heap := h2 } := fun bad h2 hbad k => by
    refine I0.call' (ch := []) os ?_ ?_ bare fun b z => absurd z (by simp)
    · exact un_exc un (fun b hb => (hbad b hb).1) (fun b o e n1 n2 => k.1 b o e (by rw [← ho.1]; exact n1) n2) fun b o e _ n2 => k.2 b o e n2
    · exact hok_exc hok (fun b o e n1 n2 => k.1 b o e (by rw [← ho.1]; exact n1) n2) J.stkFree fun b hb => (hbad b hb).2
  have bad1 : ∀ b ∈ [a, T], s0.heap.get? b = none ∧ H' b = none := fun b hb => by
    rcases List.mem_cons.mp hb with z | z
    · rw [z]; exact ⟨na, ha⟩
    · rw [List.mem_singleton.mp z]; exact ⟨nT, hT⟩
  have I5 : Inv X pins σ' H' { s1 with heap := h5 } := step _ _ bad1 k45
  obtain ⟨oe5, vs5, oT5, ts5, he5, hc5, hd5, hdt5, _⟩ := id f5
  refine wpAny_handleBy_cons (codeAny_handlers_test (ld_glob (X := X.held a) (I5.held a) qg.1 (ER.gl y hy) ?_ qg.2.1)) (by intro q; cases q)
  refine exc_match (K := X.K) I5.kIn he5 hc5 (ER.ty y hy) (ER.cls y hy) ((ER.mat x hx y hy).trans (by rw [hxy])) ?_
  show codeAny _ _ _ _ _
  refine codeAny_handlers_suite_as ?_
  refine flight_none (l := frs (X.env :: X.outer)) f5 fun h6 f6 k6 => ?_
  have k56 : Kept (frs (X.env :: X.outer)) [a, T] s1.heap h6 := k45.trans k6 fun b o e z => by rw [List.mem_singleton.mp z, nT4] at e; cases e
  have I6 : Inv X pins σ' H' { s1 with heap := h6 } := step _ _ bad1 k56
  obtain ⟨oe6, vs6, oT6, ts6, he6, hc6, hd6, hdt6, _⟩ := id f6
  have nal : a ≠ X.env.locals := fun z => by
    obtain ⟨m, ⟨o, es, ep, e1, e2, _⟩, _⟩ := I6.loc
    rw [← z, he6] at e1; cases e1
    rw [hdt6] at e2; cases e2
  have n0 : X.s₀.heap.get? a = none := by
    cases z : X.s₀.heap.get? a with
    | none => rfl
    | some o =>
      obtain ⟨o', e'⟩ := I0.base.there a o z (by rw [hex]; simp)
      rw [na] at e'; cases e'
  have nc : ∀ x c, X.env.cells.lookup x = some c → c ≠ a := fun x c e z => by
    obtain ⟨v, o, e1, _⟩ := I0.cell x c e
    rw [z, na] at e1; cases e1
  have np : ∀ p ∈ X.pn ++ pins, p.1 ≠ a := fun p hp z => by
    have e1 := (I0.pin p hp).1
    rw [z, na] at e1; cases e1
  have I7 : Inv (X.held a) pins σ' (upd H' a (errH a (er x) d)) { s1 with heap := h6 } := (I6.track ha n0 nal nc np (errH_ok he6 ⟨hc6, hd6, vs6, hdt6⟩)).held a
  refine store_ok (X := X.held a) (v := .ref a) I7 hN hiN qs.1 rfl (fun s7 I8 => ?_) qs.2
  refine wpAny_mono ((hh a S.held).h pins s7 _ _ _ I8 (w a ha)) (fun f s8 q => ?_) fun e s8 z => ?_
  · cases f with
    | next =>
      obtain ⟨σ8, H8, I9, q⟩ := q
      exact goes_ok (I9.unheld I.ok.hd I.ok.frames) hN hiN hk fun s9 I10 => ⟨_, H8, I10, q⟩
    | brk =>
      obtain ⟨σ8, H8, I9, q⟩ := q
      exact goes_ok (I9.unheld I.ok.hd I.ok.frames) hN hiN hk fun s9 I10 => ⟨_, H8, I10, q⟩
    | cont =>
      obtain ⟨σ8, H8, I9, q⟩ := q
      exact goes_ok (I9.unheld I.ok.hd I.ok.frames) hN hiN hk fun s9 I10 => ⟨_, H8, I10, q⟩
    | ret u =>
      obtain ⟨v, σ8, H8, I9, r, q⟩ := q
      exact goes_ok (I9.unheld I.ok.hd I.ok.frames) hN hiN hk fun s9 I10 => ⟨v, _, H8, I10, r, q⟩
  · have z' : X.xe e s8 := z
    rw [hxe] at z'; exact z'.elim
end
section
variable {P : Program} {w : World} {K : PySem.W.Frag} {mg : Str → Option Value} {base : Heap} {k : Nat} {x : Str} {N ps G : List Str} {sp : Sp} {st : Stmt}
theorem Def.gz (D : Def K mg x st) (S : DS (defScope st) N ps G)
    (hb : ∀ (kV doc pm : Value) (an : Option Addr) (cdv ct : Value) (us : List Value), us.length = ps.length → bindArgs (PySem.W.fnOf x x (defArgs st) (defBody st) (defScope st) .none kV doc pm an cdv ct) ⟨us, []⟩ = pure (ps.zip us))
    (len : ∀ vs H Q E, sp vs H Q E → vs.length = ps.length)
    (hbody : ∀ (X : Cx), Sc X N N G → X.prog = P → X.w = w → X.K = K → X.mg = mg → X.base = base → X.calm = true → X.env.scope = defScope st → Own X → X.ex = [] → X.xe = (fun _ _ => False) → Room k X.A → X.A.units + 64 < cLine →
      ∀ (H : Hp) (vs : List V) (Q : VK) (E : XK), sp vs H Q E → ∃ t, QSs X (defBody st) t ∧ t { nx := fun _ H' => Q .non H', rt := Q } (L2.start N vs) H) : Fn P w K mg base (k + 1) x ps sp := by
  refine D.fn S.fs hb len fun f cdv A outer s H vs Q E hr h => ?_
  obtain ⟨t, z, y⟩ := hbody _ S.cx rfl rfl rfl rfl rfl rfl rfl ⟨rfl, rfl⟩ rfl rfl hr hr.units H vs Q E h
  exact ⟨t, z.h, y⟩
structure RoomH (k : Nat) (A : Around) : Prop where
  dp : A.depth + 3 * k + 5 < recursionLimit
  un : A.units + 16 * k + 200 < cLine
theorem Room.h {k : Nat} {A : Around} (r : Room k A) : RoomH k A := ⟨r.dp, r.un⟩
end
section
variable {X : Cx} {N W G : List Str} {k m : Nat} {x : Str} {ps : List Str} {sp : Sp} {p pos : Pos} {e : Expr} {es : List Expr} {t : TA}
end
section
variable {X : Cx} {N W G names : List Str} {er : Str → Addr} {x y : Str} {a : Addr} {d : Option Addr} {pos : Pos}
theorem err_inst {pins : List (Addr × Obj)} {σ : St} {H : Hp} {s : Shared} (I : Inv X pins σ H s) (h : H a = some (errH a (er x) d)) (v : ErrV H d) : ∃ o od, PySem.W.InstAt s.heap a o (er x) od := by
  obtain ⟨⟨o, e, h1, h2, vs, h3⟩, _⟩ := I.hok a _ h
  have hn : PySem.W.notCls o = true := by unfold PySem.W.notCls; rw [h3]
  cases d with
  | none => exact ⟨o, none, ⟨e, h1, hn, by rw [h2]; trivial⟩⟩
  | some dx =>
    obtain ⟨fs, q⟩ := v
    obtain ⟨u, z⟩ := I.hok.there q
    exact ⟨o, some u, ⟨e, h1, hn, by rw [h2]; exact z⟩⟩
noncomputable def rIsX (names : List Str) (er : Str → Addr) (y : Str) : List V → Hp → VK → Prop := fun xs H Q => ∃ a x d, xs = [.ref a, .ref (er y)] ∧ x ∈ names ∧ H a = some (errH a (er x) d) ∧ ErrV H d ∧ Q (.bl (isaE x y)) H
noncomputable def rIsXV (names : List Str) (er : Str → Addr) : List V → Hp → VK → Prop := fun xs H Q => ∃ a x d, xs = [.ref a, .ty "ValueError"] ∧ x ∈ names ∧ H a = some (errH a (er x) d) ∧ ErrV H d ∧ Q (.bl true) H
theorem call_isX (ER : ErrT X.K X.mg names er) (hy : y ∈ names) : CallR X (.builtin "isinstance") (rIsX names er y) := by
  intro pins s σ H xs us Q I r h
  obtain ⟨a, x, d, rfl, hx, hH, v, q⟩ := h
  obtain ⟨u1, u2, rfl, r1, r2⟩ := r.two
  cases (show u1 = Value.ref a from r1)
  cases (show u2 = Value.ref (er y) from r2)
  obtain ⟨o, od, J⟩ := err_inst I hH v
  exact PySem.W.kia_one (kitx_exc (ER.cls x hx)) I.kIn J (ER.isi x hx y hy) (by intro z; cases z) fun tk => ⟨.bl _, H, I.tok tk, rfl, q⟩
theorem call_isXV (ER : ErrT X.K X.mg names er) : CallR X (.builtin "isinstance") (rIsXV names er) := by
  intro pins s σ H xs us Q I r h
  obtain ⟨a, x, d, rfl, hx, hH, v, q⟩ := h
  obtain ⟨u1, u2, rfl, r1, r2⟩ := r.two
  cases (show u1 = Value.ref a from r1)
  cases (show u2 = Value.type "ValueError" from r2)
  obtain ⟨o, od, J⟩ := err_inst I hH v
  exact PySem.W.kia_one (kitx_exc (ER.cls x hx)) I.kIn J (ER.val x hx) (by intro z; cases z) fun tk => ⟨.bl _, H, I.tok tk, rfl, q⟩
end
section
variable {X : Cx} {N W G fields : List Str} {k n : Nat} {x m : Str} {C : Addr} {ps : List Str} {sp : Sp} {p pos apos : Pos} {e o : Expr} {es : List Expr} {t : TA} {ta : TE}
end
end L2
namespace L2
open PySem PySem.Spec PyProof.Rows KM
noncomputable def endsV : List Value → Bool
  | [] => false
  | v :: r => (v :: r == vmro) || (match v with | .ref _ => endsV r | _ => false)
theorem endsV_has {t : String} : ∀ {l : List Value}, endsV l = true → l.contains (.type t) = vmro.contains (.type t)
  | [], e => by cases e
  | v :: r, e => by
    unfold endsV at e
    rcases Bool.or_eq_true_iff.mp e with q | q
    · rw [beq_iff_eq.mp q]
    · cases v with
      | ref a => rw [List.contains_cons, endsV_has (l := r) q]; rfl
      | _ => cases q
theorem endsV_pass (self : Value) : ∀ {l : List Value}, endsV l = true → refuseLoop self "__setattr__" l = pure ()
  | [], e => by cases e
  | v :: r, e => by
    unfold endsV at e
    rcases Bool.or_eq_true_iff.mp e with q | q
    · rw [beq_iff_eq.mp q]; exact PySem.F.store_ValueError.passes self
    · cases v with
      | ref a => rw [refuseLoop_ref]; exact endsV_pass self q
      | _ => cases q
structure ShE (h : Heap) (C : Addr) (bm : List Value) : Prop where
  obj : ∃ nm qn N bs sn sub ab col dd k0 k1 k2 k3 k5, h.get? C = some (excClassObj nm qn C N bs bm true sn sub ab col dd k0 k1 k2 k3 k5 "ValueError.__new__")
  ends : endsV bm = true
noncomputable def shapeE (K : PySem.W.Frag) (C : Addr) : Bool := match K.lookup C with
  | some ⟨.type "type", _, .cls cd, sl⟩ => (match cd.mro, sl.toList with
    | .ref C' :: bm, [_, _, _, _, some (.builtin n), _] => C' == C && n == "ValueError.__new__" && !cd.hasDel && cd.hasDict && endsV bm
    | _, _ => false)
  | _ => false
theorem shape_of {K : PySem.W.Frag} {h : Heap} {C : Addr} (X : K.In h) (q : shapeE K C = true) : ∃ bm, ShE h C bm ∧ ∃ cd, PySem.W.clsIn K C = some cd ∧ cd.hasDict = true ∧ cd.mro = .ref C :: bm := by
  unfold shapeE at q
  split at q
  · rename_i dd cd sl ho
    split at q
    · rename_i C' bm k0 k1 k2 k3 n k5 hm hs
      simp only [Bool.and_eq_true, beq_iff_eq, Bool.not_eq_true'] at q
      obtain ⟨⟨⟨⟨q1, q2⟩, q3⟩, q4⟩, q5⟩ := q
      subst q1 q2
      have hc : PySem.W.clsIn K C' = some cd := by unfold PySem.W.clsIn; rw [ho]
      refine ⟨bm, ⟨?_, q5⟩, cd, hc, q4, hm⟩
      obtain ⟨nm, bs, mro, ns, qn, hd, sn, sub, ab, col, del⟩ := cd
      dsimp only at hm q3 q4
      subst hm q3 q4
      obtain ⟨l⟩ := sl
      dsimp only at hs
      subst hs
      exact ⟨nm, qn, ns, bs, sn, sub, ab, col, dd, k0, k1, k2, k3, k5, X _ _ ho⟩
    · cases q
  · cases q
noncomputable abbrev excObj (C t : Addr) (d : Option Addr) : Obj := { cls := .ref C, dict := d, data := .fields #[.ref t, .none, .none, .none, .bool false, .none] }
noncomputable abbrev argTup (us : List Value) : Obj := { cls := .type "tuple", data := .seq us.toArray }
section
variable {M : Model} {prog : Program} {w : World} {A : Around} {E : Value → Shared → Prop} {R : Result → Shared → Prop} {h : Heap} {g : Array GenState} {d : Drawn} {t : Nat} {os : OsState} {C : Addr} {bm us : List Value} {K : PySem.W.Frag}
theorem err_chk {Q : Unit → Shared → Prop} (S : ShE h C bm) (q : Q () ⟨h, g, d, t, os⟩) : wpAny M A (checkBuiltinCall "ValueError.__new__" ⟨.ref C :: us, []⟩) Q E ⟨h, g, d, t, os⟩ := by
  obtain ⟨⟨nm, qn, N, bs, sn, sub, ab, col, dd, k0, k1, k2, k3, k5, hC⟩, hb⟩ := S
  have FB := PySem.F.excBase_ValueError
  have hv : (Value.ref C :: bm).contains (.type "ValueError") = true := by rw [List.contains_cons, endsV_has hb, show vmro.contains (.type "ValueError") = true by decide +kernel]; rfl
  have st := FB.noStar
  simp only [checkBuiltinCall, FB.newKind, FB.newSplit, FB.newRow]
  repeat (first | refine wpAny_loadPart_at hC ?_ | (refine wpAny_isSubtype_exc hC ?_; rw [hv]) | refine wpAny_staticBase_exc hC ?_ | refine wpAny_madeBy_exc hC ?_ | simp only [bne_self_eq_false, Bool.false_eq_true, if_false] | wp_step)
  exact q
theorem err_new (S : ShE h C bm) (hl : us.length ≤ sizeLine) (q : R (.ok (.ret (.ref (h.objs.size + 1)))) ⟨(h.push (argTup us)).push (excObj C h.objs.size none), g, d, t, os⟩) : codeAny (model prog w) A (.builtin "ValueError.__new__" ⟨.ref C :: us, []⟩) R ⟨h, g, d, t, os⟩ := by
  obtain ⟨⟨nm, qn, N, bs, sn, sub, ab, col, dd, k0, k1, k2, k3, k5, hC⟩, hb⟩ := S
  have FB := PySem.F.excBase_ValueError
  have e1 := FB.ends
  have b1 : (Value.ref C :: bm).contains (.type "ValueError") = true := by rw [List.contains_cons, endsV_has hb, show vmro.contains (.type "ValueError") = true by decide +kernel]; rfl
  have b2 : (Value.ref C :: bm).contains (.type "AttributeError") = false := by rw [List.contains_cons, endsV_has hb, show vmro.contains (.type "AttributeError") = false by decide +kernel]; rfl
  have b3 : (Value.ref C :: bm).contains (.type "NameError") = false := by rw [List.contains_cons, endsV_has hb, show vmro.contains (.type "NameError") = false by decide +kernel]; rfl
  refine codeAny_builtinAt FB.entry ?_; unfold Builtin.«BaseException.__new__»
  refine PySem.wpAt_bind ?_
  show PySem.wpAt _ _ _ (stack >>= _) _ _ _; refine PySem.wpAt_bind (PySem.wpAt_stack fun p below => PySem.wpAt_of_wpAny ?_)
  wp_walk
  refine PySem.wpAt_of_wpAny ?_
  rw [FB.owner]
  repeat (first | with_reducible refine wpAny_madeHere_exc FB.canon hC ?_ | with_reducible refine wpAny_loadPart_at hC ?_ | (with_reducible refine wpAny_isSubtype_exc hC ?_; first | rw [b1] | rw [b2] | rw [b3]) | wp_step)
  show R _ _; rw [Heap.size_push]; exact q
theorem make_err {f : Addr} (X : K.In h) (S : ShE h C bm) (hl : us.length ≤ sizeLine) (hi : PySem.W.findIn K (.ref C) "__init__" = some (some (.ref f))) (hf : PySem.W.typeIn K (.ref f) = some (.type "function"))
    (hcl : PySem.W.specialIn K (.ref C) "__call__" = some (some (.builtin "type.__call__"))) (hty : PySem.W.instIn K (.ref C) (.type "type") = some true)
    (q : codeAny (model prog w) (A.under (.builtin "type.__call__" ⟨.ref C :: us, []⟩)) (.call (.ref f) ⟨.ref (h.objs.size + 1) :: us, []⟩) (PySem.W.InitBack (h.objs.size + 1) R) ⟨(h.push (argTup us)).push (excObj C h.objs.size none), g, d, t, os⟩) :
    codeAny (model prog w) A (.call (.ref C) ⟨us, []⟩) R ⟨h, g, d, t, os⟩ := by
  have S0 := S
  obtain ⟨⟨nm, qn, N, bs, sn, sub, ab, col, dd, k0, k1, k2, k3, k5, hC⟩, hb⟩ := S
  have FB := PySem.F.excBase_ValueError
  have cal := PySem.W.looks_specialIn (M := model prog w) X hcl
  refine codeAny_of_tree ?_
  show wpAny _ _ (callAny (.ref C) _) _ _ _; refine PySem.W.nd_load hC ?_
  show wpAny _ _ (callAny.viaDunder (.ref C) _) _ _ _; unfold callAny.viaDunder
  refine wpAny_bind (cal.at ?_); dsimp only; rw [tc_bind]
  refine wpAny_bind (wpAny_pure (wpAny_bind (wpAny_pure (wpAny_pure (a := Fin.again (.call (.builtin "type.__call__") ⟨.ref C :: us, []⟩)) (And.intro rfl ?_)))))
  refine codeAny_call_builtin_at (Code.quiet_builtin _ (by decide +kernel)) entry_typeCall (PySem.W.check_slot tc_kind tc_split (PySem.W.looks_instIn X hty) (PySem.W.tc_args _ _ _) ?_)
  unfold Builtin.«type.__call__»
  repeat (first | with_reducible refine wpAny_loadPart_at hC ?_ | with_reducible refine wpAny_madeBy_exc hC ?_ | with_reducible refine wpAny_call ?_ | wp_step)
  refine codeAny_call_builtin_code (Code.quiet_builtin _ FB.quiet) (err_chk S0 (err_new S0 hl ?_)); show wpAny _ _ _ _ _ _
  have k : ∀ b o, h.get? b = some o → ((h.push (argTup us)).push (excObj C h.objs.size none)).get? b = some o := fun b o e => Heap.get?_push_of_some _ (Heap.get?_push_of_some _ e)
  have X1 := X.keeps k
  have hx : ((h.push (argTup us)).push (excObj C h.objs.size none)).get? (h.objs.size + 1) = some (excObj C h.objs.size none) := by heap_get
  have cc : (Value.ref C :: bm).contains (.ref C) = true := by simp
  have hC1 := k _ _ hC
  have i1 := PySem.W.looks_findIn (M := model prog w) X1 hi
  have b1 := PySem.W.bind_fn (M := model prog w) X1 (.ref (h.objs.size + 1)) hf
  unfold isInstance
  repeat (first | with_reducible refine wpAny_loadPart_at hx ?_ | (with_reducible refine wpAny_isSubtype_exc hC1 ?_; rw [cc]) | wp_step)
  show wpAny _ _ (typeLookup (.ref C) _) _ _ _; refine i1.at ?_
  refine wpAny_holding (wpAny_bind (b1.at ?_)); refine wpAny_bind (wpAny_call (codeAny_mono q fun r s' z => ?_))
  rcases r with e | (v | _ | _ | _) <;> first | exact z | exact z.elim | skip
  obtain ⟨rfl, z⟩ := z
  wp_walk; exact z
end
section
variable {prog : Program} {w : World} {A : Around} {E : Value → Shared → Prop} {s : Shared} {C e t : Addr} {K : PySem.W.Frag} {name : Str} {v : Value}
theorem set_err {Q : Unit → Shared → Prop} (X : K.In s.heap) (he : s.heap.get? e = some (excObj C t none)) (hs : PySem.W.findIn K (.ref C) "__setattr__" = some (some (.builtin "object.__setattr__"))) (ha : PySem.W.findIn K (.ref C) name = some none)
    (hsh : shapeE K C = true) (q : ∀ h', h'.get? e = some (excObj C t (some s.heap.objs.size)) → h'.Ns1 s.heap.objs.size (fun y => if y = name then some v else none) → (∀ b o, b ≠ e → s.heap.get? b = some o → h'.get? b = some o) → Q () { s with heap := h', toks := s.toks + 2 }) :
    wpAny (model prog w) A (setAttr (.ref e) name v) Q E s := by
  have J : PySem.W.InstAt s.heap e (excObj C t none) C none := ⟨he, rfl, rfl, trivial⟩
  obtain ⟨bm, S, cd, hc, hd, hm⟩ := shape_of X hsh
  have SF := PySem.F.store_object
  have L1 : PySem.W.Looks (model prog w) s.heap (mroOf (.ref C)) (.ref C :: bm) := by rw [← hm]; exact (PySem.W.looks_clsIn X hc).andThen .now
  have hob : (Value.ref C :: bm).contains (.type "object") = true := by rw [List.contains_cons, endsV_has S.ends, show vmro.contains (.type "object") = true by decide +kernel]; rfl
  have L2 : PySem.W.Looks (model prog w) s.heap (isInstance (.ref e) (.type "object")) true := J.type.andThen (PySem.W.looks_mroIn X (by unfold PySem.W.mroIn; rw [hc, Option.bind_some, hm, if_neg (by simp), hob]))
  refine PySem.W.set_plain X J hs ?_
  refine codeAny_call_builtin SF.slot.plain SF.entry (@PySem.W.check_slot (model prog w) _ _ { s with toks := s.toks + 1 } "object.__setattr__" "object" "__setattr__" (.ref e) [.str name s.toks, v] [] _ SF.kind SF.split L2 (SF.args (.ref e) (.str name s.toks) v) ?_)
  rw [PySem.W.osa_eq, refuse_eq]
  refine wpAny_bind (wpAny_bind (PySem.W.Looks.here (s := { s with toks := s.toks + 1 }) J.type (wpAny_bind (PySem.W.Looks.here (s := { s with toks := s.toks + 1 }) L1 ?_))))
  rw [refuseLoop_ref, endsV_pass _ S.ends]
  refine wpAny_pure (wpAny_bind (PySem.W.Looks.here (s := { s with toks := s.toks + 1 }) J.type (wpAny_bind (PySem.W.Looks.here (s := { s with toks := s.toks + 1 }) (PySem.W.looks_findIn X ha) (wpAny_bind (wpAny_pure ?_))))))
  have hx : s.heap.get? e = some ⟨.ref C, none, .fields #[.ref t, .none, .none, .none, .bool false, .none], #[]⟩ := he
  refine wpAny_bind (wpAny_pure (wpAny_bind (wpAny_bind (wpAny_loadPart hx (wpAny_bind (PySem.W.Looks.here (s := { s with toks := s.toks + 1 }) (PySem.W.looks_clsIn X hc) ?_))))))
  rw [hd]
  have hx1 : (s.heap.push PySem.W.emptyDict).get? e = some (excObj C t none) := Heap.get?_push_of_some _ he
  have hes : e ≠ s.heap.objs.size := Nat.ne_of_lt (Heap.lt_size he)
  refine wpAny_bind (wpAny_alloc' ?_)
  refine wpAny_bind (wpAny_update' hx1 ?_)
  refine wpAny_pure ?_
  have hx2 : ((s.heap.push PySem.W.emptyDict).update e fun o => { cls := o.cls, dict := some s.heap.objs.size, data := o.data, slots := o.slots }).get? e = some (excObj C t (some s.heap.objs.size)) := Heap.get?_update_self _ hx1 rfl
  have hgd : ((s.heap.push PySem.W.emptyDict).update e fun o => { cls := o.cls, dict := some s.heap.objs.size, data := o.data, slots := o.slots }).get? s.heap.objs.size = some PySem.W.emptyDict := (Heap.get?_update_ne _ _ _ _ hes.symm).trans (Heap.get?_push_at rfl rfl)
  have hnd : ((s.heap.push PySem.W.emptyDict).update e fun o => { cls := o.cls, dict := some s.heap.objs.size, data := o.data, slots := o.slots }).Ns s.heap.objs.size (fun _ => none) := ⟨_, #[], _, hgd, rfl, fun e he => absurd he (by simp), fun _ => rfl⟩
  show wpAny _ _ (Builtin.ObjectAttr.storeInDict s.heap.objs.size (.str name s.toks) name v) _ _ _
  unfold Builtin.ObjectAttr.storeInDict Builtin.ObjectAttr.newKeyGuard
  refine wpAny_bind (wpAny_pure (wpAny_bind (wpAny_nsSet1 (Heap.Ns1.of_empty hnd) fun h' hn' hs => ?_)))
  obtain ⟨oD, esD, epD, hoD, hdD, hcD⟩ := hn'.count (Within.cons name v Within.nil)
  refine wpAny_bind (wpAny_lookBehind hoD (by rw [hdD]; exact pastItsLine_dict (Nat.le_trans hcD (by rw [List.length_cons, List.length_nil, sizeLine_eq]; omega))) ?_)
  refine wpAny_pure ?_
  show Q _ _
  refine q h' ((hs.2 e hes).trans hx2) hn' fun b o hb e => ?_
  exact (hs.2 b (Nat.ne_of_lt (Heap.lt_size e))).trans ((Heap.get?_update_ne _ _ _ _ hb).trans (Heap.get?_push_of_some _ e))
theorem raise_err {M : Model} {env : Env} {x : Sem Value} {Q : Flow → Shared → Prop} (hh : A.handled = none) (h : wpAny M A x (fun v s1 => ∃ e t C d bm, v = .ref e ∧ ShE s1.heap C bm ∧ s1.heap.get? e = some (excObj C t d) ∧ E (.ref e) s1) E s) : wpAny M A (raiseStmt env (some x) none) Q E s := by
  unfold raiseStmt
  refine wpAny_bind (wpAny_mono h (fun v s1 h1 => ?_) fun _ _ x => x)
  obtain ⟨e, t, C, d, bm, rfl, ⟨⟨nm, qn, N, bs, sn, sub, ab, col, dd, k0, k1, k2, k3, k5, hC⟩, hb⟩, he, hE⟩ := h1
  have hv : (Value.ref C :: bm).contains (.type "BaseException") = true := by rw [List.contains_cons, endsV_has hb, show vmro.contains (.type "BaseException") = true by decide +kernel]; rfl
  obtain ⟨hp, g, dr, tk, os⟩ := s1
  repeat (first | with_reducible refine wpAny_loadPart_at he ?_ | with_reducible refine wpAny_loadPart_at hC ?_ | (with_reducible refine wpAny_isSubtype_exc hC ?_; rw [hv]) | wp_step)
  exact wpAny_raiseNew_none hh hE
end
end L2
namespace L2
open PySem PySem.Spec PyProof.Rows KM
structure IniE (K : PySem.W.Frag) (C L : Addr) : Prop where
  sh : shapeE K C = true
  ini : PySem.W.findIn K (.ref C) "__init__" = PySem.W.findIn K (.ref L) "__init__"
  cal : PySem.W.specialIn K (.ref C) "__call__" = some (some (.builtin "type.__call__"))
  ty : PySem.W.instIn K (.ref C) (.type "type") = some true
  sa : PySem.W.findIn K (.ref C) "__setattr__" = some (some (.builtin "object.__setattr__"))
  no : PySem.W.findIn K (.ref C) "line" = some none
  kp : PySem.W.keepIn K (.ref C) = true
noncomputable def iniOne (K : PySem.W.Frag) (C L : Addr) : Bool :=
  shapeE K C && PySem.W.findIn K (.ref C) "__init__" == PySem.W.findIn K (.ref L) "__init__" && PySem.W.specialIn K (.ref C) "__call__" == some (some (.builtin "type.__call__")) && PySem.W.instIn K (.ref C) (.type "type") == some true &&
  PySem.W.findIn K (.ref C) "__setattr__" == some (some (.builtin "object.__setattr__")) && PySem.W.findIn K (.ref C) "line" == some none && PySem.W.keepIn K (.ref C)
noncomputable def iniOk (K : PySem.W.Frag) (names : List Str) (er : Str → Addr) : Bool := names.all fun x => !hasIn x || iniOne K (er x) (er "LineError")
noncomputable def IniT (K : PySem.W.Frag) (names : List Str) (er : Str → Addr) : Prop := ∀ x ∈ names, hasIn x = true → IniE K (er x) (er "LineError")
theorem iniT_of {K : PySem.W.Frag} {names : List Str} {er : Str → Addr} (e : iniOk K names er = true) : IniT K names er := fun x hx hh => by
  have z := List.all_eq_true.mp e x hx
  rw [hh] at z
  simp only [Bool.not_true, Bool.false_or, iniOne, Bool.and_eq_true, beq_iff_eq] at z
  obtain ⟨⟨⟨⟨⟨⟨a, b⟩, c⟩, d⟩, e⟩, f⟩, g⟩ := z
  exact ⟨a, b, c, d, e, f, g⟩
noncomputable def ErrM (a C : Addr) (d : Option Addr) : Heap → Prop := fun h => ∃ t, h.get? a = some (excObj C t d)
noncomputable def mkH (a C : Addr) (d : Option Addr) : HO := .ext (ErrM a C d)
theorem mkH_ok {P : Program} {w : World} {H : Hp} {h : Heap} {a C t : Addr} {d : Option Addr} (e : h.get? a = some (excObj C t d)) : ObjOk P w H h a (mkH a C d) := ⟨⟨t, e⟩, ⟨_, e⟩, fun h1 h2 ⟨t1, e1⟩ k => ⟨t1, k _ e1⟩⟩
theorem xd_ok {P : Program} {w : World} {H : Hp} {h : Heap} {dx : Addr} {y : V} {u : Value} (n : h.Ns1 dx (fun z => if z = "line" then some u else none)) (r : RelV y u) : ObjOk P w H h dx (.xd [("line", y)]) := by
  refine ⟨_, n, fun f => ?_⟩
  show RelO (List.lookup f [("line", y)]) (if f = "line" then some u else none)
  by_cases c : f = "line"
  · have hb : (f == ("line" : Str)) = true := beq_iff_eq.mpr c
    simp only [List.lookup, hb, if_pos c]; exact r
  · have hb : (f == ("line" : Str)) = false := beq_eq_false_iff_ne.mpr c
    simp only [List.lookup, hb, if_neg c]; exact trivial
noncomputable def rmv (H : Hp) (a : Addr) : Hp := fun b => if b = a then none else H b
section
variable {X : Cx} {pins : List (Addr × Obj)} {σ : St} {H : Hp} {s : Shared} {a : Addr} {φ ψ : Heap → Prop}
theorem Inv.drop (I : Inv X pins σ H s) (e : H a = some (.ext φ)) : Inv X pins σ (rmv H a) s := by
  have r1 : ∀ b, H b = none → rmv H a b = none := fun b h => by unfold rmv; split <;> first | rfl | exact h
  have r2 : ∀ b u, H b = some u → (∀ ψ, u ≠ .ext ψ) → rmv H a b = some u := fun b u h n => by
    unfold rmv
    rw [if_neg fun z => by rw [z, e] at h; cases h; exact n _ rfl]
    exact h
  refine ⟨I.ok, I.os, I.bare, ⟨I.base.keep, I.base.slot, fun b u q n hx => r1 b (I.base.free b u q n hx), I.base.there, fun b xs q => r2 b _ (I.base.tups b xs q) (fun _ z => by cases z), fun b u v q => r2 b _ (I.base.frzs b u v q) (fun _ z => by cases z), fun b ps q => ?_⟩, I.loc, I.cell, r1 _ I.free, fun x c q => r1 _ (I.freeC x c q), fun p hp => ?_, fun b u q => ?_, I.len⟩
  · obtain ⟨more, z⟩ := I.base.tbls b ps q; exact ⟨more, r2 b _ z (fun _ z => by cases z)⟩
  · obtain ⟨q1, q2, q3⟩ := I.pin p hp; exact ⟨q1, r1 _ q2, q3⟩
  · have hb : H b = some u := by
      unfold rmv at q
      by_cases c : b = a
      · rw [if_pos c] at q; cases q
      · rw [if_neg c] at q; exact q
    exact (I.hok b u hb).stay (fun c v _ q => q) (fun c q => r2 c _ q (fun _ z => by cases z)) fun c xs q => r2 c _ q (fun _ z => by cases z)
end
noncomputable def sLe (names : List Str) (er : Str → Addr) (ta tv : TE) : TS := fun D σ H => tv σ H fun y H1 => ta σ H1 fun x H2 => ∃ a n, x = .ref a ∧ n ∈ names ∧ hasIn n = true ∧ H2 a = some (mkH a (er n) none) ∧
  ∀ dx, H2 dx = none → D.nx σ (upd (upd H2 a (mkH a (er n) (some dx))) dx (.xd [("line", y)]))
section
variable {X : Cx} {N W G names : List Str} {er : Str → Addr} {k n : Nat} {x : Str} {p pos pos' : Pos} {e o value : Expr} {ta tv : TE} {t : TA} {E : XK}
theorem sle (IT : IniT X.K names er) (ha : QE X o ta) (hv : QE X value tv) (hs : swapsWith value (some (.Attribute o "line" pos')) pos.line X.env = pure false := by rfl) : QS X (.Assign [.Attribute o "line" pos'] value pos) (sLe names er ta tv) := by
  refine ⟨fun pins s σ H D I h => plainObj_wpAny_Assign_Attribute (thn (hv.h pins s σ H _ I h) fun u s1 ⟨y, H1, I1, ry, q⟩ => thn (ha.h pins s1 σ H1 _ I1 q) fun ov s2 ⟨x, H2, I2, rx, a, n, ex, hn, hh, ea, q2⟩ => ?_) hs⟩
  subst ex
  obtain rfl : ov = Value.ref a := rx
  have T := IT n hn hh
  obtain ⟨⟨t, et⟩, _⟩ := I2.hok a _ ea
  refine set_err I2.kIn et T.sa T.no T.sh fun h' e1 n1 k1 => ?_
  have hfree : H2 s2.heap.objs.size = none := I2.hok.fresh (Nat.le_refl _)
  have hne : s2.heap.objs.size ≠ a := (ne_of_none ea hfree).symm
  have J1 : Inv X pins σ (upd H2 a (mkH a (er n) (some s2.heap.objs.size))) { s2 with heap := h', toks := s2.toks + 2 } := I2.write (x := a) (e := a) (by rw [ea]; exact True.intro) (.inl rfl) k1 ⟨_, e1⟩ (mkH_ok e1)
  refine ⟨σ, _, J1.track (a := s2.heap.objs.size) (o := .xd [("line", y)]) (by rw [upd_ne hne]; exact hfree) (Heap.get?_none_of_le I2.sz) (Nat.ne_of_gt I2.lt) (fun z c ez => ?_) (fun pp hp => ?_) (xd_ok n1 ry), q2 _ hfree⟩
  · obtain ⟨v, ob, hob, _⟩ := I2.cell z c ez
    exact Nat.ne_of_lt (Heap.lt_size hob)
  · exact Nat.ne_of_lt (Heap.lt_size (I2.pin pp hp).1)
noncomputable def spIni (names : List Str) (er : Str → Addr) : Sp := fun vs H Q _ => ∃ a n v, vs = [.ref a, v] ∧ n ∈ names ∧ hasIn n = true ∧ H a = some (mkH a (er n) none) ∧ ∀ dx, H dx = none → Q .non (upd (upd H a (mkH a (er n) (some dx))) dx (.xd [("line", v)]))
theorem mk_err (S : Sc X N W G) (g : Nat) (ER : ErrT X.K X.mg names er) (IT : IniT X.K names er) (F : FnM X.prog X.w X.K X.mg X.base k (er "LineError") "__init__" ["self", "line"] (spIni names er)) (hr : Room n X.A) (hx : x ∈ names) (hh : hasIn x = true) (ha : QB X [e] t)
    (hk : k + 1 ≤ n) (hg : G[g]? = some x) {pins : List (Addr × Obj)} {s : Shared} {σ : St} {H : Hp} {R : V → Hp → Prop} (I : Inv X pins σ H s) (h : t σ H fun vs H1 => ∃ v, vs = [v] ∧ R v H1) :
    wpAny (model X.prog X.w) X.A (eval (.Call (.Name x p) [e] [] pos) X.env) (fun u s' => ∃ a dx v H1, u = .ref a ∧ Inv X pins σ (upd (upd H1 a (mkH a (er x) (some dx))) dx (.xd [("line", v)])) s' ∧ H1 a = none ∧ H1 dx = none ∧ dx ≠ a ∧ X.s₀.heap.get? a = none ∧ R v H1) X.xe s := by
  obtain ⟨f, fd, F, Me, hb⟩ := F.ex
  have T := IT x hx hh
  have qg := S.gl x (List.mem_of_getElem? hg)
  refine wpAny_Call_Name_kw (ld_glob I qg.1 (ER.gl x hx) ?_ qg.2.1)
  refine PySem.W.callWith_K (h₀ := X.base) I.ok.mod.kin T.kp (thn (ha.h.pa pos pins s σ H _ I h) fun us s1 ⟨vs, H1, I1, r, v, ev, q⟩ => ⟨I1.kIn, ?_⟩) (star_cons ha.h.he) (plain_of ha.h.hes)
  subst ev
  obtain ⟨u, rfl, ru⟩ := vals1 r
  obtain ⟨bm, Sh, _⟩ := shape_of I1.kIn T.sh
  have na : H1 (s1.heap.objs.size + 1) = none := I1.hok.fresh (Nat.le_succ _)
  have nt : H1 s1.heap.objs.size = none := I1.hok.fresh (Nat.le_refl _)
  have kk : ∀ b o, s1.heap.get? b = some o → ((s1.heap.push (argTup [u])).push (excObj (er x) s1.heap.objs.size none)).get? b = some o := fun b o e => Heap.get?_push_of_some _ (Heap.get?_push_of_some _ e)
  have hat : ((s1.heap.push (argTup [u])).push (excObj (er x) s1.heap.objs.size none)).get? (s1.heap.objs.size + 1) = some (excObj (er x) s1.heap.objs.size none) := by heap_get
  have I2 : Inv X pins σ (upd H1 (s1.heap.objs.size + 1) (mkH (s1.heap.objs.size + 1) (er x) none)) { s1 with heap := (s1.heap.push (argTup [u])).push (excObj (er x) s1.heap.objs.size none) } := I1.laid (t' := s1.toks) kk (Nat.le_succ _) (mkH_ok hat)
  let Q : VK := fun z H2 => z = .non ∧ ∃ dx, H1 dx = none ∧ dx ≠ s1.heap.objs.size + 1 ∧ H2 = upd (upd H1 (s1.heap.objs.size + 1) (mkH (s1.heap.objs.size + 1) (er x) (some dx))) dx (.xd [("line", v)])
  have hsp : spIni names er [.ref (s1.heap.objs.size + 1), v] (upd H1 (s1.heap.objs.size + 1) (mkH (s1.heap.objs.size + 1) (er x) none)) Q E0 := by
    refine ⟨_, x, v, rfl, hx, hh, upd_same, fun dx hd => ⟨rfl, dx, ?_, ?_, by rw [upd_upd]⟩⟩
    · have ne : dx ≠ s1.heap.objs.size + 1 := fun z => by rw [z, upd_same] at hd; cases hd
      rw [upd_ne ne] at hd; exact hd
    · exact fun z => by rw [z, upd_same] at hd; cases hd
  have r2 : Vals [V.ref (s1.heap.objs.size + 1), v] [Value.ref (s1.heap.objs.size + 1), u] := .cons rfl (.cons ru .nil)
  have hbd := hb { s1 with heap := (s1.heap.push (argTup [u])).push (excObj (er x) s1.heap.objs.size none) } [Value.ref (s1.heap.objs.size + 1), u] I2.kIn rfl
  rw [List.append_nil] at hbd
  obtain ⟨hp1, g1, d1, t1, os1⟩ := s1
  refine wpAny_call (make_err (f := f) I1.kIn Sh (by show 1 ≤ sizeLine; decide) (T.ini.trans Me.at_) (beq_iff_eq.mp Me.fn) T.cal T.ty (codeAny_mono (F.run _ X.stack _ _ ⟨[Value.ref (hp1.objs.size + 1), u], []⟩ _ _ Q E0 ((hr.mono hk).make (er x) [u] []) (I2.env0.make (er x) [u] []) hbd r2 hsp) fun r s' hq' => ?_))
  cases r with
  | error e =>
    obtain ⟨_, _, _, _, _, _, _, _, _, _, _, _, _, z⟩ := hq'
    exact z.elim
  | ok fl =>
    cases fl with
    | ret u =>
      obtain ⟨v', H', I3, rv, ev, dx, hd, hne, eH⟩ := I2.after hq'
      subst ev eH
      exact ⟨rv, ⟨hp1.objs.size + 1, dx, v, H1, rfl, I3, na, hd, hne, Heap.get?_none_of_le (Nat.le_trans I1.sz (Nat.le_succ _)), q⟩⟩
    | next => exact False.elim hq'
    | brk => exact False.elim hq'
    | cont => exact False.elim hq'
noncomputable def RaisesF (X : Cx) (E : XK) : Prop := ∀ (pins : List (Addr × Obj)) (σ : St) (H : Hp) (s : Shared) (e C t : Addr) (d : Option Addr), Inv X pins σ H s → s.heap.get? e = some (excObj C t d) → X.s₀.heap.get? e = none → H e = none → E (.ref C) d H → X.xe (.ref e) s
noncomputable def tRaiseF (E : XK) (er : Str → Addr) (x : Str) (t : TA) : TS := fun _ σ H => t σ H fun vs H1 => ∃ v, vs = [v] ∧ ∀ dx, H1 dx = none → E (.ref (er x)) (some dx) (upd H1 dx (.xd [("line", v)]))
theorem sraisef {cpos : Pos} (S : Sc X N W G) (g : Nat) (hc : X.calm = true) (hx : RaisesF X E) (ER : ErrT X.K X.mg names er) (IT : IniT X.K names er) (F : FnM X.prog X.w X.K X.mg X.base k (er "LineError") "__init__" ["self", "line"] (spIni names er)) (hr : Room n X.A) (ha : QB X [e] t)
    (hxn : x ∈ names := by decide) (hh : hasIn x = true := by decide) (hk : k + 1 ≤ n := by decide) (hg : G[g]? = some x := by rfl) : QS X (.Raise (some (.Call (.Name x p) [e] [] cpos)) none pos) (tRaiseF E er x t) := by
  refine ⟨fun pins s σ H D I h => ?_⟩
  rw [arm_exec_Raise]
  have go := mk_err (p := p) (pos := cpos) S g ER IT F hr hxn hh ha hk hg I h
  refine wpAny_bind (wpAny_standAt (raise_err (I.ok.hd hc) (wpAny_bind (wpAny_mono go (fun u s' ⟨a, dx, v, H1, eu, J, na, nd, ne, n0, q⟩ => wpAny_bind (wpAny_standAt (wpAny_pure ?_))) fun _ _ z => z))))
  subst eu
  have ea : upd (upd H1 a (mkH a (er x) (some dx))) dx (.xd [("line", v)]) a = some (mkH a (er x) (some dx)) := by rw [upd_ne ne.symm, upd_same]
  obtain ⟨⟨t1, et⟩, _⟩ := J.hok a _ ea
  obtain ⟨bm, Sh, _⟩ := shape_of J.kIn (IT x hxn hh).sh
  have eH : rmv (upd (upd H1 a (mkH a (er x) (some dx))) dx (.xd [("line", v)])) a = upd H1 dx (.xd [("line", v)]) := by
    funext b; unfold rmv upd
    by_cases c : b = a
    · rw [if_pos c, c, if_neg (Ne.symm ne), na]
    · rw [if_neg c, if_neg c]
  refine ⟨a, t1, er x, some dx, bm, rfl, Sh, et, hx pins σ _ s' a (er x) t1 (some dx) (J.drop ea) et n0 ?_ ?_⟩
  · unfold rmv; rw [if_pos rfl]
  · rw [eH]; exact q dx nd
noncomputable def tErL (names : List Str) (er : Str → Addr) (ta : TE) : TE := fun σ H Q => ta σ H fun x H1 => ∃ a n dx v, x = .ref a ∧ n ∈ names ∧ hasIn n = true ∧ H1 a = some (errH a (er n) (some dx)) ∧ H1 dx = some (.xd [("line", v)]) ∧ Q v H1
theorem kle (ER : ErrT X.K X.mg names er) (IT : IniT X.K names er) (he : QE X e ta) (hb : attributeBase e "line" X.env (eval e X.env) = eval e X.env := by rfl) : QE X (.Attribute e "line" pos) (tErL names er ta) := by
  refine ⟨fun pins s σ H Q I h => attr_of hb (thn (he.h pins s σ H _ I h) fun u s1 ⟨x, H1, I1, rx, a, n, dx, v, ex, hn, hh, ea, ed, q⟩ => ?_)⟩
  subst ex
  obtain rfl : u = Value.ref a := rx
  obtain ⟨⟨o, eo, h1, h2, vs, h3⟩, _⟩ := I1.hok a _ ea
  obtain ⟨mA, ns, r⟩ := I1.hok dx _ ed
  obtain ⟨od, hod, hl⟩ := lookIn_ns ns
  have T := IT n hn hh
  obtain ⟨bm, Sh, cd, hc, hd, _⟩ := shape_of I1.kIn T.sh
  obtain ⟨u, hu, ru⟩ := RelO.some_of (v := v) (o := mA "line") (r "line")
  have J : PySem.W.InstAt s1.heap a o (er n) (some od) := ⟨eo, h1, by unfold PySem.W.notCls; rw [h3], by rw [h2]; exact hod⟩
  obtain ⟨hp, g, d, t, os⟩ := s1
  exact exc_attr (K := X.K) I1.kIn J (ER.cls n hn).toExcGet (PySem.W.findObj_own (by unfold PySem.W.hasDictIn; rw [hc]; exact hd) T.no rfl (by rw [hl, hu])) (handed_of ru) ⟨v, H1, I1.tok _, ru, q⟩
end
section
variable {σ : St} {H : Hp} {Q : VK} {D : Ends} {E : XK} {t : TA} {ta tv : TE} {names : List Str} {er : Str → Addr} {x : Str}
theorem q_sle : sLe names er ta tv D σ H = tv σ H fun y H1 => ta σ H1 fun x H2 => ∃ a n, x = .ref a ∧ n ∈ names ∧ hasIn n = true ∧ H2 a = some (mkH a (er n) none) ∧ ∀ dx, H2 dx = none → D.nx σ (upd (upd H2 a (mkH a (er n) (some dx))) dx (.xd [("line", y)])) := rfl
theorem q_raisef : tRaiseF E er x t D σ H = t σ H fun vs H1 => ∃ v, vs = [v] ∧ ∀ dx, H1 dx = none → E (.ref (er x)) (some dx) (upd H1 dx (.xd [("line", v)])) := rfl
theorem q_le : tErL names er ta σ H Q = ta σ H fun x H1 => ∃ a n dx v, x = .ref a ∧ n ∈ names ∧ hasIn n = true ∧ H1 a = some (errH a (er n) (some dx)) ∧ H1 dx = some (.xd [("line", v)]) ∧ Q v H1 := rfl
end
section
variable {P : Program} {w : World} {K : PySem.W.Frag} {mg : Str → Option Value} {base : Heap} {k : Nat} {x : Str} {N ps G : List Str} {p1 p2 : Str} {i : Int} {sp : Sp} {st : Stmt}
theorem Def.gf (D : Def K mg x st) (S : DS (defScope st) N ps G)
    (hb : ∀ (kV doc pm : Value) (an : Option Addr) (cdv ct : Value) (us : List Value), us.length = ps.length → bindArgs (PySem.W.fnOf x x (defArgs st) (defBody st) (defScope st) .none kV doc pm an cdv ct) ⟨us, []⟩ = pure (ps.zip us))
    (len : ∀ vs H Q E, sp vs H Q E → vs.length = ps.length)
    (hbody : ∀ (X : Cx) (E : XK), Sc X N N G → X.prog = P → X.w = w → X.K = K → X.mg = mg → X.base = base → X.calm = true → X.env.scope = defScope st → RaisesF X E → Passes (CXE P w) X E → Room k X.A → X.A.units + 64 < cLine →
      ∀ (H : Hp) (vs : List V) (Q : VK), sp vs H Q E → ∃ t, QSs X (defBody st) t ∧ t { nx := fun _ H' => Q .non H', rt := Q } (L2.start N vs) H) : FnE P w K mg base (k + 1) x ps sp := by
  obtain ⟨f, fd, F, m⟩ := D.ex
  refine ⟨f, fd, ?_, m, F.kp, F.binds hb⟩
  obtain ⟨oc, od, kV, doc, pm, an, cdv, ct, osl, rfl, lk, hcd⟩ := F.ex
  refine fn_of lk hcd S.fs len fun A outer s H vs Q E hr hsp => ?_
  obtain ⟨t, h, q⟩ := hbody _ E S.cxE rfl rfl rfl rfl rfl rfl rfl (fun _ _ _ _ _ _ _ _ I e n hn q => leave_obj I e n hn rfl rfl rfl rfl q) passes_cx hr hr.units H vs Q hsp
  exact ⟨t, h.h, q⟩
structure FnG (P : Program) (w : World) (K : PySem.W.Frag) (mg : Str → Option Value) (base : Heap) (k : Nat) (x p1 p2 : Str) (i : Int) (sp : Sp) : Prop where
  ex : ∃ f fd t, FnOk P w K mg base (CXE P w) k f fd [p1, p2] sp ∧ mg x = some (.ref f) ∧ PySem.W.keepIn K (.ref f) = true ∧ Binds K fd [p1, p2] [] ∧ Binds K fd [p1, p2] [.int i t] ∧ KBinds K fd [p1, p2] [p2] g11 g11
theorem DefD.gf (D : DefD K mg x st i) (S : DS (defScope st) N [p1, p2] G) (hb : bindD x st p1 p2)
    (len : ∀ vs H Q E, sp vs H Q E → vs.length = 2)
    (hbody : ∀ (X : Cx) (E : XK), Sc X N N G → X.prog = P → X.w = w → X.K = K → X.mg = mg → X.base = base → X.calm = true → X.env.scope = defScope st → RaisesF X E → Passes (CXE P w) X E → Room k X.A → X.A.units + 64 < cLine →
      ∀ (H : Hp) (vs : List V) (Q : VK), sp vs H Q E → ∃ t, QSs X (defBody st) t ∧ t { nx := fun _ H' => Q .non H', rt := Q } (L2.start N vs) H) : FnG P w K mg base (k + 1) x p1 p2 i sp := by
  obtain ⟨f, fd, t, F, hm⟩ := D.ex
  obtain ⟨oc, od, T, kV, doc, pm, an, cdv, ct, osl, o, n, rfl, lk, hcd, lt, ld⟩ := F.ex
  refine ⟨f, _, t, fn_of lk hcd S.fs len fun A outer s H vs Q E hr hsp => ?_, hm, F.kp, fun s us hK hl => ?_, fun s us hK hl => ?_, fun s us ws hK hl => ?_, fun a b => g11_vals a b⟩
  · obtain ⟨t, h, q⟩ := hbody _ E S.cxE rfl rfl rfl rfl rfl rfl rfl (fun _ _ _ _ _ _ _ _ I e n hn q => leave_obj I e n hn rfl rfl rfl rfl q) passes_cx hr hr.units H vs Q hsp
    exact ⟨t, h.h, q⟩
  · rw [List.append_nil] at hl ⊢
    match us, hl with
    | [u, v], _ =>
      obtain ⟨k, e1, e2⟩ := (hb T kV doc pm an cdv ct u v).2.1
      exact PySem.W.binds_K hK rfl lt ld e1 (e2 _)
  · obtain ⟨u, rfl⟩ : ∃ u, us = [u] := by
      rw [List.length_append] at hl
      have : us.length = 1 := by simpa using hl
      exact List.length_eq_one_iff.mp this
    obtain ⟨k, e1, e2⟩ := (hb T kV doc pm an cdv ct u u).1
    exact PySem.W.binds_K hK rfl lt ld e1 (e2 _)
  · obtain ⟨u, v, rfl, rfl⟩ : ∃ u v, us = [u] ∧ ws = [v] := by
      match us, ws, hl with
      | [u], [v], _ => exact ⟨u, v, rfl, rfl⟩
    obtain ⟨k, e1, e2⟩ := (hb T kV doc pm an cdv ct u v).2.2
    exact PySem.W.binds_K hK rfl lt ld e1 (e2 _)
end
section
variable {X : Cx} {N W G : List Str} {k m : Nat} {x p1 p2 : Str} {i : Int} {sp : Sp} {p pos kpos : Pos} {e e2 : Expr} {t tk : TA} {E : XK}
theorem kge2 (S : Sc X N W G) (g : Nat) (F : FnG X.prog X.w X.K X.mg X.base k x p1 p2 i sp) (hx : Passes (CXE X.prog X.w) X E) (hr : Room m X.A) (ha : QB X [e, e2] t) (hk : k ≤ m := by decide) (hg : G[g]? = some x := by rfl) : QE X (.Call (.Name x p) [e, e2] [] pos) (tCall sp [] E t) := by
  obtain ⟨f, fd, t', F, hm, hkp, hb, _⟩ := F.ex
  have q := S.gl _ (List.mem_of_getElem? hg)
  exact ⟨pe_call F (hr.mono hk) q.1 hm hkp hb .nil hx ha.h.pa q.2.1 (star_cons ha.h.he) (plain_of ha.h.hes)⟩
end
end L2
namespace L2
open PySem PySem.Spec PyProof.Rows KM
section
variable {X : Cx}
end
theorem mem_join {c k : Nat} : ∀ {l : List Str}, k ∈ cz (Str.join ⟨#[c]⟩ l) → k = c ∨ ∃ x ∈ l, k ∈ cz x
  | [], h => by cases h
  | [x], h => .inr ⟨x, List.mem_singleton.mpr rfl, h⟩
  | x :: y :: r, h => by
    rw [cz_join2, List.mem_append, List.mem_append] at h
    rcases h with (h | h) | h
    · exact .inr ⟨x, List.mem_cons_self, h⟩
    · exact .inl (List.mem_singleton.mp h)
    · rcases mem_join h with z | ⟨w, hw, z⟩
      · exact .inl z
      · exact .inr ⟨w, List.mem_cons_of_mem _ hw, z⟩
theorem join_cnt (c : Nat) : ∀ {l : List Str}, l.length ≤ (Str.join ⟨#[c]⟩ l).length + 1
  | [] => by simp
  | [x] => by simp
  | x :: y :: r => by
    have ih := join_cnt c (l := y :: r)
    have e : (Str.join ⟨#[c]⟩ (x :: y :: r)).length = x.length + 1 + (Str.join ⟨#[c]⟩ (y :: r)).length := by
      rw [cz_length, cz_join2, List.length_append, List.length_append, ← cz_length, ← cz_length]; rfl
    rw [List.length_cons]
    omega
theorem split_cnt (z : Str) : (Txt.split z ⟨#[32]⟩).length ≤ z.length + 1 := by
  have := join_cnt 32 (l := Txt.split z ⟨#[32]⟩)
  rw [StrLaws.join_split] at this
  exact this
theorem count_int {x : Str} (h : countB x = true) : ∃ c : Int, intText? x = some c := by
  have h30 := count_len h
  unfold countB at h
  rw [Bool.and_eq_true, Bool.and_eq_true, List.all_eq_true] at h
  refine ⟨_, intText_digits (fun c hc => digB_iff.mp (h.2.2 c hc)) ?_ (by omega)⟩
  have := (of_decide_eq_true h.1).1
  rw [cz_length] at this
  intro e
  rw [show (cz x).length = 0 by show x.cps.toList.length = 0; rw [e]; rfl] at this
  omega
theorem slice_fromM {x : Str} (k : Nat) : cz (StrLaws.sliceText x (some (k : Int)) none) = (cz x).drop k := by
  by_cases h : k ≤ x.length
  · exact slice_from h
  · have e : StrLaws.sliceText x (some (k : Int)) none = StrLaws.sliceText x (some ((x.length : Nat) : Int)) none := by
      unfold StrLaws.sliceText
      have : Builtin.Str.strSliceIndices (some (k : Int)) none 1 x.length = Builtin.Str.strSliceIndices (some ((x.length : Nat) : Int)) none 1 x.length := by
        unfold Builtin.Str.strSliceIndices
        dsimp only
        rw [if_neg (show ¬ ((k : Int) < 0) by omega), if_neg (show ¬ (((x.length : Nat) : Int) < 0) by omega), if_pos (by decide), if_pos (by decide), if_pos (by decide), show max (0 : Int) (min (k : Int) (x.length : Int)) = max 0 (min ((x.length : Nat) : Int) (x.length : Int)) by omega]
      rw [this]
    rw [e, slice_from (Nat.le_refl _), List.drop_eq_nil_of_le (by rw [cz_length]; omega), List.drop_eq_nil_of_le (by rw [cz_length] at h; omega)]
theorem slice_toM {x : Str} (k : Nat) : cz (StrLaws.sliceText x none (some (k : Int))) = (cz x).take k := by
  by_cases h : k ≤ x.length
  · exact slice_to h
  · have e : StrLaws.sliceText x none (some (k : Int)) = StrLaws.sliceText x none (some ((x.length : Nat) : Int)) := by
      unfold StrLaws.sliceText
      have : Builtin.Str.strSliceIndices none (some (k : Int)) 1 x.length = Builtin.Str.strSliceIndices none (some ((x.length : Nat) : Int)) 1 x.length := by
        unfold Builtin.Str.strSliceIndices
        dsimp only
        rw [if_neg (show ¬ ((k : Int) < 0) by omega), if_neg (show ¬ (((x.length : Nat) : Int) < 0) by omega), show max (0 : Int) (min (k : Int) (x.length : Int)) = max 0 (min ((x.length : Nat) : Int) (x.length : Int)) by omega]
        rfl
      rw [this]
    rw [e, slice_to (Nat.le_refl _), List.take_of_length_le (by rw [cz_length]; omega), List.take_of_length_le (by rw [cz_length] at h; omega)]
theorem slice_lenF {x : Str} (k : Nat) : (StrLaws.sliceText x (some (k : Int)) none).length ≤ x.length := by rw [cz_length, slice_fromM, cz_length, List.length_drop]; omega
theorem slice_lenT {x : Str} (k : Nat) : (StrLaws.sliceText x none (some (k : Int))).length ≤ x.length := by rw [cz_length, slice_toM, cz_length, List.length_take]; omega
theorem forS {z : Str} {g : TG} {tb : TS} {D : Ends} {σ : St} {H : Hp} (I : Nat → St → Hp → Prop) (h0 : I 0 σ H)
    (step : ∀ i σ H, i < (cz z).length → I i σ H → g (.str ⟨#[(cz z).getD i 0]⟩) σ H fun σ2 H2 => tb { D with nx := I (i + 1), ct := I (i + 1), bk := D.nx } σ2 H2)
    (fin : ∀ σ H, I (cz z).length σ H → D.nx σ H) : ∃ y, V.str z = .str y ∧ rFor g tb D σ (Itx y) H := by
  refine ⟨z, rfl, fun i m σ H => m = z.cps.size - i ∧ i ≤ z.cps.size ∧ I i σ H, ⟨_, rfl, Nat.zero_le _, h0⟩, ?_⟩
  rintro i m σ H ⟨rfl, hi, p⟩
  by_cases hlt : i < z.cps.size
  · refine .inr ⟨hlt, I (i + 1), fun σ' H' p' => ⟨z.cps.size - (i + 1), by omega, rfl, hlt, p'⟩, fun x H' y => ?_⟩
    obtain ⟨rfl, c, e, rfl⟩ := y
    have := step i σ _ (by rw [Array.length_toList]; exact hlt) p
    rw [show (cz z).getD i 0 = c by rw [List.getD_eq_getElem?_getD, Array.getElem?_toList, e]; rfl] at this
    exact this
  · have e : i = z.cps.size := by omega
    refine .inl ⟨by show z.cps.size ≤ i; omega, fin σ H ?_⟩
    rw [Array.length_toList, ← e]; exact p
noncomputable def OkS (z : Str) : Prop := ∀ c ∈ cz z, c < 1114112
theorem OkS.join {l : List Str} (h : ∀ x ∈ l, OkS x) : OkS (Str.join ⟨#[32]⟩ l) := fun c hc => by
  rcases mem_join hc with z | ⟨x, hx, z⟩
  · omega
  · exact h x hx c z
theorem part_mem {c k : Nat} : ∀ {l : List Str} {x : Str}, x ∈ l → k ∈ cz x → k ∈ cz (Str.join ⟨#[c]⟩ l)
  | [], x, h, _ => nomatch h
  | [y], x, h, hk => by rw [← List.mem_singleton.mp h]; exact hk
  | y :: z :: r, x, h, hk => by
    rw [cz_join2, List.mem_append, List.mem_append]
    rcases List.mem_cons.mp h with rfl | h
    · exact .inl (.inl hk)
    · exact .inr (part_mem h hk)
theorem OkS.part {z x : Str} (h : OkS z) (hx : x ∈ Txt.split z ⟨#[32]⟩) : OkS x := fun c hc => h c (by
  have := part_mem (c := 32) hx hc
  rw [StrLaws.join_split] at this
  exact this)
theorem OkS.ok {z : Str} (h : OkS z) : PyData.strOk z = true := by
  show (z.cps.all fun x => decide (x < 1114112)) = true
  rw [← Array.all_toList, List.all_eq_true]
  exact fun c hc => decide_eq_true (h c hc)
theorem lay_okS : ∀ l : List Str, (∀ x ∈ l, OkS x) → PyData.canLayAll0 (l.map PyData.str) = true
  | [], _ => by simp [PyData.canLayAll0]
  | x :: r, h => by simp [PyData.canLayAll0, PyData.canLay0, lay_okS r fun x hx => h x (List.mem_cons_of_mem _ hx), (h x List.mem_cons_self).ok]
theorem list_shaped {l : List Str} (h : ∀ x ∈ l, OkS x) : PySem.SeqAt.shaped (.list (l.map PyData.str)) = true := shaped_of
  (by simp [PyData.canLay0, lay_okS l h])
  (by have := depth_strs l; simp only [PyData.depth]; omega)
theorem eqvS_nil (l : List Str) : PyData.eqv (.list (l.map PyData.str)) (.list []) = l.isEmpty := by cases l <;> simp [PyData.eqv, PyData.eqvAll]
theorem OkS.low {z : Str} (h : LowS z) : OkS z := fun c hc => by
  have h2 := of_decide_eq_true (h c hc)
  have : ∀ c ∈ cz letS, c < 1114112 := by decide +kernel
  exact this c h2
theorem OkS.count {z : Str} (h : countB z = true) : OkS z := fun c hc => by
  unfold countB at h
  rw [Bool.and_eq_true, Bool.and_eq_true, List.all_eq_true] at h
  have := digB_iff.mp (h.2.2 c hc)
  omega
end L2
namespace L2
open PySem PySem.Spec PyProof.Rows KM
noncomputable abbrev wz (z : Str) : List Str := Txt.split z ⟨#[32]⟩
noncomputable def errK (z : Str) : Option Nat := if hatB (wz z) = true then none else if seesB (wz z) = true then (if ((wz z).drop 1).Nodup then none else some 1) else some 0
noncomputable def errN : Nat → Str
  | 0 => "NoLine"
  | 1 => "Twice"
  | 2 => "Unknown"
  | _ => "TooMany"
noncomputable def Told (H : Hp) (f : Addr) (z : Str) : Prop := (hatB (wz z) = true ∧ ∃ c, intText? ((wz z).getD 2 noS) = some c ∧ HatAt H f ((wz z).getD 1 noS) c) ∨ (hatB (wz z) = false ∧ seesB (wz z) = true ∧ SeesAt H f ((wz z).getD 1 noS) ((wz z).drop 2))
theorem errK_hat {z : Str} (h : hatB (wz z) = true) : errK z = none := by unfold errK; rw [if_pos h]
theorem errK_no {z : Str} (h : hatB (wz z) = false) (s : seesB (wz z) = false) : errK z = some 0 := by unfold errK; rw [h, s]; rfl
theorem errK_twice {z : Str} (h : hatB (wz z) = false) (s : seesB (wz z) = true) (n : ¬ ((wz z).drop 1).Nodup) : errK z = some 1 := by unfold errK; rw [h, s, if_neg (by decide), if_pos rfl, if_neg n]
theorem errK_sees {z : Str} (h : hatB (wz z) = false) (s : seesB (wz z) = true) (n : ((wz z).drop 1).Nodup) : errK z = none := by unfold errK; rw [h, s, if_neg (by decide), if_pos rfl, if_pos n]
noncomputable def spReadR (er : Str → Addr) : Sp := fun vs H Q E => ∃ (z : Str) (i : Int), vs = [.str z, .int i] ∧ z.length ≤ 800 ∧ (∀ f H', errK z = none → Same H H' → Told H' f z → Q (.ref f) H') ∧
  (∀ k dx H', errK z = some k → Same H H' → H' dx = some (.xd [("line", .int i)]) → E (.ref (er (errN k))) (some dx) H')
noncomputable def allIn (z y : Str) : Bool := (cz z).all fun c => decide (c ∈ cz y)
noncomputable def spMadeOf : Sp := fun vs H Q _ => ∃ (z y : Str) (m : Nat), vs = [.str z, .str y, .int (m : Int)] ∧ z.length ≤ 1000000 ∧ Q (.bl (allIn z y && decide (1 ≤ z.length ∧ z.length ≤ m))) H
noncomputable def InvMo (H0 : Hp) (z y : Str) (m : Nat) (i : Nat) (σ : St) (H : Hp) : Prop := (∃ y3 : Option V, σ = [some (.str z), some (.str y), some (.int (m : Int)), y3]) ∧ H = H0 ∧ ((cz z).take i).all (fun c => decide (c ∈ cz y)) = true
structure Dn (H : Hp) (dr : Addr) (dn : List Int) (m : Nat) : Prop where
  at_ : H dr = some (.lst (dn.map V.int))
  len : dn.length = m
  nn : ∀ x ∈ dn, 0 ≤ x
theorem q_tryM {D : Ends} {σ : St} {H : Hp} {names : List Str} {er : Str → Addr} {tb : TSx} {i : Nat} {y : Str} {th : Addr → TS} : tTryH names er tb i y th D σ H =
  tb D (fun σ' C d H' => ∃ x, x ∈ names ∧ C = .ref (er x) ∧ isaE x y = true ∧ ∀ a, H' a = none → th a { nx := fun σ'' => D.nx (σ''.set i none), rt := D.rt, bk := fun σ'' => D.bk (σ''.set i none), ct := fun σ'' => D.ct (σ''.set i none) } (σ'.set i (some (.ref a))) (upd H' a (errH a (er x) d))) σ H := rfl
theorem nw {H H1 : Hp} {p : Addr} {o : HO} (hp : H p = none) (e : upd H p o = H1) : Same H H1 ∧ H1 p = some o := by subst e; exact ⟨Same.new hp _, upd_same⟩
section
variable {K : PySem.W.Frag} {H : Hp} {Q : VK} {a b : Addr} {xs zs : List V}
theorem to_catV (h : SqL K H a xs) (h' : SqL K H b zs) (hz : xs.length + zs.length ≤ sizeLine) (q : ∀ p H', Same H H' → H p = none → H' p = some (.lst (xs ++ zs)) → Q (.ref p) H') : rCatL K (.ref a) (.ref b) H Q :=
  ⟨a, b, xs, zs, rfl, rfl, h, h', hz, fun p hp => q p _ (Same.new hp _) hp upd_same⟩
theorem to_slF (k : Nat) (h : SqL K H a xs) (q : ∀ p H', Same H H' → H p = none → H' p = some (.lst (xs.drop k)) → Q (.ref p) H') : rSlL K (.ref a) (some (k : Int)) none H Q :=
  ⟨a, xs, rfl, h, fun p hp => q p _ (Same.new hp _) hp (by rw [cut_dropM]; exact upd_same)⟩
theorem to_slT (k : Nat) (h : SqL K H a xs) (q : ∀ p H', Same H H' → H p = none → H' p = some (.lst (xs.take k)) → Q (.ref p) H') : rSlL K (.ref a) none (some (k : Int)) H Q :=
  ⟨a, xs, rfl, h, fun p hp => q p _ (Same.new hp _) hp (by rw [cut_takeM]; exact upd_same)⟩
theorem to_pickS {ss : List Str} {i : Int} (h : SqL K H a (ss.map V.str)) (h0 : 0 ≤ i) (h1 : i < ss.length) (q : ∀ x ∈ ss, Q (.str x) H) : rIxL K (.ref a) (.int i) H Q := by
  obtain ⟨m, rfl⟩ := Int.eq_ofNat_of_zero_le h0
  exact to_ixL' h (atI_at (str_item (by omega))) (q _ (getD_memS (by omega)))
theorem to_drn {dn : List Int} {dr : Addr} {i : Int} {m : Nat} (h : Dn H dr dn m) (h0 : 0 ≤ i) (h1 : i < m) (q : ∀ x : Int, 0 ≤ x → Q (.int x) H) : rIxL K (.ref dr) (.int i) H Q := by
  obtain ⟨k, rfl⟩ := Int.eq_ofNat_of_zero_le h0
  have hm : k < dn.length := by have := h.len; omega
  exact to_ixL' (SqL.of h.at_) (atI_at (by rw [List.getElem?_map, List.getElem?_eq_getElem hm]; rfl)) (q _ (h.nn _ (List.getElem_mem hm)))
theorem Dn.mono {H' : Hp} {dr : Addr} {dn : List Int} {m : Nat} (h : Dn H dr dn m) (s : Same H H') : Dn H' dr dn m := ⟨s _ _ h.at_, h.len, h.nn⟩
end
theorem tryM {D : Ends} {σ : St} {H : Hp} {names : List Str} {er : Str → Addr} {tb : TSx} {i : Nat} {y : Str} {th : Addr → TS} (P : St → XK) (h1 : ∀ W : St → XK, (∀ σ' C d H', P σ' C d H' → W σ' C d H') → tb D W σ H)
    (h2 : ∀ σ' C d H', P σ' C d H' → ∃ x, x ∈ names ∧ C = .ref (er x) ∧ isaE x y = true ∧ ∀ a, H' a = none → th a { nx := fun σ'' => D.nx (σ''.set i none), rt := D.rt, bk := fun σ'' => D.bk (σ''.set i none), ct := fun σ'' => D.ct (σ''.set i none) } (σ'.set i (some (.ref a))) (upd H' a (errH a (er x) d))) : tTryH names er tb i y th D σ H := h1 _ h2
end L2
namespace L2
open PySem PySem.Spec PyProof.Rows KM
noncomputable def stepF (s : List Str × List Str) (z : Str) : Nat ⊕ (List Str × List Str) :=
  if hatB (wz z) = true then
    (if (wz z).getD 1 noS ∈ s.1 then .inl 1 else if s.1.length = 8 then .inl 3 else .inr (s.1 ++ [(wz z).getD 1 noS], s.2))
  else if seesB (wz z) = true then
    (if ¬ ((wz z).drop 1).Nodup ∨ (wz z).getD 1 noS ∈ s.2 then .inl 1 else if ∃ y ∈ (wz z).drop 1, y ∉ s.1 then .inl 2 else .inr (s.1, s.2 ++ [(wz z).getD 1 noS]))
  else .inl 0
noncomputable def runF : List Str × List Str → List Str → Option (List Str × List Str)
  | s, [] => some s
  | s, z :: r => match stepF s z with
    | .inl _ => none
    | .inr s' => runF s' r
noncomputable def firstF : Nat → List Str × List Str → List Str → Option (Nat × Nat)
  | _, _, [] => none
  | k, s, z :: r => match stepF s z with
    | .inl e => some (e, k)
    | .inr s' => firstF (k + 1) s' r
theorem run_next {s2 : List Str × List Str} {z : Str} : ∀ {L : List Str} {k : Nat} {s s1 : List Str × List Str}, runF s (L.take k) = some s1 → L[k]? = some z → stepF s1 z = .inr s2 → runF s (L.take (k + 1)) = some s2
  | [], k, s, s1, _, h, _ => by simp at h
  | x :: r, 0, s, s1, h, hx, e => by
    have h : some s = some s1 := h
    have hx : some x = some z := hx
    cases h; cases hx
    show runF s [_] = _
    rw [runF, e]; rfl
  | x :: r, k + 1, s, s1, h, hx, e => by
    rw [List.take_succ_cons, runF] at h ⊢
    cases c : stepF s x with
    | inl _ => rw [c] at h; cases h
    | inr s' =>
      rw [c] at h
      exact run_next (L := r) (k := k) h hx e
theorem first_at {z : Str} {e : Nat} : ∀ {L : List Str} {j k : Nat} {s s1 : List Str × List Str}, runF s (L.take k) = some s1 → L[k]? = some z → stepF s1 z = .inl e → firstF j s L = some (e, j + k)
  | [], j, k, s, s1, _, h, _ => by simp at h
  | x :: r, j, 0, s, s1, h, hx, he => by
    have h : some s = some s1 := h
    have hx : some x = some z := hx
    cases h; cases hx
    rw [firstF, he]; rfl
  | x :: r, j, k + 1, s, s1, h, hx, he => by
    rw [List.take_succ_cons, runF] at h
    rw [firstF]
    cases c : stepF s x with
    | inl _ => rw [c] at h; cases h
    | inr s' =>
      rw [c] at h
      have := first_at (L := r) (j := j + 1) (k := k) h hx he
      rw [show j + 1 + k = j + (k + 1) by omega] at this
      exact this
theorem first_none : ∀ {L : List Str} {j : Nat} {s s1 : List Str × List Str}, runF s L = some s1 → firstF j s L = none
  | [], j, s, s1, _ => rfl
  | x :: r, j, s, s1, h => by
    rw [runF] at h
    rw [firstF]
    cases c : stepF s x with
    | inl _ => rw [c] at h; cases h
    | inr s' => rw [c] at h; exact first_none (L := r) h
theorem stepF_lt {s : List Str × List Str} {z : Str} {e : Nat} (h : stepF s z = .inl e) : e < 4 := by
  unfold stepF at h
  split at h
  · split at h
    · cases h; decide
    split at h
    · cases h; decide
    · cases h
  split at h
  · split at h
    · cases h; decide
    split at h
    · cases h; decide
    · cases h
  · cases h; decide
theorem first_lt {e k : Nat} : ∀ {L : List Str} {j : Nat} {s : List Str × List Str}, firstF j s L = some (e, k) → e < 4 ∧ j ≤ k ∧ k < j + L.length
  | [], j, s, h => by cases h
  | x :: r, j, s, h => by
    rw [firstF] at h
    cases c : stepF s x with
    | inl e' =>
      rw [c] at h
      cases h
      exact ⟨stepF_lt c, Nat.le_refl _, by rw [List.length_cons]; omega⟩
    | inr s' =>
      rw [c] at h
      have := first_lt (L := r) h
      rw [List.length_cons]
      exact ⟨this.1, by omega, by omega⟩
noncomputable abbrev fst0 (L : List Str) : Option (Nat × Nat) := firstF 0 ([], []) L
noncomputable def dueL : Option (Nat × Nat) → List V
  | none => []
  | some (e, k) => [.int (e : Int), .int (k : Int)]
structure BkS (ns sr : List Str) (ws : List Nat) : Prop where
  lw : ws.length = ns.length
  few : ns.length ≤ 8
  sub : ∀ y ∈ sr, y ∈ ns
  iff : ∀ n ∈ ns, ws.getD (ns.idxOf n) 0 ≠ 0 ↔ n ∈ sr
theorem BkS.hat {ns sr : List Str} {ws : List Nat} (h : BkS ns sr ws) {n : Str} (hn : n ∉ ns) (h8 : ns.length < 8) : BkS (ns ++ [n]) sr (ws ++ [0]) where
  lw := by rw [List.length_append, List.length_append, h.lw]; rfl
  few := by rw [List.length_append]; show _ + 1 ≤ 8; omega
  sub := fun y hy => List.mem_append.mpr (.inl (h.sub y hy))
  iff := fun m hm => by
    by_cases c : m ∈ ns
    · have hi := List.idxOf_lt_length_iff.mpr c
      rw [List.idxOf_append, if_pos c, List.getD_eq_getElem?_getD, List.getElem?_append_left (by rw [h.lw]; exact hi), ← List.getD_eq_getElem?_getD]
      exact h.iff m c
    · have e : m = n := by
        rcases List.mem_append.mp hm with z | z
        · exact absurd z c
        · exact List.mem_singleton.mp z
      subst e
      rw [List.idxOf_append, if_neg c]
      have e0 : (ws ++ [0]).getD (ns.length + List.idxOf m [m]) 0 = 0 := by
        rw [List.idxOf_cons_self, Nat.add_zero, List.getD_eq_getElem?_getD, List.getElem?_append_right (by rw [h.lw]; exact Nat.le_refl _), h.lw, Nat.sub_self]; rfl
      rw [Nat.add_comm] at e0
      first
        | (rw [e0]; exact ⟨fun z => absurd rfl z, fun z => absurd (h.sub m z) c⟩)
        | (rw [Nat.add_comm, e0]; exact ⟨fun z => absurd rfl z, fun z => absurd (h.sub m z) c⟩)
theorem BkS.sees {ns sr : List Str} {ws : List Nat} (h : BkS ns sr ws) {n : Str} (hn : n ∈ ns) {m : Nat} (hm : m ≠ 0) : BkS ns (sr ++ [n]) (ws.set (ns.idxOf n) m) where
  lw := by rw [List.length_set]; exact h.lw
  few := h.few
  sub := fun y hy => by
    rcases List.mem_append.mp hy with z | z
    · exact h.sub y z
    · rw [List.mem_singleton.mp z]; exact hn
  iff := fun y hy => by
    have hi := List.idxOf_lt_length_iff.mpr hn
    by_cases c : y = n
    · subst c
      rw [List.getD_eq_getElem?_getD, List.getElem?_set_self (by rw [h.lw]; exact hi)]
      exact ⟨fun _ => List.mem_append.mpr (.inr (List.mem_singleton.mpr rfl)), fun _ => hm⟩
    · have ne : ns.idxOf n ≠ ns.idxOf y := fun e => c (by
        have h1 := List.getElem_idxOf (List.idxOf_lt_length_iff.mpr hy)
        have h2 := List.getElem_idxOf hi
        rw [← h1, ← h2]
        congr 1
        exact e.symm)
      rw [List.getD_eq_getElem?_getD, List.getElem?_set_ne ne, ← List.getD_eq_getElem?_getD, h.iff y hy]
      constructor
      · exact fun z => List.mem_append.mpr (.inl z)
      · intro z
        rcases List.mem_append.mp z with z | z
        · exact z
        · exact absurd (List.mem_singleton.mp z) c
theorem mask_pos {ns : List Str} : ∀ {l : List Str}, l ≠ [] → maskL ns l ≠ 0
  | [], h => absurd rfl h
  | x :: r, _ => by
    unfold maskL
    rw [List.map_cons, List.sum_cons]
    have := Nat.two_pow_pos (ns.idxOf x)
    omega
noncomputable def spAddHatR (er : Str → Addr) : Sp := fun vs H Q E => ∃ (d : Addr) (ns : List Str) (x : Str) (i : Int), vs = [.ref d, .str x, .int i] ∧ DN H d ns ∧ ns.length ≤ 8 ∧
  (x ∈ ns → ∀ dx H', Same H H' → H' dx = some (.xd [("line", .int i)]) → E (.ref (er "Twice")) (some dx) H') ∧
  (x ∉ ns → ns.length = 8 → ∀ dx H', Same H H' → H' dx = some (.xd [("line", .int i)]) → E (.ref (er "TooMany")) (some dx) H') ∧
  (x ∉ ns → ns.length < 8 → Q .non (upd H d (.dK (kvF 0 (ns ++ [x])))))
noncomputable def spAddSightR (er : Str → Addr) : Sp := fun vs H Q E => ∃ (d w t : Addr) (ns l : List Str) (ws : List Nat) (x : Str) (i : Int), vs = [.ref d, .ref w, .str x, .ref t, .int i] ∧ DN H d ns ∧ H w = some (.lst ((asI ws).map V.int)) ∧ ws.length = ns.length ∧ ns.length ≤ 8 ∧ H t = some (.tup (l.map V.str)) ∧ l.length ≤ 850 ∧
  (x ∈ ns → ws.getD (ns.idxOf x) 0 ≠ 0 → ∀ dx H', Same H H' → H' dx = some (.xd [("line", .int i)]) → E (.ref (er "Twice")) (some dx) H') ∧
  (¬ (x ∈ ns ∧ ws.getD (ns.idxOf x) 0 ≠ 0) → (∃ y ∈ x :: l, y ∉ ns) → ∀ dx H', Same H H' → H' dx = some (.xd [("line", .int i)]) → E (.ref (er "Unknown")) (some dx) H') ∧
  (¬ (x ∈ ns ∧ ws.getD (ns.idxOf x) 0 ≠ 0) → (∀ y ∈ x :: l, y ∈ ns) → ∀ H1, Same H H1 → Q .non (upd H1 w (.lst ((asI (ws.set (ns.idxOf x) (maskL ns l))).map V.int))))
noncomputable def spBookR (er : Str → Addr) : Sp := fun vs H Q E => ∃ z : Str, vs = [.str z] ∧ z.length ≤ 1000000 ∧ (rowsS z).length ≤ 100 ∧ (∀ x ∈ rowsS z, x.length ≤ 800) ∧
  (fst0 (rowsS z) = none → ∀ t a1 a2 a3 H', Same H H' → H' t = some (.tup [.ref a1, .ref a2, .ref a3]) → Q (.ref t) H') ∧
  (∀ e k, fst0 (rowsS z) = some (e, k) → ∀ dx H', Same H H' → H' dx = some (.xd [("line", .int (k : Int))]) → E (.ref (er (errN e))) (some dx) H')
structure BkR (H : Hp) (d c w : Addr) (s : List Str × List Str) : Prop where
  ex : ∃ (cs : List Int) (ws : List Nat), DN H d s.1 ∧ H c = some (.lst (cs.map V.int)) ∧ cs.length ≤ 8 ∧ cs.length = s.1.length ∧ H w = some (.lst ((asI ws).map V.int)) ∧ BkS s.1 s.2 ws
noncomputable def InvBr (H0 : Hp) (z : Str) (d c w r : Addr) (L : List Str) (k : Nat) (σ : St) (H : Hp) : Prop := ∃ (s : List Str × List Str) (y1 y2 y3 : Option V), σ = [some (.str z), some (.ref d), some (.ref c), some (.ref w), y1, y2, y3] ∧ Same H0 H ∧ H r = some (.lst (L.map V.str)) ∧ runF ([], []) (L.take k) = some s ∧ BkR H d c w s
noncomputable def spMixed4 (K : PySem.W.Frag) : Sp := fun vs H Q _ => ∃ (b dr : Addr) (ns : List Str) (cs ws : List Nat) (dn : List Int), vs = [.ref b, .ref dr] ∧ PplAt H b ns cs ws ∧ Ppl ns cs ws ∧ H dr = some (.lst (dn.map V.int)) ∧ dn.length = 40 ∧ (∀ x ∈ dn, 0 ≤ x) ∧
  ∀ l M H', Same H H' → H l = none → H' l = some (.lst ((M.map (txM ns cs)).map V.str)) → Mixed ns ws (fun i => i < ns.length) M → M.length ≤ 16 → Q (.ref l) H'
theorem sforP {X : Cx} {tg iter : Expr} {wi : TI} {g : TG} {u : TS} {sts : List Stmt} {pos : Pos} (hpo : PassesOwn (model X.prog X.w) X.A X.env X.xe) (hc : X.calm = true) (hi : QI X tg iter wi) (hg : QG X tg g) (hb : QSs X sts u) (hs : ∀ x, foldedSetIterable iter X.env x = pure x := by intro _; rfl) : QS X (.For tg iter sts [] pos) (tFor wi g u) := ⟨ps_for hpo hc hi.h hg.h hb.h hs⟩
section
variable {P : Program} {w : World} {K : PySem.W.Frag} {mg : Str → Option Value} {base : Heap} {k : Nat} {x : Str} {N ps G : List Str} {sp : Sp} {st : Stmt}
theorem Def.gfl (D : Def K mg x st) (S : DS (defScope st) N ps G)
    (hb : ∀ (kV doc pm : Value) (an : Option Addr) (cdv ct : Value) (us : List Value), us.length = ps.length → bindArgs (PySem.W.fnOf x x (defArgs st) (defBody st) (defScope st) .none kV doc pm an cdv ct) ⟨us, []⟩ = pure (ps.zip us))
    (len : ∀ vs H Q E, sp vs H Q E → vs.length = ps.length)
    (hbody : ∀ (X : Cx) (E : XK), Sc X N N G → X.prog = P → X.w = w → X.K = K → X.mg = mg → X.base = base → X.calm = true → X.env.scope = defScope st → RaisesF X E → Passes (CXE P w) X E → PassesOwn (model X.prog X.w) X.A X.env X.xe → Room k X.A → X.A.units + 64 < cLine →
      ∀ (H : Hp) (vs : List V) (Q : VK), sp vs H Q E → ∃ t, QSs X (defBody st) t ∧ t { nx := fun _ H' => Q .non H', rt := Q } (L2.start N vs) H) : FnE P w K mg base (k + 1) x ps sp := by
  obtain ⟨f, fd, F, m⟩ := D.ex
  refine ⟨f, fd, ?_, m, F.kp, F.binds hb⟩
  obtain ⟨oc, od, kV, doc, pm, an, cdv, ct, osl, rfl, lk, hcd⟩ := F.ex
  refine fn_of lk hcd S.fs len fun A outer s H vs Q E hr hsp => ?_
  obtain ⟨t, h, q⟩ := hbody _ E S.cxE rfl rfl rfl rfl rfl rfl rfl (fun _ _ _ _ _ _ _ _ I e n hn q => leave_obj I e n hn rfl rfl rfl rfl q) passes_cx PassesOwn.leaving hr hr.units H vs Q hsp
  exact ⟨t, h.h, q⟩
end
noncomputable def OkN (z : Str) : Prop := ∀ c ∈ cz z, c < 1114112 ∧ c ≠ 10
noncomputable def LnN (n : Nat) (z : Str) : Prop := z.length ≤ n ∧ OkN z
structure LnsN (H : Hp) (l : Addr) (L : List Str) : Prop where
  at_ : H l = some (.lst (L.map V.str))
  few : L.length ≤ 30
  ok : ∀ x ∈ L, LnN 400 x
noncomputable def spText (K : PySem.W.Frag) : Sp := fun vs H Q _ => ∃ (s : Addr) (xs : List Int), vs = [.ref s] ∧ SqL K H s (xs.map V.int) ∧ ∀ l L H', LnsN H' l L → Q (.ref l) H'
theorem LnN.mono {n m : Nat} {z : Str} (h : LnN n z) (hm : n ≤ m) : LnN m z := ⟨Nat.le_trans h.1 hm, h.2⟩
theorem OkN.app {a b : Str} (ha : OkN a) (hb : OkN b) : OkN (a ++ b) := fun c hc => by
  rw [cz_append] at hc
  exact (List.mem_append.mp hc).elim (ha c) (hb c)
theorem LnN.app {n m : Nat} {a b : Str} (ha : LnN n a) (hb : LnN m b) : LnN (n + m) (a ++ b) := ⟨by rw [len_append]; have := ha.1; have := hb.1; omega, ha.2.app hb.2⟩
theorem OkN.slF {z : Str} (h : OkN z) (k : Nat) : OkN (StrLaws.sliceText z (some (k : Int)) none) := fun c hc => h c (List.mem_of_mem_drop (by rw [slice_fromM] at hc; exact hc))
theorem OkN.slT {z : Str} (h : OkN z) (k : Nat) : OkN (StrLaws.sliceText z none (some (k : Int))) := fun c hc => h c (List.mem_of_mem_take (by rw [slice_toM] at hc; exact hc))
theorem OkN.join {l : List Str} (h : ∀ x ∈ l, OkN x) : OkN (Str.join ⟨#[32]⟩ l) := fun c hc => by
  rcases mem_join hc with z | ⟨x, hx, z⟩
  · omega
  · exact h x hx c z
theorem OkN.part {z x : Str} (h : OkN z) (hx : x ∈ Txt.split z ⟨#[32]⟩) : OkN x := fun c hc => h c (by
  have := part_mem (c := 32) hx hc
  rw [StrLaws.join_split] at this
  exact this)
theorem LnN.name {z : Str} (h : nameB z = true) : LnN 12 z := ⟨(low_of h).2.2, fun c hc => ⟨OkS.low (low_of h).1 c hc, fun e => (nameB_free h).2 (by rw [← e]; exact hc)⟩⟩
theorem LnN.count {z : Str} (h : countB z = true) : LnN 30 z := ⟨count_len h, fun c hc => ⟨OkS.count h c hc, fun e => (countB_free h).2 (by rw [← e]; exact hc)⟩⟩
noncomputable def lnB (n : Nat) (x : Str) : Bool := decide (x.length ≤ n) && (cz x).all fun c => decide (c < 1114112 ∧ c ≠ 10)
theorem lnB_ok {n : Nat} {x : Str} (h : lnB n x = true) : LnN n x := by
  unfold lnB at h
  rw [Bool.and_eq_true] at h
  exact ⟨of_decide_eq_true h.1, fun c hc => of_decide_eq_true (List.all_eq_true.mp h.2 c hc)⟩
theorem LnN.glue {l : List Str} {m b n : Nat} (h : ∀ x ∈ l, LnN b x) (hl : l.length ≤ m) (hn : m * (b + 1) ≤ n) : LnN n (Str.join ⟨#[32]⟩ l) := by
  refine ⟨?_, OkN.join fun x hx => (h x hx).2⟩
  have h1 := join_len 32 l
  have h2 := sum_le b l fun x hx => (h x hx).1
  have h3 : l.length * (b + 1) ≤ m * (b + 1) := Nat.mul_le_mul_right _ hl
  omega
theorem lnW_N {x : Ln} (h : lnOk x) : ∀ w ∈ lnW x, LnN 30 w := by
  cases x with
  | hat n c =>
    intro w hw
    rcases List.mem_cons.mp hw with rfl | hw
    · exact (lnB_ok (n := 4) (by decide +kernel)).mono (by decide)
    rcases List.mem_cons.mp hw with rfl | hw
    · exact (LnN.name h.1).mono (by decide)
    rw [List.mem_singleton.mp hw]
    exact LnN.count (count_text h.2.1 h.2.2).1
  | sees n l =>
    intro w hw
    rcases List.mem_cons.mp hw with rfl | hw
    · exact (lnB_ok (n := 4) (by decide +kernel)).mono (by decide)
    · exact (LnN.name (h.nm w hw)).mono (by decide)
theorem mixed_ln {ns : List Str} {cs ws : List Nat} (P : Ppl ns cs ws) {done : Nat → Prop} {M : List Mx} (h : Mixed ns ws done M) : ∀ x ∈ M.map (txM ns cs), LnN 310 x := fun y hy => by
  obtain ⟨x, hx, rfl⟩ := List.mem_map.mp hy
  have hlen : (lnW (mxL ns cs x)).length ≤ 10 := by
    cases x with
    | hat j => show 3 ≤ 10; decide
    | sees i l =>
      have hp := (h.pm i l hx).1.length_eq
      have hb : (btN ns.length (ws.getD i 0)).length ≤ ns.length := by
        unfold btN
        have := List.length_filter_le (fun j => decide (ws.getD i 0 / 2 ^ j % 2 = 1)) (List.range ns.length)
        rw [List.length_range] at this
        exact this
      have h8 := P.nm.few
      show (l.map _).length + 2 ≤ 10
      rw [List.length_map]; omega
  exact LnN.glue (m := 10) (b := 30) (lnW_N (h.all_ok P x hx)) hlen (by decide)
end L2
namespace K04
open PySem L2 PyProof.Rows KM
noncomputable def top (i : Nat) : Stmt := PySem.Challenge.pw_hatsight_k04_first_fault.main.body.getD i (.Pass ⟨0, 0, 0, 0⟩)
noncomputable abbrev s_is_name : Stmt := top 13
noncomputable abbrev s_is_count : Stmt := top 14
noncomputable abbrev s_is_hat_line : Stmt := top 15
noncomputable abbrev s_is_sees_line : Stmt := top 16
noncomputable abbrev s_read_line : Stmt := top 17
noncomputable abbrev s_add_hat : Stmt := top 18
noncomputable abbrev s_add_sight : Stmt := top 19
noncomputable abbrev s_rows_of : Stmt := top 20
noncomputable abbrev s_read_book : Stmt := top 21
noncomputable abbrev s_law_draws : Stmt := top 23
noncomputable abbrev s_law_cell_at : Stmt := top 24
noncomputable abbrev s_law_fresh : Stmt := top 25
noncomputable abbrev s_law_names : Stmt := top 26
noncomputable abbrev s_law_count : Stmt := top 27
noncomputable abbrev s_law_people : Stmt := top 28
noncomputable abbrev s_law_mixed_lines : Stmt := top 29
noncomputable abbrev s_law_shown : Stmt := top 30
noncomputable abbrev s_law_made_of : Stmt := top 31
noncomputable abbrev s_law_is_line : Stmt := top 32
noncomputable abbrev s_law_first : Stmt := top 33
noncomputable abbrev s_law_bad_line : Stmt := top 34
noncomputable abbrev s_law_spoilt_text : Stmt := top 35
noncomputable abbrev s_law_right : Stmt := top 36
noncomputable abbrev s_law : Stmt := top 37
noncomputable abbrev s_LineError___init__ : Stmt := clsSt (top 2) 0
structure Bn (mg : Str → Option Value) : Prop where
  range : mg "range" = none
  len : mg "len" = none
  all : mg "all" = none
  int : mg "int" = none
  str : mg "str" = none
  set : mg "set" = none
  tuple : mg "tuple" = none
  list : mg "list" = none
  isinstance : mg "isinstance" = none
  bool : mg "bool" = none
  sum : mg "sum" = none
  max : mg "max" = none
  enumerate : mg "enumerate" = none
  ValueError : mg "ValueError" = none
structure Cs (mg : Str → Option Value) : Prop where
  LETTERS : ∃ t, mg "LETTERS" = some (.str "abcdefghijklmnopqrstuvwxyz" t)
  FIGURES : ∃ t, mg "FIGURES" = some (.str "0123456789" t)
  LONGEST_NAME : ∃ t, mg "LONGEST_NAME" = some (.int 12 t)
  LONGEST_COUNT : ∃ t, mg "LONGEST_COUNT" = some (.int 30 t)
  MOST_PEOPLE : ∃ t, mg "MOST_PEOPLE" = some (.int 8 t)
noncomputable abbrev ERN : List Str := ["LineError", "HatError", "NoLine", "Twice", "Unknown", "TooMany"]
local macro_rules | `(tactic| walk_at "rd") => `(tactic| try simp only [L2.start, List.map_cons, List.map_nil, List.length_cons, List.length_nil, List.replicate, List.cons_append, List.nil_append, List.append_nil, List.set_cons_zero, List.set_cons_succ, Nat.reduceAdd, Nat.reduceSub,
  q_var0, q_varS, q_C, q_Op, q_Un, q_rI0, q_rI, q_rU, q_tI, q_rT, q_eqI, q_neI, q_rB, q_test, q_tB, q_notT, q_andT, q_orT, q_andV, q_chain, q_nil, q_cons, q_call, q_CB, q_tup, q_lst, q_BM, q_dnew, q_DIn, q_gLst, q_DGet, q_iEnL, q_DPut, q_Sl, q_noPart, q_part, q_rP, q_LC, q_True,
  q_next, q_seq, q_drop, q_ret, q_ifS, q_asg, q_name, q_sub, q_iList, q_iTup, q_iRng1, q_rv, q_callX, q_tryM, q_asgX, q_sle, q_raisef, q_le, q_eqS, q_neS, q_iStr, q_p2, bAnd, bitAnd_m1, q_dv, q_b1, q_for, q_ints, q_strs, q_dT, q_ifT, q_ifF, Bool.false_eq_true, q_upS, q_upN, q_upV, q_g0, q_gS, Bool.not_true, Bool.not_false, decide_eq_true_eq])
local macro_rules | `(tactic| walk_at "rs") => `(tactic| try simp only [L2.start, List.map_cons, List.map_nil, List.length_cons, List.length_nil, List.replicate, List.cons_append, List.nil_append, List.append_nil, List.set_cons_zero, List.set_cons_succ, Nat.reduceAdd, Nat.reduceSub,
  q_var0, q_varS, q_C, q_Op, q_Un, q_rI0, q_rI, q_rU, q_tI, q_rT, q_eqI, q_neI, q_rB, q_test, q_tB, q_notT, q_andT, q_orT, q_andV, q_chain, q_nil, q_cons, q_call, q_CB, q_tup, q_lst, q_BM, q_dnew, q_DIn, q_gLst, q_DGet, q_iEnL, q_DPut, q_Sl, q_noPart, q_part, q_rP, q_LC, q_True,
  q_next, q_drop, q_ret, q_ifS, q_asg, q_name, q_sub, q_iList, q_iTup, q_iRng1, q_rv, q_callX, q_tryM, q_asgX, q_sle, q_raisef, q_le, q_eqS, q_neS, q_iStr, q_p2, bAnd, bitAnd_m1, q_dv, q_b1, q_for, q_ints, q_strs, q_dT, q_ifT, q_ifF, Bool.false_eq_true, q_upS, q_upN, q_upV, q_g0, q_gS, Bool.not_true, Bool.not_false, decide_eq_true_eq])
section
variable {P : Program} {w : World} {K : PySem.W.Frag} {mg : Str → Option Value} {base : Heap} {er : Str → Addr}
/-! ### is it a name, a count, a line? -/
theorem ds_is_name : DS (defScope s_is_name) ["word"] ["word"] ["LONGEST_NAME", "len", "all"] := ds_of (by decide +kernel)
theorem ok_isname (B : Bn mg) (KC : Cs mg) (D : Def K mg "is_name" s_is_name) : Fn P w K mg base 1 "is_name" ["word"] spIsName := by
  refine D.gq ds_is_name (fun _ _ _ _ _ _ us hl => match us, hl with | [_], _ => rfl) (fun vs H Q E h => ?_) ?_
  · obtain ⟨z, rfl, _⟩ := h; rfl
  intro X S e1 e2 e3 e4 e5 hc hsc hxe hr hu H vs Q E h
  subst e1 e2 e3 e4 e5
  obtain ⟨z, rfl, hz, q⟩ := h
  refine ⟨_, (ss_cons (sif (tnot (tchain op_le op_le kint (kcb S 1 call_len_str B.len boot_len (kb_cons (kv S 0) kb_nil)) (kglI S 0 KC.LONGEST_NAME))) (ss_one (sret kbl)) ss_nil)
      (ss_one (sret (kcb S 2 (call_allK hc (K := X.K) rfl) B.all boot_all (kb_cons (klc S hc hsc (istrK (kv S 0) (K := X.K) rfl) (N := ["sign"]) (W := ["sign"]) (G := ["LETTERS"]) (fv := [none]) (by decide +kernel) (fun cl C fp s H S2 => ⟨(kg S2 0), if_nil, (kcmp op_in_str (kv S2 0) (kglS S2 0 KC.LETTERS) (by with_unfolding_all rfl))⟩)) kb_nil))))), ?_⟩
  walk_at "rd"
  refine ⟨z, rfl, small1M hz, ?_⟩
  have hf : ¬ (1 ≤ z.length ∧ z.length ≤ 12) → Q (.bl false) H := fun c => by
    have := q H (Same.refl _)
    unfold nameB at this
    rw [decide_eq_false c, Bool.false_and] at this
    exact this
  refine ite2 (fun c => ?_) (fun c => hf (by omega))
  refine ite2 (fun c2 => hf (by simp at c2; omega)) (fun c2 => ?_)
  refine ⟨z, rfl, lc_signs hz fun H' s' => ?_⟩
  have := q H' s'
  unfold nameB at this
  rw [decide_eq_true (show 1 ≤ z.length ∧ z.length ≤ 12 by simp at c2; omega), Bool.true_and] at this
  exact this
theorem ds_is_count : DS (defScope s_is_count) ["word"] ["word"] ["LONGEST_COUNT", "len", "all"] := ds_of (by decide +kernel)
theorem ok_iscount (B : Bn mg) (KC : Cs mg) (D : Def K mg "is_count" s_is_count) : Fn P w K mg base 1 "is_count" ["word"] spIsCount := by
  refine D.gq ds_is_count (fun _ _ _ _ _ _ us hl => match us, hl with | [_], _ => rfl) (fun vs H Q E h => ?_) ?_
  · obtain ⟨z, rfl, _⟩ := h; rfl
  intro X S e1 e2 e3 e4 e5 hc hsc hxe hr hu H vs Q E h
  subst e1 e2 e3 e4 e5
  obtain ⟨z, rfl, hz, q⟩ := h
  refine ⟨_, (ss_cons (sif (wpt (wor (tnot (tchain op_le op_le kint (kcb S 1 call_len_str B.len boot_len (kb_cons (kv S 0) kb_nil)) (kglI S 0 KC.LONGEST_COUNT))) (wor1 (tcmp op_eq (kix ix_str (kv S 0) kint (fun _ _ => rfl)) kstr (nomark _))))) (ss_one (sret kbl)) ss_nil)
      (ss_one (sret (kcb S 2 (call_allK hc (K := X.K) rfl) B.all boot_all (kb_cons (klc S hc hsc (istrK (kv S 0) (K := X.K) rfl) (N := ["sign"]) (W := ["sign"]) (G := ["FIGURES"]) (fv := [none]) (by decide +kernel) (fun cl C fp s H S2 => ⟨(kg S2 0), if_nil, (kcmp op_in_str (kv S2 0) (kglS S2 0 KC.FIGURES) (by with_unfolding_all rfl))⟩)) kb_nil))))), ?_⟩
  walk_at "rd"
  refine ⟨z, rfl, small1M hz, ?_⟩
  have hf : ¬ (1 ≤ z.length ∧ z.length ≤ 30) → Q (.bl false) H := fun c => by
    have := q H (Same.refl _)
    unfold countB at this
    rw [decide_eq_false c, Bool.false_and] at this
    exact this
  refine ite2 (fun c => ?_) (fun c => hf (by omega))
  refine ite2 (fun c2 => hf (by simp at c2; omega)) (fun c2 => ?_)
  have hl : 1 ≤ z.length ∧ z.length ≤ 30 := by simp at c2; omega
  have h0 : 0 < (cz z).length := by rw [← cz_length]; omega
  refine ⟨z, 0, (cz z).getD 0 0, rfl, rfl, small1M hz, ?_, ?_⟩
  · show atI (cz z) ((0 : Nat) : Int) = _
    exact atI_getD rfl 0 h0
  walk_at "rd"
  have key : decide ((⟨#[(cz z).getD 0 0]⟩ : Str) = Str.ofString "0") = decide ((cz z).getD 0 0 = 48) := by
    rw [show Str.ofString "0" = ⟨#[48]⟩ by decide +kernel]
    exact decide_eq_decide.mpr ⟨fun e => by simpa using congrArg cz e, fun e => by rw [e]⟩
  have q' : ∀ H', Same H H' → Q (.bl (decide ((cz z).getD 0 0 ≠ 48) && (cz z).all digB)) H' := fun H' s' => by
    have := q H' s'
    unfold countB at this
    rw [decide_eq_true hl, Bool.true_and] at this
    exact this
  refine ite2 (fun c3 => ?_) (fun c3 => ?_)
  · have e : (cz z).getD 0 0 = 48 := of_decide_eq_true (by rw [← key]; exact decide_eq_true c3)
    have := q' H (Same.refl _)
    rw [decide_eq_false (fun h => h e), Bool.false_and] at this
    exact this
  · have e : (cz z).getD 0 0 ≠ 48 := fun e => c3 (of_decide_eq_true (by rw [key]; exact decide_eq_true e))
    refine ⟨z, rfl, lc_signs hz fun H' s' => ?_⟩
    have := q' H' s'
    rw [decide_eq_true e, Bool.true_and] at this
    exact this
theorem ds_is_hat_line : DS (defScope s_is_hat_line) ["words"] ["words"] ["is_name", "is_count", "len"] := ds_of (by decide +kernel)
theorem ok_ishat (B : Bn mg) (D : Def K mg "is_hat_line" s_is_hat_line) (F_is_name : Fn P w K mg base 1 "is_name" ["word"] spIsName) (F_is_count : Fn P w K mg base 1 "is_count" ["word"] spIsCount) : Fn P w K mg base 2 "is_hat_line" ["words"] (spIsHat K) := by
  refine D.gq ds_is_hat_line (fun _ _ _ _ _ _ us hl => match us, hl with | [_], _ => rfl) (fun vs H Q E h => ?_) ?_
  · obtain ⟨p, l, rfl, _⟩ := h; rfl
  intro X S e1 e2 e3 e4 e5 hc hsc hxe hr hu H vs Q E h
  subst e1 e2 e3 e4 e5
  obtain ⟨p, l, rfl, hp, q⟩ := h
  refine ⟨_, (ss_one (sret (kand (kcmp op_eq (kcb S 2 (call_lenK (K := X.K) rfl) B.len boot_len (kb_cons (kv S 0) kb_nil)) kint (nomark _)) (kand (kcmp op_eq (kix (ix_listK (K := X.K) rfl) (kv S 0) kint (fun _ _ => rfl)) kstr (nomark _)) (kand (kff S 0 F_is_name hr (kb_cons (kix (ix_listK (K := X.K) rfl) (kv S 0) kint (fun _ _ => rfl)) kb_nil)) (kone (kff S 1 F_is_count hr (kb_cons (kix (ix_listK (K := X.K) rfl) (kv S 0) kint (fun _ _ => rfl)) kb_nil)))))))), ?_⟩
  walk_at "rd"
  refine to_len (.inl hp.sq) ?_
  rw [List.length_map]
  walk_at "rd"
  unfold hatB at q
  refine ite2 (fun c => ?_) (fun c => ?_)
  · rw [decide_eq_true (show l.length = 3 by omega), Bool.true_and] at q
    refine to_ixL' (i := ((0 : Nat) : Int)) hp.sq (atI_at (str_item (by omega))) ?_
    walk_at "rd"
    refine ite2 (fun c2 => ?_) (fun c2 => ?_)
    · rw [decide_eq_true c2, Bool.true_and] at q
      refine to_ixL' (i := ((1 : Nat) : Int)) hp.sq (atI_at (str_item (by omega))) ?_
      refine ⟨_, rfl, hp.short _ (getD_memS (by omega)), fun H1 s1 => ?_⟩
      walk_at "rd"
      cases h1 : nameB (l.getD 1 noS) with
      | false =>
        rw [h1, Bool.false_and] at q
        exact q _ s1
      | true =>
        rw [h1, Bool.true_and] at q
        walk_at "rd"
        refine to_ixL' (i := ((2 : Nat) : Int)) (s1.seq hp.sq) (atI_at (str_item (by omega))) ?_
        exact ⟨_, rfl, hp.short _ (getD_memS (by omega)), fun H2 s2 => q _ (s1.trans s2)⟩
    · rw [decide_eq_false c2, Bool.false_and] at q
      exact q _ (Same.refl _)
  · rw [decide_eq_false (show ¬ l.length = 3 by omega), Bool.false_and] at q
    exact q _ (Same.refl _)
theorem ds_is_sees_line : DS (defScope s_is_sees_line) ["words"] ["words"] ["all", "len"] := ds_of (by decide +kernel)
theorem ok_issees (B : Bn mg) (D : Def K mg "is_sees_line" s_is_sees_line) (F_is_name : Fn P w K mg base 1 "is_name" ["word"] spIsName) : Fn P w K mg base 2 "is_sees_line" ["words"] (spIsSees K) := by
  refine D.gq ds_is_sees_line (fun _ _ _ _ _ _ us hl => match us, hl with | [_], _ => rfl) (fun vs H Q E h => ?_) ?_
  · obtain ⟨p, l, rfl, _⟩ := h; rfl
  intro X S e1 e2 e3 e4 e5 hc hsc hxe hr hu H vs Q E h
  subst e1 e2 e3 e4 e5
  obtain ⟨p, l, rfl, hp, q⟩ := h
  have hfew := hp.few
  refine ⟨_, (ss_one (sret (kand (kcmp op_ge (kcb S 1 (call_lenK (K := X.K) rfl) B.len boot_len (kb_cons (kv S 0) kb_nil)) kint (nomark _)) (kand (kcmp op_eq (kix (ix_listK (K := X.K) rfl) (kv S 0) kint (fun _ _ => rfl)) kstr (nomark _)) (kone (kcb S 0 (call_allK hc (K := X.K) rfl) B.all boot_all (kb_cons (klc S hc hsc (ilistK (ksl (sl_listK (K := X.K) rfl) (kv S 0) (ko_some kint) ko_none) (K := X.K) rfl) (N := ["word"]) (W := ["word"]) (G := ["is_name"]) (fv := [none]) (by decide +kernel) (fun cl C fp s H S2 => ⟨(kg S2 0), if_nil, (kff S2 0 F_is_name hr (kb_cons (kv S2 0) kb_nil))⟩)) kb_nil))))))), ?_⟩
  walk_at "rd"
  refine to_len (.inl hp.sq) ?_
  rw [List.length_map]
  walk_at "rd"
  unfold seesB at q
  refine ite2 (fun c => ?_) (fun c => ?_)
  · rw [decide_eq_true (show 3 ≤ l.length by omega), Bool.true_and] at q
    refine to_ixL' (i := ((0 : Nat) : Int)) hp.sq (atI_at (str_item (by omega))) ?_
    walk_at "rd"
    refine ite2 (fun c2 => ?_) (fun c2 => ?_)
    · rw [decide_eq_true c2, Bool.true_and] at q
      refine ⟨p, _, rfl, hp.sq, fun a ha => ?_⟩
      rw [show (some (1 : Int)) = some ((1 : Nat) : Int) from rfl, cut_dropM, ← List.map_drop]
      have sa := Same.new ha (.lst ((l.drop 1).map V.str))
      have hdl : (l.drop 1).length = l.length - 1 := List.length_drop
      refine ⟨a, rfl, ⟨_, SqL.of upd_same⟩, lc1 (itok_list (SqL.of upd_same)) (fun _ => true) (fun i => .bl (nameB ((l.drop 1).getD i noS))) (by rw [List.length_map, hdl]; exact small1000 (by omega)) ?_ ?_⟩
      · intro i H1 A B' hi hS hA _
        rw [List.length_map] at hi
        rw [show ((l.drop 1).map V.str).getD i .non = .str ((l.drop 1).getD i noS) by rw [List.getD_eq_getElem?_getD, str_item hi]; rfl]
        walk_at "rd"
        exact ⟨_, rfl, hp.short _ (List.mem_of_mem_drop (getD_memS hi)), fun H2 s2 => hA rfl _ s2⟩
      · intro acc H1 hn s1 hacc
        rw [fil_all, List.length_map] at hacc
        refine ⟨acc, (List.range (l.drop 1).length).map fun i => nameB ((l.drop 1).getD i noS), rfl, SqL.of (by rw [hacc, List.map_map]; rfl), ?_⟩
        have e : ((List.range (l.drop 1).length).map fun i => nameB ((l.drop 1).getD i noS)).all id = (l.drop 1).all nameB := by
          rw [List.all_map]
          conv => rhs; rw [show l.drop 1 = (List.range (l.drop 1).length).map fun i => (l.drop 1).getD i noS from by
            apply List.ext_getElem?
            intro i
            by_cases hi : i < (l.drop 1).length
            · rw [List.getElem?_map, List.getElem?_range hi, List.getElem?_eq_getElem hi]
              show some _ = some ((l.drop 1).getD i noS)
              rw [List.getD_eq_getElem?_getD, List.getElem?_eq_getElem hi]; rfl
            · rw [List.getElem?_eq_none (by omega), List.getElem?_eq_none (by rw [List.length_map, List.length_range]; omega)]]
          rw [List.all_map]; rfl
        rw [e]
        exact q _ (sa.trans s1)
    · rw [decide_eq_false c2, Bool.false_and] at q
      exact q _ (Same.refl _)
  · rw [decide_eq_false (show ¬ 3 ≤ l.length by omega), Bool.false_and] at q
    exact q _ (Same.refl _)
end
section
variable {P : Program} {w : World} {K : PySem.W.Frag} {mg : Str → Option Value} {base : Heap} {er : Str → Addr}
/-! ### an error with a field is made -/
theorem ds_LineError___init__ : DS (defScope s_LineError___init__) ["self", "line"] ["self", "line"] [] := ds_of (by decide +kernel)
theorem ok_ini (IT : IniT K ERN er) (D : MDef K (er "LineError") "__init__" "LineError.__init__" s_LineError___init__) : FnM P w K mg base 1 (er "LineError") "__init__" ["self", "line"] (spIni ERN er) := by
  refine D.gq ds_LineError___init__ (fun _ _ _ _ _ _ us hl => match us, hl with | [_, _], _ => rfl) (fun vs H Q E h => ?_) ?_
  · obtain ⟨a, n, v, rfl, _⟩ := h; rfl
  intro X S e1 e2 e3 e4 e5 hc hsc hxe hr hu H vs Q E h
  subst e1 e2 e3 e4 e5
  obtain ⟨a, n, v, rfl, hn, hh, ha, q⟩ := h
  refine ⟨_, (ss_one (sle IT (kv S 0) (kv S 1))), ?_⟩
  walk_at "rd"
  exact ⟨a, n, rfl, hn, hh, ha, fun dx hd => q dx hd⟩
/-! ### a line is read -/
theorem ds_read_line : DS (defScope s_read_line) ["text", "line", "words", "names"] ["text", "line"] ["is_hat_line", "int", "is_sees_line", "NoLine", "len", "Twice", "set", "tuple"] := ds_of (by decide +kernel)
theorem bd_read_line : bindD "read_line" s_read_line "text" "line" := fun T kV doc pm an cdv ct u v => ⟨⟨_, by with_unfolding_all rfl, fun _ => by with_unfolding_all rfl⟩, ⟨_, by with_unfolding_all rfl, fun _ => by with_unfolding_all rfl⟩, ⟨_, by with_unfolding_all rfl, fun _ => by with_unfolding_all rfl⟩⟩
theorem ok_readR (B : Bn mg) (ER : ErrT K mg ERN er) (IT : IniT K ERN er) (D : DefD K mg "read_line" s_read_line 0) (F_LineError___init__ : FnM P w K mg base 1 (er "LineError") "__init__" ["self", "line"] (spIni ERN er)) (F_is_hat_line : Fn P w K mg base 2 "is_hat_line" ["words"] (spIsHat K)) (F_is_sees_line : Fn P w K mg base 2 "is_sees_line" ["words"] (spIsSees K)) : FnG P w K mg base 3 "read_line" "text" "line" 0 (spReadR er) := by
  refine D.gf ds_read_line bd_read_line (fun vs H Q E h => ?_) ?_
  · obtain ⟨z, i, rfl, _⟩ := h; rfl
  intro X E S e1 e2 e3 e4 e5 hc hsc hx hp hr hu H vs Q h
  subst e1 e2 e3 e4 e5
  obtain ⟨z, i, rfl, hz, q, qE⟩ := h
  refine ⟨_, (ss_cons (ssv S 2 (kmb PySem.F.plainAttrs_str PySem.F.slot_str_split PySem.F.type_str_split mt_str_split (K := X.K) rfl (kv S 0) (kb_cons kstr kb_nil)))
      (ss_cons (sif (tval (kff S 0 F_is_hat_line hr (kb_cons (kv S 2) kb_nil))) (ss_one (sret (ktp (kb_cons kstr (kb_cons (kix (ix_listK (K := X.K) rfl) (kv S 2) kint (fun _ _ => rfl)) (kb_cons (kct S 1 call_int_str B.int boot_int (kb_cons (kix (ix_listK (K := X.K) rfl) (kv S 2) kint (fun _ _ => rfl)) kb_nil)) kb_nil)))))) ss_nil)
      (ss_cons (sif (tnot (tval (kff S 2 F_is_sees_line hr (kb_cons (kv S 2) kb_nil)))) (ss_one (sraisef S 3 hc hx ER IT F_LineError___init__ hr (kb_cons (kv S 1) kb_nil))) ss_nil)
      (ss_cons (ssv S 3 (ksl (sl_listK (K := X.K) rfl) (kv S 2) (ko_some kint) ko_none))
      (ss_cons (sif (tcmp op_lt (kcb S 4 call_lenSS B.len boot_len (kb_cons (kct S 6 (call_setStrK hc (K := X.K) rfl) B.set boot_set (kb_cons (kv S 3) kb_nil)) kb_nil)) (kcb S 4 (call_lenK (K := X.K) rfl) B.len boot_len (kb_cons (kv S 3) kb_nil)) (nomark _)) (ss_one (sraisef S 5 hc hx ER IT F_LineError___init__ hr (kb_cons (kv S 1) kb_nil))) ss_nil)
      (ss_one (sret (ktp (kb_cons kstr (kb_cons (kix (ix_listK (K := X.K) rfl) (kv S 3) kint (fun _ _ => rfl)) (kb_cons (kct S 7 (call_tupK (K := X.K) rfl) B.tuple boot_tuple (kb_cons (ksl (sl_listK (K := X.K) rfl) (kv S 3) (ko_some kint) ko_none) kb_nil)) kb_nil))))))))))), ?_⟩
  have hfew : (wz z).length ≤ z.length + 1 := split_cnt z
  have hsz : (1000002 : Nat) ≤ sizeLine := by decide
  walk_at "rs"
  rw [q_seq]
  walk_at "rs"
  refine ⟨rfl, z, _, rfl, rfl, by decide +kernel, by omega, ?_, fun p hp0 => ?_⟩
  · rw [blank_is]; show (wz z).length ≤ _; omega
  rw [blank_is]
  show (fun x H1 => _) (V.ref p) (upd H p (.lst ((wz z).map V.str)))
  have sp := Same.new hp0 (.lst ((wz z).map V.str))
  have hw : Ws X.K (upd H p (.lst ((wz z).map V.str))) p (wz z) := ⟨SqL.of upd_same, by omega, fun x hx => Nat.le_trans (split_part hx) (by omega)⟩
  dsimp only
  rw [q_seq]
  walk_at "rs"
  refine ⟨p, wz z, rfl, hw, fun H1 s1 => ?_⟩
  have hw1 : SqL X.K H1 p ((wz z).map V.str) := s1.seq hw.sq
  walk_at "rs"
  cases hh : hatB (wz z) with
  | true =>
    walk_at "rs"
    have hb := hh
    unfold hatB at hb
    rw [Bool.and_eq_true] at hb
    have hl3 : (wz z).length = 3 := of_decide_eq_true hb.1
    have hcb : countB ((wz z).getD 2 noS) = true := by
      have h2 := hb.2
      rw [Bool.and_eq_true, Bool.and_eq_true] at h2
      exact h2.2.2
    have h30 := count_len hcb
    obtain ⟨c, hcv⟩ := count_int hcb
    refine to_ixL' (i := ((1 : Nat) : Int)) hw1 (atI_at (str_item (by omega))) ?_
    refine to_ixL' (i := ((2 : Nat) : Int)) hw1 (atI_at (str_item (by omega))) ?_
    refine ⟨_, c, rfl, hcv, by omega, ?_⟩
    refine ⟨by decide, fun t ht => ?_⟩
    exact q t _ (errK_hat hh) (sp.trans (s1.trans (Same.new ht _))) (.inl ⟨hh, c, hcv, upd_same⟩)
  | false =>
    walk_at "rs"
    rw [q_seq]
    walk_at "rs"
    refine ⟨p, wz z, rfl, ⟨hw1, hw.few, hw.short⟩, fun H2 s2 => ?_⟩
    have hw2 := s2.seq hw1
    have sH2 := sp.trans (s1.trans s2)
    walk_at "rs"
    cases hs : seesB (wz z) with
    | false =>
      walk_at "rs"
      refine ⟨.int i, rfl, fun dx hd => ?_⟩
      exact qE 0 dx _ (errK_no hh hs) (sH2.trans (Same.new hd _)) upd_same
    | true =>
      walk_at "rs"
      rw [q_seq]
      walk_at "rs"
      have hl3 : 3 ≤ (wz z).length := by
        have hs' := hs
        unfold seesB at hs'
        rw [Bool.and_eq_true] at hs'
        exact of_decide_eq_true hs'.1
      refine ⟨p, _, rfl, hw2, fun a ha => ?_⟩
      rw [show (some (1 : Int)) = some ((1 : Nat) : Int) from rfl, cut_dropM, ← List.map_drop]
      have sa := Same.new ha (.lst (((wz z).drop 1).map V.str))
      have hdl : ((wz z).drop 1).length = (wz z).length - 1 := List.length_drop
      walk_at "rs"
      rw [q_seq]
      walk_at "rs"
      refine ⟨a, (wz z).drop 1, rfl, SqL.of upd_same, by omega, fun P w b hb => ?_⟩
      have sb := Same.new hb (SetS P w b (cntS ((wz z).drop 1)))
      have hb3 : upd (upd H2 a (.lst (((wz z).drop 1).map V.str))) b (SetS P w b (cntS ((wz z).drop 1))) b = some (SetS P w b (cntS ((wz z).drop 1))) := upd_same
      have ha2 : SqL X.K (upd (upd H2 a (.lst (((wz z).drop 1).map V.str))) b (SetS P w b (cntS ((wz z).drop 1)))) a (((wz z).drop 1).map V.str) := SqL.of (sb _ _ upd_same)
      have sH3 := sH2.trans (sa.trans sb)
      generalize upd (upd H2 a (.lst (((wz z).drop 1).map V.str))) b (SetS P w b (cntS ((wz z).drop 1))) = H3 at sb hb3 ha2 sH3 ⊢
      refine ⟨b, _, P, w, rfl, hb3, ?_⟩
      refine to_len (.inl ha2) ?_
      rw [List.length_map]
      walk_at "rs"
      have hcn := cntS_le ((wz z).drop 1)
      refine ite2 (fun c => ?_) (fun c => ?_)
      · refine ⟨.int i, rfl, fun dx hd => ?_⟩
        exact qE 1 dx _ (errK_twice hh hs fun n => by have := hcn.2.mpr n; omega) (sH3.trans (Same.new hd _)) upd_same
      have hnd : ((wz z).drop 1).Nodup := hcn.2.mp (by omega)
      refine to_ixL' (i := ((0 : Nat) : Int)) ha2 (atI_at (str_item (by omega))) ?_
      rw [show ((wz z).drop 1).getD 0 noS = (wz z).getD 1 noS by rw [List.getD_eq_getElem?_getD, List.getElem?_drop, ← List.getD_eq_getElem?_getD]]
      refine ⟨a, _, rfl, ha2, fun c hc' => ?_⟩
      rw [show (some (1 : Int)) = some ((1 : Nat) : Int) from rfl, cut_dropM, ← List.map_drop, List.drop_drop]
      have sc := Same.new hc' (.lst (((wz z).drop (1 + 1)).map V.str))
      refine ⟨c, _, rfl, .inl ⟨SqL.of upd_same, fun u hu' => ?_⟩⟩
      have sU := Same.new hu' (.tup (((wz z).drop (1 + 1)).map V.str))
      refine ⟨by decide, fun t ht => ?_⟩
      have st := Same.new ht (.tup [.str "sees", .str ((wz z).getD 1 noS), .ref u])
      exact q t _ (errK_sees hh hs hnd) (sH3.trans (sc.trans (sU.trans st))) (.inr ⟨hh, hs, u, upd_same, st _ _ upd_same⟩)
end
section
variable {P : Program} {w : World} {K : PySem.W.Frag} {mg : Str → Option Value} {base : Heap} {er : Str → Addr}
/-! ### a book, good or bad -/
theorem ds_add_hat : DS (defScope s_add_hat) ["numbers", "name", "line"] ["numbers", "name", "line"] ["Twice", "MOST_PEOPLE", "len", "TooMany"] := ds_of (by decide +kernel)
theorem ok_addhatR (B : Bn mg) (KC : Cs mg) (ER : ErrT K mg ERN er) (IT : IniT K ERN er) (D : Def K mg "add_hat" s_add_hat) (F_LineError___init__ : FnM P w K mg base 1 (er "LineError") "__init__" ["self", "line"] (spIni ERN er)) : FnE P w K mg base 3 "add_hat" ["numbers", "name", "line"] (spAddHatR er) := by
  refine D.gf ds_add_hat (fun _ _ _ _ _ _ us hl => match us, hl with | [_, _, _], _ => rfl) (fun vs H Q E h => ?_) ?_
  · obtain ⟨d, ns, x, i, rfl, _⟩ := h; rfl
  intro X E S e1 e2 e3 e4 e5 hc hsc hx hp hr hu H vs Q h
  subst e1 e2 e3 e4 e5
  obtain ⟨d, ns, x, i, rfl, hd, h8, q1, q2, q⟩ := h
  refine ⟨_, (ss_cons (sif (tdin (u1 hu) (kv S 1) (kv S 0) (by with_unfolding_all rfl)) (ss_one (sraisef S 0 hc hx ER IT F_LineError___init__ hr (kb_cons (kv S 2) kb_nil))) ss_nil)
      (ss_cons (sif (tcmp op_ge (kcb S 2 call_lenD B.len boot_len (kb_cons (kv S 0) kb_nil)) (kglI S 1 KC.MOST_PEOPLE) (nomark _)) (ss_one (sraisef S 3 hc hx ER IT F_LineError___init__ hr (kb_cons (kv S 2) kb_nil))) ss_nil)
      (ss_one (sdput (u1 hu) (kcb S 2 call_lenD B.len boot_len (kb_cons (kv S 0) kb_nil)) (kv S 0) (kv S 1))))), ?_⟩
  walk_at "rs"
  rw [q_seq]
  walk_at "rs"
  by_cases c : x ∈ ns
  · refine ⟨d, _, rfl, dn_in hd c, ?_⟩
    rw [Option.isSome_some]
    walk_at "rs"
    exact ⟨.int i, rfl, fun dx hdx => q1 c dx _ (Same.new hdx _) upd_same⟩
  refine ⟨d, _, rfl, dn_out hd c, ?_⟩
  rw [Option.isSome_none]
  walk_at "rs"
  rw [q_seq]
  walk_at "rs"
  refine to_dnlen hd ?_
  walk_at "rs"
  refine ite2 (fun c8 => ?_) (fun c8 => ?_)
  · exact ⟨.int i, rfl, fun dx hdx => q2 c (by omega) dx _ (Same.new hdx _) upd_same⟩
  refine to_dnlen hd ?_
  refine to_dnput hd rfl c (small8 (by omega)) ?_
  exact q c (by omega)
theorem ds_add_sight : DS (defScope s_add_sight) ["numbers", "web", "name", "seen", "line"] ["numbers", "web", "name", "seen", "line"] ["Twice", "all", "Unknown", "sum"] := ds_of (by decide +kernel)
theorem ok_addsightR (B : Bn mg) (ER : ErrT K mg ERN er) (IT : IniT K ERN er) (D : Def K mg "add_sight" s_add_sight) (F_LineError___init__ : FnM P w K mg base 1 (er "LineError") "__init__" ["self", "line"] (spIni ERN er)) : FnE P w K mg base 3 "add_sight" ["numbers", "web", "name", "seen", "line"] (spAddSightR er) := by
  refine D.gf ds_add_sight (fun _ _ _ _ _ _ us hl => match us, hl with | [_, _, _, _, _], _ => rfl) (fun vs H Q E h => ?_) ?_
  · obtain ⟨d, w, t, ns, l, ws, x, i, rfl, _⟩ := h; rfl
  intro X E S e1 e2 e3 e4 e5 hc hsc hx hp hr hu H vs Q h
  subst e1 e2 e3 e4 e5
  obtain ⟨d, w, t, ns, l, ws, x, i, rfl, hd, hw, hlw, h8, ht, hl40, q1, q2, q⟩ := h
  refine ⟨_, (ss_cons (sif (wpt (wand (tdin (u1 hu) (kv S 2) (kv S 0) (by with_unfolding_all rfl)) (wand1 (tcmp op_ne (kix (ix_listK (K := X.K) rfl) (kv S 1) (kdget (u1 hu) (kv S 0) (kv S 2)) (fun _ _ => rfl)) kint (nomark _))))) (ss_one (sraisef S 0 hc hx ER IT F_LineError___init__ hr (kb_cons (kv S 4) kb_nil))) ss_nil)
      (ss_cons (sif (tnot (tval (kcb S 1 (call_allK hc (K := X.K) rfl) B.all boot_all (kb_cons (klc S hc hsc (itupK (kop (op_catTK (K := X.K) rfl) (ktp (kb_cons (kv S 2) kb_nil)) (kv S 3)) (K := X.K) rfl) (N := ["other", "numbers"]) (W := ["other"]) (G := []) (fv := [none, some 0]) (by decide +kernel) (fun cl C fp s H S2 => ⟨(kg S2 0), if_nil, (kdin (u1 hu) (kv S2 0) (kv S2 1) (by with_unfolding_all rfl))⟩)) kb_nil)))) (ss_one (sraisef S 2 hc hx ER IT F_LineError___init__ hr (kb_cons (kv S 4) kb_nil))) ss_nil)
      (ss_one (sasg (kcb S 3 (call_sumK hc (K := X.K) rfl) B.sum boot_sum (kb_cons (klc S hc hsc (itupK (kv S 3) (K := X.K) rfl) (N := ["other", "numbers"]) (W := ["other"]) (G := []) (fv := [none, some 0]) (by decide +kernel) (fun cl C fp s H S2 => ⟨(kg S2 0), if_nil, (kop op_shl kint (kdget (u1 hu) (kv S2 1) (kv S2 0)))⟩)) kb_nil)) (gsub (kv S 1) (kdget (u1 hu) (kv S 0) (kv S 2)) set_list))))), ?_⟩
  have h1000 : (1000 : Nat) ≤ sizeLine := by decide
  walk_at "rs"
  refine seqJ (fun σ J => σ = [some (.ref d), some (.ref w), some (.str x), some (.ref t), some (.int i)] ∧ J = H ∧ ¬ (x ∈ ns ∧ ws.getD (ns.idxOf x) 0 ≠ 0)) ?_ (fun R hR => ?_)
  rotate_left
  · walk_at "rs"
    by_cases cx : x ∈ ns
    rotate_left
    · refine ⟨d, _, rfl, dn_out hd cx, ?_⟩
      rw [Option.isSome_none]
      walk_at "rs"
      exact hR _ _ ⟨rfl, rfl, fun z => cx z.1⟩
    refine ⟨d, _, rfl, dn_in hd cx, ?_⟩
    rw [Option.isSome_some]
    walk_at "rs"
    have hi : ns.idxOf x < ns.length := List.idxOf_lt_length_iff.mpr cx
    refine ⟨d, _, rfl, dn_in hd cx, ?_⟩
    refine to_ixLk (SqL.of hw) rfl (by rw [asI_len, hlw]; exact hi) ?_
    rw [asI_get]
    walk_at "rs"
    by_cases c0 : ws.getD (ns.idxOf x) 0 = 0
    · rw [c0]
      walk_at "rs"
      exact hR _ _ ⟨rfl, rfl, fun z => z.2 c0⟩
    · rw [decide_eq_false (by omega)]
      walk_at "rs"
      exact ⟨.int i, rfl, fun dx hdx => q1 cx c0 dx _ (Same.new hdx _) upd_same⟩
  rintro σ J ⟨rfl, rfl, hno⟩
  rw [q_seq]
  walk_at "rs"
  refine ⟨by decide, fun p hp0 => ?_⟩
  generalize e1 : upd J p _ = H1
  obtain ⟨s1, m1⟩ := nw hp0 e1
  clear e1
  refine ⟨p, t, _, _, rfl, rfl, SqT.of m1, SqT.of (s1 _ _ ht), by rw [List.length_map]; show 1 + _ ≤ _; omega, fun p1 H2 s2 hp1 => ?_⟩
  have hd2 : DN H2 d ns := s2 _ _ (s1 _ _ hd)
  have hxl : ([V.str x] ++ l.map V.str) = (x :: l).map V.str := rfl
  rw [hxl] at hp1
  refine ⟨p1, rfl, ⟨_, hp1⟩, lc1 (itok_tup hp1) (fun _ => true) (fun i => .bl (decide ((x :: l).getD i noS ∈ ns))) (by rw [List.length_map, List.length_cons]; exact small1000 (by omega)) ?_ ?_⟩
  · intro i H3 A B' hi hS hA _
    rw [List.length_map] at hi
    rw [show ((x :: l).map V.str).getD i .non = .str ((x :: l).getD i noS) by rw [List.getD_eq_getElem?_getD, str_item hi]; rfl]
    walk_at "rs"
    refine to_dnin (hS _ _ hd2) ?_
    exact hA rfl _ (Same.refl _)
  intro acc H3 hn3 s3 hacc
  rw [fil_all, List.length_map] at hacc
  refine ⟨acc, (List.range (x :: l).length).map fun i => decide ((x :: l).getD i noS ∈ ns), rfl, SqL.of (by rw [hacc, List.map_map]; rfl), ?_⟩
  have eT : (((List.range (x :: l).length).map fun i => decide ((x :: l).getD i noS ∈ ns)).all id) = ((x :: l).all fun y => decide (y ∈ ns)) := by
    rw [map_rangeS (fun y => decide (y ∈ ns)) (x :: l), List.all_map]; rfl
  rw [eT]
  have sH3 := s1.trans (s2.trans s3)
  walk_at "rs"
  cases ca : (x :: l).all fun y => decide (y ∈ ns) with
  | false =>
    walk_at "rs"
    refine ⟨.int i, rfl, fun dx hdx => q2 hno ?_ dx _ (sH3.trans (Same.new hdx _)) upd_same⟩
    obtain ⟨y, hy, hy2⟩ := List.all_eq_false.mp ca
    exact ⟨y, hy, fun z => hy2 (decide_eq_true z)⟩
  | true =>
    have hall : ∀ y ∈ x :: l, y ∈ ns := fun y hy => of_decide_eq_true (List.all_eq_true.mp ca y hy)
    have hx' := hall x List.mem_cons_self
    have hl : ∀ y ∈ l, y ∈ ns := fun y hy => hall y (List.mem_cons_of_mem _ hy)
    have hi : ns.idxOf x < ns.length := List.idxOf_lt_length_iff.mpr hx'
    walk_at "rs"
    have hd3 : DN H3 d ns := s3 _ _ hd2
    have ht3 := sH3 _ _ ht
    refine ⟨t, rfl, ⟨_, SqT.of ht3⟩, lc1 (itok_tup (SqT.of ht3)) (fun _ => true) (fun i => .int ((2 ^ ns.idxOf (l.getD i noS) : Nat) : Int)) (by rw [List.length_map]; exact small1000 (by omega)) ?_ ?_⟩
    · intro i H4 A B' hi hS hA _
      rw [List.length_map] at hi
      rw [show (l.map V.str).getD i .non = .str (l.getD i noS) by rw [List.getD_eq_getElem?_getD, str_item hi]; rfl]
      walk_at "rs"
      refine ⟨d, _, rfl, dn_in (hS _ _ hd3) (hl _ (getD_memS hi)), ?_⟩
      have hlt : ns.idxOf (l.getD i noS) < ns.length := List.idxOf_lt_length_iff.mpr (hl _ (getD_memS hi))
      walk_at "rs"
      refine ⟨cpow1 (by omega), ?_⟩
      exact hA rfl H4 (Same.refl _)
    intro ac2 H4 hn4 s4 hac2
    rw [fil_all, List.length_map] at hac2
    refine ⟨ac2, (List.range l.length).map fun i => ((2 ^ ns.idxOf (l.getD i noS) : Nat) : Int), rfl, SqL.of (by rw [hac2, List.map_map]; rfl), ?_⟩
    walk_at "rs"
    rw [mask_sum]
    refine ⟨d, _, rfl, dn_in (s4 _ _ hd3) hx', ?_⟩
    refine ⟨w, _, _, _, rfl, rfl, (sH3.trans s4) _ _ hw, ixN_nat (by rw [List.length_map, asI_len, hlw]; exact hi), ?_⟩
    rw [asI_setV]
    exact q hno hall _ (sH3.trans s4)
theorem ds_rows_of : DS (defScope s_rows_of) ["text"] ["text"] [] := ds_of (by decide +kernel)
theorem ok_rows (B : Bn mg) (D : Def K mg "rows_of" s_rows_of) : Fn P w K mg base 1 "rows_of" ["text"] spRows := by
  refine D.gq ds_rows_of (fun _ _ _ _ _ _ us hl => match us, hl with | [_], _ => rfl) (fun vs H Q E h => ?_) ?_
  · obtain ⟨z, rfl, _⟩ := h; rfl
  intro X S e1 e2 e3 e4 e5 hc hsc hxe hr hu H vs Q E h
  subst e1 e2 e3 e4 e5
  obtain ⟨z, rfl, hz, hfew, q⟩ := h
  refine ⟨_, (ss_cons (sif (tcmp op_eq (kv S 0) kstr (nomark _)) (ss_one (sret (kls kb_nil))) ss_nil)
      (ss_one (sret (kmb PySem.F.plainAttrs_str PySem.F.slot_str_split PySem.F.type_str_split mt_str_split (K := X.K) rfl (kv S 0) (kb_cons kstr kb_nil))))), ?_⟩
  walk_at "rd"
  refine ite2 (fun c => ?_) (fun c => ?_)
  · refine ⟨by decide, fun l hl => ?_⟩
    exact q l _ (Same.new hl _) hl (by rw [upd_same]; unfold rowsS; rw [if_pos c]; rfl)
  · have hsz : (1000002 : Nat) ≤ sizeLine := by decide
    have en : (Str.ofString "\n") = ⟨#[10]⟩ := by decide +kernel
    have er : rowsS z = Txt.split z ⟨#[10]⟩ := by unfold rowsS; rw [if_neg c]
    refine ⟨rfl, z, _, rfl, rfl, by decide +kernel, by omega, ?_, fun p hp => ?_⟩
    · rw [en, ← er]; omega
    · rw [en, ← er]
      exact q p _ (Same.new hp _) hp upd_same
end
section
variable {P : Program} {w : World} {K : PySem.W.Frag} {mg : Str → Option Value} {base : Heap} {er : Str → Addr}
/-! ### a book is read -/
theorem stepF_bad {s : List Str × List Str} {z : Str} {j : Nat} (h : errK z = some j) : stepF s z = .inl j := by
  unfold errK at h
  unfold stepF
  by_cases c1 : hatB (wz z) = true
  · rw [if_pos c1] at h; cases h
  · rw [if_neg c1] at h ⊢
    by_cases c2 : seesB (wz z) = true
    · rw [if_pos c2] at h ⊢
      by_cases c3 : ((wz z).drop 1).Nodup
      · rw [if_pos c3] at h; cases h
      · rw [if_neg c3] at h; cases h
        rw [if_pos (.inl c3)]
    · rw [if_neg c2] at h ⊢; cases h; rfl
theorem stepF_hat {s : List Str × List Str} {z : Str} (h : hatB (wz z) = true) : stepF s z = if (wz z).getD 1 noS ∈ s.1 then .inl 1 else if s.1.length = 8 then .inl 3 else .inr (s.1 ++ [(wz z).getD 1 noS], s.2) := by unfold stepF; rw [if_pos h]
theorem stepF_sees {s : List Str × List Str} {z : Str} (h : hatB (wz z) = false) (h2 : seesB (wz z) = true) (h3 : ((wz z).drop 1).Nodup) : stepF s z = if (wz z).getD 1 noS ∈ s.2 then .inl 1 else if ∃ y ∈ (wz z).drop 1, y ∉ s.1 then .inl 2 else .inr (s.1, s.2 ++ [(wz z).getD 1 noS]) := by
  unfold stepF
  rw [h, if_neg (by decide), if_pos h2]
  by_cases c : (wz z).getD 1 noS ∈ s.2
  · rw [if_pos (.inr c), if_pos c]
  · rw [if_neg (fun z => z.elim (fun n => n h3) c), if_neg c]
theorem ds_read_book : DS (defScope s_read_book) ["text", "numbers", "counts", "web", "line", "row", "told"] ["text"] ["enumerate", "rows_of", "read_line", "add_hat", "add_sight", "tuple"] := ds_of (by decide +kernel)
theorem ok_bookR (B : Bn mg) (D : Def K mg "read_book" s_read_book) (F_rows_of : Fn P w K mg base 1 "rows_of" ["text"] spRows) (F_read_line : FnG P w K mg base 3 "read_line" "text" "line" 0 (spReadR er)) (F_add_hat : FnE P w K mg base 3 "add_hat" ["numbers", "name", "line"] (spAddHatR er)) (F_add_sight : FnE P w K mg base 3 "add_sight" ["numbers", "web", "name", "seen", "line"] (spAddSightR er)) : FnE P w K mg base 4 "read_book" ["text"] (spBookR er) := by
  refine D.gfl ds_read_book (fun _ _ _ _ _ _ us hl => match us, hl with | [_], _ => rfl) (fun vs H Q E h => ?_) ?_
  · obtain ⟨z, rfl, _⟩ := h; rfl
  intro X E S e1 e2 e3 e4 e5 hc hsc hx hp hpo hr hu H vs Q h
  subst e1 e2 e3 e4 e5
  obtain ⟨z, rfl, hz, hL, hok, q, qE⟩ := h
  refine ⟨_, (ss_cons (ssv S 1 kdnew)
      (ss_cons (ssv S 2 (kls kb_nil))
      (ss_cons (ssv S 3 (kls kb_nil))
      (ss_cons (sforP hpo hc (ienL S 0 B.enumerate (K := X.K) rfl (kb_cons (kff S 1 F_rows_of hr (kb_cons (kv S 0) kb_nil)) kb_nil)) (gtup hc (K := X.K) (n := 2) rfl (gs_cons (kg S 4) (gs_cons (kg S 5) gs_nil))) (ss_cons (ssv S 6 (kge2 S 2 F_read_line hp hr (kb_cons (kv S 5) (kb_cons (kv S 4) kb_nil))))
      (ss_one (sif (tcmp op_eq (kix (ix_tupK (K := X.K) rfl) (kv S 6) kint (fun _ _ => rfl)) kstr (nomark _)) (ss_cons (sexpr (kfe S 3 F_add_hat hp hr (kb_cons (kv S 1) (kb_cons (kix (ix_tupK (K := X.K) rfl) (kv S 6) kint (fun _ _ => rfl)) (kb_cons (kv S 4) kb_nil)))))
      (ss_cons (sexpr (kmb PySem.F.plainAttrs_list PySem.F.slot_list_append PySem.F.type_list_append mt_append (K := X.K) rfl (kv S 2) (kb_cons (kix (ix_tupK (K := X.K) rfl) (kv S 6) kint (fun _ _ => rfl)) kb_nil)))
      (ss_one (sexpr (kmb PySem.F.plainAttrs_list PySem.F.slot_list_append PySem.F.type_list_append mt_append (K := X.K) rfl (kv S 3) (kb_cons kint kb_nil)))))) (ss_one (sexpr (kfe S 4 F_add_sight hp hr (kb_cons (kv S 1) (kb_cons (kv S 3) (kb_cons (kix (ix_tupK (K := X.K) rfl) (kv S 6) kint (fun _ _ => rfl)) (kb_cons (kix (ix_tupK (K := X.K) rfl) (kv S 6) kint (fun _ _ => rfl)) (kb_cons (kv S 4) kb_nil))))))))))))
      (ss_one (sret (ktp (kb_cons (kct S 5 (call_tupD hc) B.tuple boot_tuple (kb_cons (kv S 1) kb_nil)) (kb_cons (kct S 5 (call_tupK (K := X.K) rfl) B.tuple boot_tuple (kb_cons (kv S 2) kb_nil)) (kb_cons (kct S 5 (call_tupK (K := X.K) rfl) B.tuple boot_tuple (kb_cons (kv S 3) kb_nil)) kb_nil)))))))))), ?_⟩
  walk_at "rs"
  rw [q_seq]
  walk_at "rs"
  intro d hd0
  generalize e0 : upd H d _ = H1
  obtain ⟨s1, md⟩ := nw hd0 e0
  clear e0
  rw [q_seq]
  walk_at "rs"
  refine ⟨by decide, fun c hc0 => ?_⟩
  generalize e0 : upd H1 c _ = H2
  obtain ⟨s2, mc⟩ := nw hc0 e0
  clear e0
  rw [q_seq]
  walk_at "rs"
  refine ⟨by decide, fun w hw0 => ?_⟩
  generalize e0 : upd H2 w _ = H3
  obtain ⟨s3, mw⟩ := nw hw0 e0
  clear e0
  have dc : d ≠ c := ne_of_none md hc0
  have dw : d ≠ w := ne_of_none (s2 _ _ md) hw0
  have cw : c ≠ w := ne_of_none mc hw0
  have hcn : H c = none := s1.free hc0
  have hwn : H w = none := (s1.trans s2).free hw0
  rw [q_seq]
  walk_at "rs"
  refine ⟨z, rfl, hz, by omega, fun r H4 s4 hr0 hr4 => ?_⟩
  have dr : d ≠ r := ne_of_none (s3 _ _ (s2 _ _ md)) hr0
  have cr : c ≠ r := ne_of_none (s3 _ _ mc) hr0
  have wr : w ≠ r := ne_of_none mw hr0
  have sH4 := s1.trans (s2.trans (s3.trans s4))
  have hB0 : BkR H4 d c w ([], []) := ⟨[], [], (s2.trans (s3.trans s4)) _ _ md, (s3.trans s4) _ _ mc, by decide, rfl, s4 _ _ mw, rfl, by decide, (fun y hy => nomatch hy), (fun y hy => nomatch hy)⟩
  refine forEL (InvBr H z d c w r (rowsS z)) (SqL.of hr4) ⟨_, _, _, _, rfl, sH4, hr4, rfl, hB0⟩ (fun k σ H' h => by obtain ⟨b, y1, y2, y3, _, _, h, _⟩ := h; exact SqL.of h) ?_ ?_
  · rintro k v σ J J1 hv ⟨s, y1, y2, y3, rfl, hS, hrJ, hrun, hB⟩ t1
    obtain ⟨x, hxk, rfl⟩ : ∃ x, (rowsS z)[k]? = some x ∧ v = .str x := by
      rw [List.getElem?_map] at hv
      cases e : (rowsS z)[k]? with
      | none => rw [e] at hv; cases hv
      | some x => rw [e] at hv; cases hv; exact ⟨x, rfl, rfl⟩
    have hx800 := hok x (List.mem_of_getElem? hxk)
    have bad : ∀ e, stepF s x = .inl e → ∀ dx J', Same H J' → J' dx = some (.xd [("line", .int (k : Int))]) → E (.ref (er (errN e))) (some dx) J' := fun e he dx J' sJ m => qE e k (by have := first_at (j := 0) hrun hxk he; rw [Nat.zero_add] at this; exact this) dx J' sJ m
    have hS1 := hS.trans t1
    walk_at "rs"
    rw [q_seq]
    walk_at "rs"
    refine ⟨x, _, rfl, hx800, fun f J2 hn t2 hf => ?_, fun j dx J2 hj t2 m => bad j (stepF_bad hj) dx J2 (hS1.trans t2) m⟩
    obtain ⟨cs, ws, hd, hcc, hc8, hcl, hww, hbs⟩ := hB.ex
    have t12 := t1.trans t2
    have hS2 := hS.trans t12
    walk_at "rs"
    rcases hf with ⟨hh, cv, hcv, hf⟩ | ⟨hh, hs, p, hf1, hf2⟩
    · have hst := stepF_hat (s := s) hh
      refine to_ixT (i := ((0 : Nat) : Int)) (SqT.of hf) (atI_at rfl) ?_
      walk_at "rs"
      rw [q_seq]
      walk_at "rs"
      refine to_ixT (i := ((1 : Nat) : Int)) (SqT.of hf) (atI_at rfl) ?_
      walk_at "rs"
      refine ⟨d, s.1, _, _, rfl, t12 _ _ hd, hbs.few, fun c1 dx J3 t3 m => bad 1 (by rw [hst, if_pos c1]) dx J3 (hS2.trans t3) m, fun c1 c2 dx J3 t3 m => bad 3 (by rw [hst, if_neg c1, if_pos c2]) dx J3 (hS2.trans t3) m, fun c1 c2 => ?_⟩
      have hst2 : stepF s x = .inr (s.1 ++ [(wz x).getD 1 noS], s.2) := by rw [hst, if_neg c1, if_neg (by omega)]
      have fd : f ≠ d := fun e => by have := t12 _ _ hd; rw [← e, hf] at this; cases this
      have fc : f ≠ c := fun e => by have := t12 _ _ hcc; rw [← e, hf] at this; cases this
      generalize e5 : upd J2 d _ = J5
      have hc5 : J5 c = some (.lst (cs.map V.int)) := by rw [← e5, upd_ne dc.symm]; exact t12 _ _ hcc
      have hw5 : J5 w = some (.lst ((asI ws).map V.int)) := by rw [← e5, upd_ne dw.symm]; exact t12 _ _ hww
      have hr5 : J5 r = some (.lst ((rowsS z).map V.str)) := by rw [← e5, upd_ne dr.symm]; exact t12 _ _ hrJ
      have hf5 : J5 f = some (.tup [.str "hat", .str ((wz x).getD 1 noS), .int cv]) := by rw [← e5, upd_ne fd]; exact hf
      have hd5 : J5 d = some (.dK (kvF 0 (s.1 ++ [(wz x).getD 1 noS]))) := by rw [← e5]; exact upd_same
      have hS5 : Same H J5 := by rw [← e5]; exact hS2.set hd0 _
      clear e5
      walk_at "rs"
      rw [q_seq]
      walk_at "rs"
      refine ⟨.inl ⟨rfl, _, SqL.of hc5⟩, ?_⟩
      refine to_ixT (i := ((2 : Nat) : Int)) (SqT.of hf5) (atI_at rfl) ?_
      refine ⟨c, _, _, rfl, rfl, hc5, by rw [List.length_map]; exact small8 (by omega), ?_⟩
      generalize e6 : upd J5 c _ = J6
      have hw6 : J6 w = some (.lst ((asI ws).map V.int)) := by rw [← e6, upd_ne cw.symm]; exact hw5
      have hr6 : J6 r = some (.lst ((rowsS z).map V.str)) := by rw [← e6, upd_ne cr.symm]; exact hr5
      have hd6 : J6 d = some (.dK (kvF 0 (s.1 ++ [(wz x).getD 1 noS]))) := by rw [← e6, upd_ne dc]; exact hd5
      have hc6 : J6 c = some (.lst ((cs ++ [cv]).map V.int)) := by rw [← e6, upd_same, List.map_append]; rfl
      have hS6 : Same H J6 := by rw [← e6]; exact hS5.set hcn _
      clear e6
      walk_at "rs"
      refine ⟨.inl ⟨rfl, _, SqL.of hw6⟩, ?_⟩
      refine ⟨w, _, _, rfl, rfl, hw6, by rw [List.length_map, asI_len, hbs.lw]; exact small8 (by omega), ?_⟩
      rw [show (V.int 0) = V.int ((0 : Nat) : Int) from rfl, asI_snoc]
      refine ⟨_, _, _, _, rfl, hS6.set hwn _, by rw [upd_ne wr.symm]; exact hr6, run_next hrun hxk hst2, ⟨cs ++ [cv], ws ++ [0], by show upd _ _ _ _ = _; rw [upd_ne dw]; exact hd6, by rw [upd_ne cw]; exact hc6, ?_, ?_, upd_same, hbs.hat c1 c2⟩⟩
      · rw [List.length_append]; show _ + 1 ≤ 8; omega
      · rw [List.length_append, List.length_append, hcl]; rfl
    · have hnd : ((wz x).drop 1).Nodup := by
        by_cases c : ((wz x).drop 1).Nodup
        · exact c
        · rw [errK_twice hh hs c] at hn; cases hn
      have hst := stepF_sees (s := s) hh hs hnd
      have h3 : 3 ≤ (wz x).length := by
        have hs' := hs
        unfold seesB at hs'
        rw [Bool.and_eq_true] at hs'
        exact of_decide_eq_true hs'.1
      have hcut : (wz x).drop 1 = (wz x).getD 1 noS :: (wz x).drop 2 := by
        rw [List.drop_eq_getElem_cons (show 1 < (wz x).length by omega), List.getD_eq_getElem?_getD, List.getElem?_eq_getElem (show 1 < (wz x).length by omega)]; rfl
      have hsc1 := split_cnt x
      refine to_ixT (i := ((0 : Nat) : Int)) (SqT.of hf1) (atI_at rfl) ?_
      walk_at "rs"
      rw [if_neg (by decide +kernel)]
      refine to_ixT (i := ((1 : Nat) : Int)) (SqT.of hf1) (atI_at rfl) ?_
      refine to_ixT (i := ((2 : Nat) : Int)) (SqT.of hf1) (atI_at rfl) ?_
      have hsee : (wz x).getD 1 noS ∈ s.2 ↔ (wz x).getD 1 noS ∈ s.1 ∧ ws.getD (s.1.idxOf ((wz x).getD 1 noS)) 0 ≠ 0 := ⟨fun c => ⟨hbs.sub _ c, (hbs.iff _ (hbs.sub _ c)).mpr c⟩, fun c => (hbs.iff _ c.1).mp c.2⟩
      refine ⟨d, w, p, s.1, (wz x).drop 2, ws, _, _, rfl, t12 _ _ hd, t12 _ _ hww, hbs.lw, hbs.few, hf2, by rw [List.length_drop]; show (Txt.split x ⟨#[32]⟩).length - 2 ≤ 850; omega,
        fun c1 c2 dx J3 t3 m => bad 1 (by rw [hst, if_pos (hsee.mpr ⟨c1, c2⟩)]) dx J3 (hS2.trans t3) m,
        fun c1 c2 dx J3 t3 m => bad 2 (by rw [hst, if_neg (fun h => c1 (hsee.mp h)), if_pos (by rw [hcut]; exact c2)]) dx J3 (hS2.trans t3) m, fun c1 c2 J3 t3 => ?_⟩
      have hst2 : stepF s x = .inr (s.1, s.2 ++ [(wz x).getD 1 noS]) := by
        rw [hst, if_neg (fun h => c1 (hsee.mp h)), if_neg]
        rintro ⟨y, hy, hy2⟩
        rw [hcut] at hy
        exact hy2 (c2 y hy)
      have t13 := t12.trans t3
      walk_at "rs"
      refine ⟨_, _, _, _, rfl, (hS.trans t13).set hwn _, by rw [upd_ne wr.symm]; exact t13 _ _ hrJ, run_next hrun hxk hst2, ⟨cs, _, by show upd _ _ _ _ = _; rw [upd_ne dw]; exact t13 _ _ hd, by rw [upd_ne cw]; exact t13 _ _ hcc, hc8, hcl, upd_same, hbs.sees (c2 _ List.mem_cons_self) (mask_pos fun e => ?_)⟩⟩
      have : ((wz x).drop 2).length = (wz x).length - 2 := List.length_drop
      rw [e] at this
      have : 0 = (wz x).length - 2 := this
      omega
  · rintro σ J ⟨s, y1, y2, y3, rfl, hS, hrJ, hrun, hB⟩
    rw [List.length_map, List.take_length] at hrun
    obtain ⟨cs, ws, hd, hcc, hc8, hcl, hww, hbs⟩ := hB.ex
    walk_at "rs"
    refine to_dntup hd fun a1 ha1 => ?_
    have u1 := Same.new ha1 (.tup (s.1.map V.str))
    refine ⟨c, _, rfl, .inl ⟨SqL.of (u1 _ _ hcc), fun a2 ha2 => ?_⟩⟩
    have u2 := Same.new ha2 (.tup (cs.map V.int))
    refine ⟨w, _, rfl, .inl ⟨SqL.of (u2 _ _ (u1 _ _ hww)), fun a3 ha3 => ?_⟩⟩
    have u3 := Same.new ha3 (.tup ((asI ws).map V.int))
    refine ⟨by decide, fun t ht => ?_⟩
    exact q (first_none hrun) t a1 a2 a3 _ (hS.trans ((u1.trans u2).trans (u3.trans (Same.new ht _)))) upd_same
end
section
variable {P : Program} {w : World} {K : PySem.W.Frag} {mg : Str → Option Value} {base : Heap} {er : Str → Addr}
/-! ### an item of the script -/
theorem ds_law_cell_at : DS (defScope s_law_cell_at) ["script", "k"] ["script", "k"] ["len"] := ds_of (by decide +kernel)
theorem ok_at (B : Bn mg) (D : Def K mg "_law_cell_at" s_law_cell_at) : Fn P w K mg base 1 "_law_cell_at" ["script", "k"] (spAt K) := by
  refine D.gq ds_law_cell_at (fun _ _ _ _ _ _ us hl => match us, hl with | [_, _], _ => rfl) (fun vs H Q E h => ?_) ?_
  · obtain ⟨a, ns, k, rfl, _⟩ := h; rfl
  intro X S e1 e2 e3 e4 e5 hc hsc hxe hr hu H vs Q E h
  subst e1 e2 e3 e4 e5
  obtain ⟨a, ns, k, rfl, ha, q⟩ := h
  refine ⟨_, (ss_cons (sif (tcmp op_lt (kv S 1) (kcb S 0 (call_lenK (K := X.K) rfl) B.len boot_len (kb_cons (kv S 0) kb_nil)) (nomark _)) (ss_one (sret (kix (ix_listK (K := X.K) rfl) (kv S 0) (kv S 1) (fun _ _ => rfl)))) ss_nil)
      (ss_one (sret kint))), ?_⟩
  walk_at "rd"
  refine to_len (.inl ha) ?_
  rw [List.length_map]
  walk_at "rd"
  refine ite2 (fun c => ?_) (fun c => ?_)
  · exact to_ixLk ha rfl (by omega) (q _)
  · exact q 0
/-! ### draws, fresh words -/
theorem ds_law_draws : DS (defScope s_law_draws) ["cell", "count", "number", "drawn", "k"] ["cell", "count"] ["range"] := ds_of (by decide +kernel)
theorem ok_drawsL (B : Bn mg) (D : Def K mg "_law_draws" s_law_draws) : Fn P w K mg base 1 "_law_draws" ["cell", "count"] spDrawsL := by
  refine D.gq ds_law_draws (fun _ _ _ _ _ _ us hl => match us, hl with | [_, _], _ => rfl) (fun vs H Q E h => ?_) ?_
  · obtain ⟨cell, n, rfl, _⟩ := h; rfl
  intro X S e1 e2 e3 e4 e5 hc hsc hxe hr hu H vs Q E h
  subst e1 e2 e3 e4 e5
  obtain ⟨cell, n, rfl, hn, q⟩ := h
  refine ⟨_, (ss_cons (ssv S 2 (kmodc (kmulc (kop op_add (kmodc (kv S 0)) kint))))
      (ss_cons (ssv S 3 (kls kb_nil))
      (ss_cons (sfor hxe hc (irg1 S 0 B.range (kb_cons (kv S 1) kb_nil)) (kg S 4) (ss_cons (ssv S 2 (kmodc (kmulc (kv S 2))))
      (ss_one (sexpr (kmb PySem.F.plainAttrs_list PySem.F.slot_list_append PySem.F.type_list_append mt_append (K := X.K) rfl (kv S 3) (kb_cons (kdivc (kmodc (kop op_mulG (kv S 2) (kv S 2)))) kb_nil))))))
      (ss_one (sret (kv S 3)))))), ?_⟩
  walk_at "rd"
  refine ⟨by decide, fun l hl => ?_⟩
  refine forR n (InvDw H cell n l) rfl (by omega) ⟨_, [], _, rfl, Same.new hl _, upd_same, rfl, (fun x hx => nomatch hx)⟩ ?_ ?_
  · rintro k σ H1 hk ⟨num, ns, y, rfl, hS, hl1, hlen, hnn⟩
    walk_at "rd"
    have h0 := Int.emod_nonneg (num * 45742) (show (2147483543 : Int) ≠ 0 by decide)
    have h1 := Int.emod_lt_of_pos (num * 45742) (show (0 : Int) < 2147483543 by decide)
    generalize num * 45742 % 2147483543 = nm at h0 h1 ⊢
    refine ⟨.inl ⟨rfl, _, SqL.of hl1⟩, ok_left (by omega) (by omega), ?_⟩
    refine ⟨l, _, _, rfl, rfl, hl1, by rw [List.length_map]; exact small1000 (by omega), ?_⟩
    refine ⟨_, ns ++ [nm * nm % 2147483579 / 7], _, rfl, hS.set hl _, by rw [upd_same, List.map_append]; rfl, by rw [List.length_append, hlen]; rfl, fun x hx => ?_⟩
    rcases List.mem_append.mp hx with z | z
    · exact hnn x z
    · rw [List.mem_singleton.mp z]; omega
  · rintro σ H1 ⟨num, ns, y, rfl, hS, hl1, hlen, hnn⟩
    walk_at "rd"
    exact q l ns H1 hS hl hl1 hlen hnn
theorem ds_law_fresh : DS (defScope s_law_fresh) ["number", "size", "letters", "name", "k"] ["number", "size"] ["range"] := ds_of (by decide +kernel)
theorem ok_fresh (B : Bn mg) (D : Def K mg "_law_fresh" s_law_fresh) : Fn P w K mg base 1 "_law_fresh" ["number", "size"] spFresh := by
  refine D.gq ds_law_fresh (fun _ _ _ _ _ _ us hl => match us, hl with | [_, _], _ => rfl) (fun vs H Q E h => ?_) ?_
  · obtain ⟨num, k, rfl, _⟩ := h; rfl
  intro X S e1 e2 e3 e4 e5 hc hsc hxe hr hu H vs Q E h
  subst e1 e2 e3 e4 e5
  obtain ⟨num, n, rfl, hn, q⟩ := h
  refine ⟨_, (ss_cons (ssv S 2 kstr)
      (ss_cons (ssv S 3 kstr)
      (ss_cons (sfor hxe hc (irg1 S 0 B.range (kb_cons (kv S 1) kb_nil)) (kg S 4) (ss_cons (ssv S 0 (kmodc (kop op_add (kmulc (kv S 0)) kint)))
      (ss_one (ssv S 3 (kop op_add_str (kv S 3) (kix ix_str (kv S 2) (kmodc (kdivc (kv S 0))) (fun _ _ => rfl)))))))
      (ss_one (sret (kv S 3)))))), ?_⟩
  walk_at "rd"
  refine forR n (InvFr H n) rfl (by omega) ⟨_, _, _, rfl, rfl, rfl, (fun c hc => nomatch hc)⟩ ?_ ?_
  · rintro k σ H1 hk ⟨num, z, y, rfl, rfl, hz, hlow⟩
    walk_at "rd"
    obtain ⟨c, ec, hlc⟩ := let_at (i := (num * 48271 + 11) % 2147483647 / 23 % 26) (by omega) (by omega)
    refine ⟨letS, _, c, rfl, rfl, by decide +kernel, ec, ?_⟩
    refine ⟨_, _, rfl, rfl, ?_, ?_⟩
    · show z.length + 1 ≤ sizeLine
      have : (100 : Nat) ≤ sizeLine := by decide
      omega
    · exact ⟨_, z ++ ⟨#[c]⟩, _, rfl, rfl, by rw [len_append, hz]; rfl, hlow.append hlc⟩
  · rintro σ H1 ⟨num, z, y, rfl, rfl, hz, hlow⟩
    walk_at "rd"
    exact q z hz hlow
end
section
variable {P : Program} {w : World} {K : PySem.W.Frag} {mg : Str → Option Value} {base : Heap} {er : Str → Addr}
/-! ### names -/
theorem seqI {A B : TS} {D : Ends} {σ : L2.St} {H : Hp} (I : L2.St → Hp → Prop) (h2 : ∀ σ' H', I σ' H' → B D σ' H') (h1 : ∀ R : L2.St → Hp → Prop, (∀ σ' H', I σ' H' → R σ' H') → A { D with nx := R } σ H) : tSeq A B D σ H := h1 (B D) h2
theorem dr_at {K : PySem.W.Frag} {dn : List Int} {H : Hp} {dr : Addr} {i : Int} {m : Nat} {Q : VK} (hd : H dr = some (.lst (dn.map V.int))) (hl : dn.length = m) (hnn : ∀ x ∈ dn, 0 ≤ x) (h0 : 0 ≤ i) (h1 : i < m) (q : ∀ x : Int, 0 ≤ x → Q (.int x) H) : rIxL K (.ref dr) (.int i) H Q := by
  obtain ⟨m, rfl⟩ := Int.eq_ofNat_of_zero_le h0
  have hm : m < dn.length := by omega
  exact to_ixL' (SqL.of hd) (atI_at (by rw [List.getElem?_map, List.getElem?_eq_getElem hm]; rfl)) (q _ (hnn _ (List.getElem_mem hm)))
noncomputable def InvNx (H0 : Hp) (cell : Int) (n : Nat) (sm dr : Addr) (base : Str) (a : Nat) (l : Addr) (dn : List Int) (k : Nat) (σ : L2.St) (H : Hp) : Prop := ∃ (ns : List Str) (name : Str) (y3 y4 : Option V), σ = [some (.int cell), some (.int n), some (.str letS), some (.ref sm), some (.ref dr), some (.str base), some (.int a), some (.ref l), some (.int k), some (.str name), y3, y4] ∧ Same H0 H ∧ H l = some (.lst (ns.map V.str)) ∧ H sm = some (.lst (someS.map V.str)) ∧ H dr = some (.lst (dn.map V.int)) ∧ Nms ns k ∧ (1 ≤ k → ns ≠ []) ∧ nameB name = true
theorem nms_put {ns : List Str} {k : Nat} {x : Str} (h : Nms ns k) (hx : nameB x = true) (hn : x ∉ ns) : Nms (ns ++ [x]) (k + 1) where
  few := by rw [List.length_append]; have := h.few; simp; omega
  nd := List.nodup_append.mpr ⟨h.nd, by simp, fun a ha b hb => by rw [List.mem_singleton.mp hb]; rintro rfl; exact hn ha⟩
  nm := fun y hy => by
    rcases List.mem_append.mp hy with z | z
    · exact h.nm y z
    · rw [List.mem_singleton.mp z]; exact hx
theorem nms_more {ns : List Str} {k m : Nat} (h : Nms ns k) (hk : k ≤ m) : Nms ns m := ⟨Nat.le_trans h.few hk, h.nd, h.nm⟩
noncomputable def twS : Str := "abcdefghijkl"
theorem tw_low : LowS twS := by
  have h : ∀ c ∈ cz twS, lowB c = true := by decide +kernel
  exact h
theorem tw_len : twS.length = 12 := by decide +kernel
theorem ds_law_names : DS (defScope s_law_names) ["cell", "size", "letters", "some", "drawn", "base", "at", "names", "k", "name", "sign", "width"] ["cell", "size"] ["_law_draws", "_law_fresh", "len", "range"] := ds_of (by decide +kernel)
theorem ok_names (B : Bn mg) (D : Def K mg "_law_names" s_law_names) (F_law_draws : Fn P w K mg base 1 "_law_draws" ["cell", "count"] spDrawsL) (F_law_fresh : Fn P w K mg base 1 "_law_fresh" ["number", "size"] spFresh) : Fn P w K mg base 2 "_law_names" ["cell", "size"] spNames := by
  refine D.gq ds_law_names (fun _ _ _ _ _ _ us hl => match us, hl with | [_, _], _ => rfl) (fun vs H Q E h => ?_) ?_
  · obtain ⟨cell, n, rfl, _⟩ := h; rfl
  intro X S e1 e2 e3 e4 e5 hc hsc hxe hr hu H vs Q E h
  subst e1 e2 e3 e4 e5
  obtain ⟨cell, n, rfl, hn1, hn, q⟩ := h
  refine ⟨_, (ss_cons (ssv S 2 kstr)
      (ss_cons (ssv S 3 (kls (kb_strs (ns := ["hat", "sees", "put", "guess", "right", "ring", "order", "book", "sure", "share", "groups"]) (by decide +kernel))))
      (ss_cons (ssv S 3 (kop (op_catLK (K := X.K) rfl) (kv S 3) (kls (kb_cons kstr (kb_cons kstr kb_nil)))))
      (ss_cons (ssv S 4 (kff S 0 F_law_draws hr (kb_cons (kv S 0) (kb_cons kint kb_nil))))
      (ss_cons (ssv S 5 (kff S 1 F_law_fresh hr (kb_cons (kix (ix_listK (K := X.K) rfl) (kv S 4) kint (fun _ _ => rfl)) (kb_cons (kop op_add kint (kmodc (kix (ix_listK (K := X.K) rfl) (kv S 4) kint (fun _ _ => rfl)))) kb_nil))))
      (ss_cons (ssv S 6 (kop op_mod (kix (ix_listK (K := X.K) rfl) (kv S 4) kint (fun _ _ => rfl)) (kcb S 2 call_len_str B.len boot_len (kb_cons (kv S 5) kb_nil))))
      (ss_cons (ssv S 7 (kls kb_nil))
      (ss_cons (sfor hxe hc (irg1 S 3 B.range (kb_cons (kv S 1) kb_nil)) (kg S 8) (ss_cons (ssv S 9 (kff S 1 F_law_fresh hr (kb_cons (kix (ix_listK (K := X.K) rfl) (kv S 4) (kop op_add kint (kv S 8)) (fun _ _ => rfl)) (kb_cons (kop op_add kint (kmodc (kix (ix_listK (K := X.K) rfl) (kv S 4) (kop op_add kint (kv S 8)) (fun _ _ => rfl)))) kb_nil))))
      (ss_cons (sif (tcmp op_lt (kmodc (kix (ix_listK (K := X.K) rfl) (kv S 4) kint (fun _ _ => rfl))) kint (nomark _)) (ss_cons (ssv S 10 (kix ix_str (kv S 2) (kmodc (kop op_add (kix (ix_listK (K := X.K) rfl) (kv S 4) kint (fun _ _ => rfl)) (kop op_mulG (kv S 8) (kix (ix_listK (K := X.K) rfl) (kls (kb_ints (ns := [1, 3, 5, 7, 9, 11]) (by decide +kernel))) (kmodc (kix (ix_listK (K := X.K) rfl) (kv S 4) kint (fun _ _ => rfl))) (fun _ _ => rfl))))) (fun _ _ => rfl)))
      (ss_one (ssv S 9 (kop op_add_str (kop op_add_str (ksl sl_str (kv S 5) ko_none (ko_some (kv S 6))) (kv S 10)) (ksl sl_str (kv S 5) (ko_some (kop op_add (kv S 6) kint)) ko_none))))) ss_nil)
      (ss_cons (sif (tcmp op_eq (kmodc (kix (ix_listK (K := X.K) rfl) (kv S 4) kint (fun _ _ => rfl))) kint (nomark _)) (ss_one (ssv S 9 (kix (ix_listK (K := X.K) rfl) (kv S 3) (kmodc (kop op_add (kix (ix_listK (K := X.K) rfl) (kv S 4) kint (fun _ _ => rfl)) (kcmul (kv S 8)))) (fun _ _ => rfl)))) ss_nil)
      (ss_cons (sif (tcmp op_eq (kmodc (kix (ix_listK (K := X.K) rfl) (kv S 4) kint (fun _ _ => rfl))) kint (nomark _)) (ss_cons (ssv S 11 (kop op_add kint (kmodc (kop op_add (kcmul (kv S 8)) (kix (ix_listK (K := X.K) rfl) (kv S 4) kint (fun _ _ => rfl))))))
      (ss_one (ssv S 9 (kix (ix_listK (K := X.K) rfl) (kls (kb_cons (ksl sl_str (kop op_add_str (kv S 5) kstr) ko_none (ko_some (kv S 11))) (kb_cons (ksl sl_str (kop op_add_str kstr (kv S 5)) (ko_some (kun un_neg (kv S 11))) ko_none) kb_nil))) (kmodc (kix (ix_listK (K := X.K) rfl) (kv S 4) kint (fun _ _ => rfl))) (fun _ _ => rfl))))) ss_nil)
      (ss_one (sif (tcmp (op_notInK (K := X.K) rfl) (kv S 9) (kv S 7) (by with_unfolding_all rfl)) (ss_one (sexpr (kmb PySem.F.plainAttrs_list PySem.F.slot_list_append PySem.F.type_list_append mt_append (K := X.K) rfl (kv S 7) (kb_cons (kv S 9) kb_nil)))) ss_nil)))))))
      (ss_one (sret (kv S 7))))))))))), ?_⟩
  walk_at "rs"
  rw [q_seq]
  walk_at "rs"
  walk_at "rs"
  rw [q_seq]
  walk_at "rs"
  refine ⟨by decide, fun s0 hs0 => ?_⟩
  have a0 := Same.new hs0 (.lst [V.str "hat", V.str "sees", V.str "put", V.str "guess", V.str "right", V.str "ring", V.str "order", V.str "book", V.str "sure", V.str "share", V.str "groups"])
  walk_at "rs"
  rw [q_seq]
  walk_at "rs"
  refine ⟨by decide, fun s1 hs1 => ?_⟩
  have a1 := Same.new hs1 (.lst [V.str "circle", V.str "hats"])
  refine ⟨s0, s1, _, _, rfl, rfl, SqL.of (a1 _ _ upd_same), SqL.of upd_same, by decide, fun sm hsm => ?_⟩
  have a2 := Same.new hsm (.lst (someS.map V.str))
  walk_at "rs"
  rw [q_seq]
  walk_at "rs"
  have b0 := a0.trans (a1.trans a2)
  have hsm' : upd (upd (upd H s0 (.lst [V.str "hat", V.str "sees", V.str "put", V.str "guess", V.str "right", V.str "ring", V.str "order", V.str "book", V.str "sure", V.str "share", V.str "groups"])) s1 (.lst [V.str "circle", V.str "hats"])) sm (.lst (someS.map V.str)) sm = some (.lst (someS.map V.str)) := upd_same
  refine ⟨cell, 40, rfl, by decide, fun dr dn H1 t1 hdr0 hdr hdn hnn => ?_⟩
  have b1 := b0.trans t1
  have hsm1 := t1 _ _ hsm'
  walk_at "rs"
  rw [q_seq]
  walk_at "rs"
  refine dr_at hdr hdn hnn (by decide) (by decide) fun x0 hx0 => ?_
  refine dr_at hdr hdn hnn (by decide) (by decide) fun x1 hx1 => ?_
  walk_at "rs"
  obtain ⟨m, hm⟩ := Int.eq_ofNat_of_zero_le (show 0 ≤ 1 + x1 % 12 by omega)
  refine ⟨x0, m, by rw [hm], by omega, fun base hbl hlow => ?_⟩
  walk_at "rs"
  rw [q_seq]
  walk_at "rs"
  refine dr_at hdr hdn hnn (by decide) (by decide) fun x2 hx2 => ?_
  walk_at "rs"
  refine ⟨_, rfl, small1M (by omega), ?_⟩
  walk_at "rs"
  refine ⟨by omega, ?_⟩
  have hmod := Int.emod_nonneg x2 (show ((base.length : Nat) : Int) ≠ 0 by omega)
  have hmod' := Int.emod_lt_of_pos x2 (show (0 : Int) < ((base.length : Nat) : Int) by omega)
  generalize x2 % ((base.length : Nat) : Int) = am at hmod hmod' ⊢
  obtain ⟨a, rfl⟩ := Int.eq_ofNat_of_zero_le hmod
  walk_at "rs"
  rw [q_seq]
  walk_at "rs"
  refine ⟨by decide, fun l hl => ?_⟩
  walk_at "rs"
  rw [q_seq]
  walk_at "rs"
  have sl := Same.new hl (.lst [])
  refine forR n (InvNm H cell n sm dr base a l dn) rfl (by omega) ⟨[], _, _, _, _, rfl, b1.trans sl, upd_same, sl _ _ hsm1, sl _ _ hdr, ⟨by simp, by simp, fun x hx => nomatch hx⟩, fun z => absurd z (by decide)⟩ ?_ ?_
  · rintro k σ H2 hk ⟨ns, y1, y2, y3, y4, rfl, hS, hl2, hsm2, hdr2, hns, hne⟩
    walk_at "rs"
    rw [q_seq]
    walk_at "rs"
    refine dr_at hdr2 hdn hnn (by omega) (by omega) fun x3 hx3 => ?_
    walk_at "rs"
    refine dr_at hdr2 hdn hnn (by omega) (by omega) fun x4 hx4 => ?_
    walk_at "rs"
    obtain ⟨m4, hm4⟩ := Int.eq_ofNat_of_zero_le (show 0 ≤ 1 + x4 % 12 by omega)
    refine ⟨x3, m4, by rw [hm4], by omega, fun name hbl' hlow' => ?_⟩
    have hnm := name_of hlow' (by omega) (by omega)
    walk_at "rs"
    -- a sign of the base changed
    refine seqI (InvNx H cell n sm dr base a l dn k) ?_ (fun R hR => ?_)
    rotate_left
    · walk_at "rs"
      refine dr_at hdr2 hdn hnn (by decide) (by decide) fun x5 hx5 => ?_
      walk_at "rs"
      refine ite2 (fun c => ?_) (fun c => hR _ _ ⟨ns, name, _, _, rfl, hS, hl2, hsm2, hdr2, hns, hne, hnm⟩)
      walk_at "rs"
      rw [q_seq]
      walk_at "rs"
      refine dr_at hdr2 hdn hnn (by decide) (by decide) fun x6 hx6 => ?_
      walk_at "rs"
      refine ⟨by decide, fun o ho => ?_⟩
      have so := Same.new ho (.lst [V.int 1, V.int 3, V.int 5, V.int 7, V.int 9, V.int 11])
      refine dr_at (so _ _ hdr2) hdn hnn (by decide) (by decide) fun x7 hx7 => ?_
      walk_at "rs"
      refine dr_at (dn := [1, 3, 5, 7, 9, 11]) (m := 6) upd_same rfl (by decide) (by omega) (by omega) fun x8 hx8 => ?_
      walk_at "rs"
      refine ⟨ok_left (by omega) (by omega), ?_⟩
      obtain ⟨c', ec, hlc⟩ := let_at (i := (x6 + (k : Int) * x8) % 26) (by omega) (by omega)
      refine ⟨letS, _, c', rfl, rfl, by decide +kernel, ec, ?_⟩
      walk_at "rs"
      have h100 : (1000 : Nat) ≤ sizeLine := by decide
      obtain ⟨u, hu1⟩ : ∃ u, StrLaws.sliceText base none (some (a : Int)) = u := ⟨_, rfl⟩
      obtain ⟨v, hv1⟩ : ∃ v, StrLaws.sliceText base (some ((a + 1 : Nat) : Int)) none = v := ⟨_, rfl⟩
      have hu2 := slice_to (x := base) (k := a) (by omega)
      have hv2 := slice_from (x := base) (k := a + 1) (by omega)
      rw [hu1] at hu2
      rw [hv1] at hv2
      have hul : u.length = a := by rw [cz_length, hu2, List.length_take, ← cz_length]; omega
      have hvl : v.length = base.length - (a + 1) := by rw [cz_length, hv2, List.length_drop, ← cz_length]
      refine ⟨base, rfl, by rw [hu1]; omega, ?_⟩
      rw [hu1]
      walk_at "rs"
      refine ⟨_, _, rfl, rfl, by rw [hul]; show a + 1 ≤ _; omega, ?_⟩
      refine ⟨base, rfl, by rw [show ((a : Int) + 1) = ((a + 1 : Nat) : Int) from rfl, hv1]; omega, ?_⟩
      rw [show ((a : Int) + 1) = ((a + 1 : Nat) : Int) from rfl, hv1]
      have hl3 : (u ++ (⟨#[c']⟩ : Str)).length = a + 1 := by rw [len_append, hul]; rfl
      refine ⟨_, _, rfl, rfl, by rw [hl3]; omega, ?_⟩
      exact hR _ _ ⟨ns, _, _, _, rfl, hS.trans so, so _ _ hl2, so _ _ hsm2, so _ _ hdr2, hns, hne, name_of (((low_take hlow hu2).append hlc).append (low_drop hlow hv2)) (by rw [len_append, hl3]; omega) (by rw [len_append, hl3]; omega)⟩
    rintro σ3 H3 ⟨ns, name, y3, y4, rfl, hS, hl2, hsm2, hdr2, hns, hne, hnm⟩
    -- some word
    refine seqI (InvNx H cell n sm dr base a l dn k) ?_ (fun R hR => ?_)
    rotate_left
    · walk_at "rs"
      refine dr_at hdr2 hdn hnn (by decide) (by decide) fun x5 hx5 => ?_
      walk_at "rs"
      refine ite2 (fun c => ?_) (fun c => hR _ _ ⟨ns, name, _, _, rfl, hS, hl2, hsm2, hdr2, hns, hne, hnm⟩)
      walk_at "rs"
      refine dr_at hdr2 hdn hnn (by decide) (by decide) fun x6 hx6 => ?_
      walk_at "rs"
      obtain ⟨m6, hm6⟩ := Int.eq_ofNat_of_zero_le (show 0 ≤ (x6 + 5 * (k : Int)) % 13 by omega)
      have hm6' : m6 < someS.length := by have : someS.length = 13 := rfl; omega
      rw [hm6]
      refine to_ixL' (SqL.of hsm2) (atI_at (str_item hm6')) ?_
      exact hR _ _ ⟨ns, _, _, _, rfl, hS, hl2, hsm2, hdr2, hns, hne, someS_ok _ (getD_memS hm6')⟩
    rintro σ3 H3 ⟨ns, name, y3, y4, rfl, hS, hl2, hsm2, hdr2, hns, hne, hnm⟩
    -- a beginning or an end
    refine seqI (InvNx H cell n sm dr base a l dn k) ?_ (fun R hR => ?_)
    rotate_left
    · walk_at "rs"
      refine dr_at hdr2 hdn hnn (by decide) (by decide) fun x5 hx5 => ?_
      walk_at "rs"
      refine ite2 (fun c => ?_) (fun c => hR _ _ ⟨ns, name, _, _, rfl, hS, hl2, hsm2, hdr2, hns, hne, hnm⟩)
      walk_at "rs"
      rw [q_seq]
      walk_at "rs"
      refine dr_at hdr2 hdn hnn (by decide) (by decide) fun x6 hx6 => ?_
      walk_at "rs"
      have h0 : 0 ≤ (5 * (k : Int) + x6) % 12 := by omega
      have h1 : (5 * (k : Int) + x6) % 12 < 12 := by omega
      generalize (5 * (k : Int) + x6) % 12 = wd at h0 h1 ⊢
      obtain ⟨w0, rfl⟩ := Int.eq_ofNat_of_zero_le h0
      rw [show (1 + (w0 : Int)) = ((1 + w0 : Nat) : Int) from rfl]
      have h100 : (1000 : Nat) ≤ sizeLine := by decide
      have hb1 : (base ++ twS).length = base.length + 12 := by rw [len_append, tw_len]
      have hb2 : (twS ++ base).length = 12 + base.length := by rw [len_append, tw_len]
      obtain ⟨u, hu1⟩ : ∃ u, StrLaws.sliceText (base ++ twS) none (some ((1 + w0 : Nat) : Int)) = u := ⟨_, rfl⟩
      obtain ⟨v, hv1⟩ : ∃ v, StrLaws.sliceText (twS ++ base) (some (-((1 + w0 : Nat) : Int))) none = v := ⟨_, rfl⟩
      have hu2 := slice_to (x := base ++ twS) (k := 1 + w0) (by omega)
      have hv2 := slice_back (x := twS ++ base) (k := 1 + w0) (by omega) (by omega)
      rw [hu1] at hu2
      rw [hv1] at hv2
      have hul : u.length = 1 + w0 := by rw [cz_length, hu2, List.length_take, ← cz_length]; omega
      have hvl : v.length = 1 + w0 := by rw [cz_length, hv2, List.length_drop, ← cz_length]; omega
      refine ⟨_, _, rfl, rfl, by rw [show (Str.ofString "abcdefghijkl") = twS from rfl, tw_len]; omega, ?_⟩
      refine ⟨_, rfl, by rw [show (Str.ofString "abcdefghijkl") = twS from rfl, hu1]; omega, ?_⟩
      rw [show (Str.ofString "abcdefghijkl") = twS from rfl, hu1]
      walk_at "rs"
      refine ⟨_, _, rfl, rfl, by rw [tw_len]; omega, ?_⟩
      walk_at "rs"
      refine ⟨_, rfl, by rw [hv1]; omega, ?_⟩
      rw [hv1]
      walk_at "rs"
      refine ⟨by decide, fun o ho => ?_⟩
      have so := Same.new ho (.lst [V.str u, V.str v])
      refine dr_at (so _ _ hdr2) hdn hnn (by decide) (by decide) fun x7 hx7 => ?_
      walk_at "rs"
      have okU := name_of (low_take (hlow.append tw_low) hu2) (by omega) (by omega)
      have okV := name_of (low_drop (tw_low.append hlow) hv2) (by omega) (by omega)
      rcases (show x7 % 2 = 0 ∨ x7 % 2 = 1 by omega) with e | e
      · rw [e]
        refine to_ixL' (i := ((0 : Nat) : Int)) (SqL.of upd_same) (atI_at rfl) ?_
        exact hR _ _ ⟨ns, _, _, _, rfl, hS.trans so, so _ _ hl2, so _ _ hsm2, so _ _ hdr2, hns, hne, okU⟩
      · rw [e]
        refine to_ixL' (i := ((1 : Nat) : Int)) (SqL.of upd_same) (atI_at rfl) ?_
        exact hR _ _ ⟨ns, _, _, _, rfl, hS.trans so, so _ _ hl2, so _ _ hsm2, so _ _ hdr2, hns, hne, okV⟩
    rintro σ3 H3 ⟨ns, name, y3, y4, rfl, hS, hl2, hsm2, hdr2, hns, hne, hnm⟩
    walk_at "rs"
    refine to_inS (.inl (SqL.of hl2)) ?_
    walk_at "rs"
    by_cases c : name ∈ ns
    · rw [decide_eq_true c]
      walk_at "rs"
      exact ⟨ns, _, _, _, _, rfl, hS, hl2, hsm2, hdr2, nms_more hns (by omega), fun _ z => by rw [z] at c; exact nomatch c⟩
    · rw [decide_eq_false c]
      walk_at "rs"
      refine ⟨.inl ⟨rfl, _, SqL.of hl2⟩, ?_⟩
      refine ⟨l, _, _, rfl, rfl, hl2, by rw [List.length_map]; exact small8 (by have := hns.few; omega), ?_⟩
      have hl0 : H l = none := b1.free hl
      have ne1 : sm ≠ l := ne_of_none hsm1 hl
      have ne2 : dr ≠ l := ne_of_none hdr hl
      exact ⟨ns ++ [name], _, _, _, _, rfl, hS.set hl0 _, by rw [upd_same, List.map_append]; rfl, by rw [upd_ne ne1]; exact hsm2, by rw [upd_ne ne2]; exact hdr2, nms_put hns hnm c, fun _ => by simp⟩
  · rintro σ H2 ⟨ns, y1, y2, y3, y4, rfl, hS, hl2, hsm2, hdr2, hns, hne⟩
    walk_at "rs"
    exact q l ns H2 hS (b1.free hl) hl2 (hne hn1) hns
end
section
variable {P : Program} {w : World} {K : PySem.W.Frag} {mg : Str → Option Value} {base : Heap} {er : Str → Addr}
/-! ### a count -/
theorem ds_law_count : DS (defScope s_law_count) ["cell", "k", "drawn", "kind"] ["cell", "k"] ["_law_draws"] := ds_of (by decide +kernel)
theorem ok_count (B : Bn mg) (D : Def K mg "_law_count" s_law_count) (F_law_draws : Fn P w K mg base 1 "_law_draws" ["cell", "count"] spDrawsL) : Fn P w K mg base 2 "_law_count" ["cell", "k"] spCountL := by
  refine D.gq ds_law_count (fun _ _ _ _ _ _ us hl => match us, hl with | [_, _], _ => rfl) (fun vs H Q E h => ?_) ?_
  · obtain ⟨cell, n, rfl, _⟩ := h; rfl
  intro X S e1 e2 e3 e4 e5 hc hsc hxe hr hu H vs Q E h
  subst e1 e2 e3 e4 e5
  obtain ⟨cell, k, rfl, q⟩ := h
  refine ⟨_, (ss_cons (ssv S 2 (kff S 0 F_law_draws hr (kb_cons (kop op_add (kdivc (kv S 0)) (kcmul (kv S 1))) (kb_cons kint kb_nil))))
      (ss_cons (ssv S 3 (kmodc (kix (ix_listK (K := X.K) rfl) (kv S 2) kint (fun _ _ => rfl))))
      (ss_cons (sif (tcmp op_eq (kv S 3) kint (nomark _)) (ss_one (sret (kop op_add kint (kop op_mod (kdivc (kv S 0)) (kop op_sub (kop op_pow kint kint) kint))))) ss_nil)
      (ss_cons (sif (tcmp op_eq (kv S 3) kint (nomark _)) (ss_one (sret (kix (ix_listK (K := X.K) rfl) (kls (kb_cons kint (kb_cons (kop op_sub (kop op_pow kint kint) kint) (kb_cons (kop op_pow kint kint) (kb_ints (ns := [2, 9, 10, 99, 100]) (by decide +kernel)))))) (kmodc (kix (ix_listK (K := X.K) rfl) (kv S 2) kint (fun _ _ => rfl))) (fun _ _ => rfl)))) ss_nil)
      (ss_cons (sif (tcmp op_eq (kv S 3) kint (nomark _)) (ss_one (sret (kop op_add kint (kop op_mod (kop op_add (kop op_add (kop op_mulG (kix (ix_listK (K := X.K) rfl) (kv S 2) kint (fun _ _ => rfl)) (kop op_pow kint kint)) (kop op_mulG (kix (ix_listK (K := X.K) rfl) (kv S 2) kint (fun _ _ => rfl)) (kop op_pow kint kint))) (kix (ix_listK (K := X.K) rfl) (kv S 2) kint (fun _ _ => rfl))) (kop op_sub (kop op_pow kint kint) kint))))) ss_nil)
      (ss_one (sret (kop op_add kint (kmodc (kix (ix_listK (K := X.K) rfl) (kv S 2) kint (fun _ _ => rfl))))))))))), ?_⟩
  walk_at "rd"
  refine ⟨_, 6, rfl, by decide, fun dr dn H1 t1 hdr0 hdr hdn hnn => ?_⟩
  walk_at "rd"
  have e30 : (10 : Int) ^ Int.toNat 30 = 1000000000000000000000000000000 := by decide +kernel
  have e29 : (10 : Int) ^ Int.toNat 29 = 100000000000000000000000000000 := by decide +kernel
  have p30 : (10 : Nat) ^ 30 = 1000000000000000000000000000000 := by decide +kernel
  have fin : ∀ (x : Int) (H' : Hp), 0 < x → x < 1000000000000000000000000000000 → Same H1 H' → Q (.int x) H' := fun x H' h0 h1 s => by
    obtain ⟨c, rfl⟩ := Int.eq_ofNat_of_zero_le (show 0 ≤ x by omega)
    exact q c H' (by omega) (by omega) (t1.trans s)
  refine dr_at hdr hdn hnn (by decide) (by decide) fun x0 hx0 => ?_
  walk_at "rd"
  refine ite2 (fun c => ?_) (fun c => ?_)
  · refine ⟨by unfold CPow; decide, by rw [e30]; decide, ?_⟩
    rw [e30]
    exact fin _ _ (by omega) (by omega) (Same.refl _)
  refine ite2 (fun c1 => ?_) (fun c1 => ?_)
  · refine ⟨by unfold CPow; decide, by unfold CPow; decide, by decide, fun o ho => ?_⟩
    rw [e30, e29]
    have so := Same.new ho (.lst [V.int 1, V.int (1000000000000000000000000000000 - 1), V.int 100000000000000000000000000000, V.int 2, V.int 9, V.int 10, V.int 99, V.int 100])
    refine dr_at (so _ _ hdr) hdn hnn (by decide) (by decide) fun x7 hx7 => ?_
    walk_at "rd"
    obtain ⟨m, hm⟩ := Int.eq_ofNat_of_zero_le (show 0 ≤ x7 % 8 by omega)
    rw [hm]
    have hb : ∀ x ∈ [(1 : Int), 1000000000000000000000000000000 - 1, 100000000000000000000000000000, 2, 9, 10, 99, 100], 0 < x ∧ x < 1000000000000000000000000000000 := by decide +kernel
    have hm8 : m < [(1 : Int), 1000000000000000000000000000000 - 1, 100000000000000000000000000000, 2, 9, 10, 99, 100].length := by show m < 8; omega
    refine to_ixL' (SqL.of upd_same) (atI_at (show ([(1 : Int), 1000000000000000000000000000000 - 1, 100000000000000000000000000000, 2, 9, 10, 99, 100].map V.int)[m]? = _ by rw [List.getElem?_map, List.getElem?_eq_getElem hm8]; rfl)) ?_
    have := hb _ (List.getElem_mem hm8)
    exact fin _ _ this.1 this.2 so
  refine ite2 (fun c2 => ?_) (fun c2 => ?_)
  · refine dr_at hdr hdn hnn (by decide) (by decide) fun x1 hx1 => ?_
    refine ⟨by unfold CPow; decide, ?_⟩
    walk_at "rd"
    refine ⟨ok_right (by decide +kernel) (by decide +kernel), ?_⟩
    refine dr_at hdr hdn hnn (by decide) (by decide) fun x2 hx2 => ?_
    refine ⟨by unfold CPow; decide, ?_⟩
    walk_at "rd"
    refine ⟨ok_right (by decide +kernel) (by decide +kernel), ?_⟩
    refine dr_at hdr hdn hnn (by decide) (by decide) fun x3 hx3 => ?_
    walk_at "rd"
    refine ⟨by unfold CPow; decide, by rw [e30]; decide, ?_⟩
    rw [e30]
    generalize x1 * 10 ^ Int.toNat 18 + x2 * 10 ^ Int.toNat 9 + x3 = y
    exact fin _ _ (by omega) (by omega) (Same.refl _)
  · refine dr_at hdr hdn hnn (by decide) (by decide) fun x1 hx1 => ?_
    walk_at "rd"
    exact fin _ _ (by omega) (by omega) (Same.refl _)
end
section
variable {P : Program} {w : World} {K : PySem.W.Frag} {mg : Str → Option Value} {base : Heap} {er : Str → Addr}
/-! ### people -/
theorem pow_cast (n : Nat) : (1 : Int) * 2 ^ ((n : Nat) : Int).toNat = ((2 ^ n : Nat) : Int) := by
  rw [Int.toNat_natCast, Int.one_mul, Int.natCast_pow]; rfl
theorem ds_law_people : DS (defScope s_law_people) ["script", "names", "counts", "k", "web", "drawn", "mask"] ["script"] ["_law_names", "_law_cell_at", "range", "len", "_law_count", "_law_draws"] := ds_of (by decide +kernel)
theorem ok_people (B : Bn mg) (D : Def K mg "_law_people" s_law_people) (F_law_cell_at : Fn P w K mg base 1 "_law_cell_at" ["script", "k"] (spAt K)) (F_law_names : Fn P w K mg base 2 "_law_names" ["cell", "size"] spNames) (F_law_count : Fn P w K mg base 2 "_law_count" ["cell", "k"] spCountL) (F_law_draws : Fn P w K mg base 1 "_law_draws" ["cell", "count"] spDrawsL) : Fn P w K mg base 3 "_law_people" ["script"] (spPeople K) := by
  refine D.gq ds_law_people (fun _ _ _ _ _ _ us hl => match us, hl with | [_], _ => rfl) (fun vs H Q E h => ?_) ?_
  · obtain ⟨s, xs, rfl, _⟩ := h; rfl
  intro X S e1 e2 e3 e4 e5 hc hsc hxe hr hu H vs Q E h
  subst e1 e2 e3 e4 e5
  obtain ⟨s, xs, rfl, hs, q⟩ := h
  refine ⟨_, (ss_cons (ssv S 1 (kff S 0 F_law_names hr (kb_cons (kdivc (kff S 1 F_law_cell_at hr (kb_cons (kv S 0) (kb_cons kint kb_nil)))) (kb_cons (kop op_add kint (kmodc (kff S 1 F_law_cell_at hr (kb_cons (kv S 0) (kb_cons kint kb_nil))))) kb_nil))))
      (ss_cons (sif (tcmp op_eq (kmodc (kdivc (kff S 1 F_law_cell_at hr (kb_cons (kv S 0) (kb_cons kint kb_nil))))) kint (nomark _)) (ss_one (ssv S 1 (kls kb_nil))) ss_nil)
      (ss_cons (ssv S 2 (kls kb_nil))
      (ss_cons (sfor hxe hc (irg1 S 2 B.range (kb_cons (kcb S 3 (call_lenK (K := X.K) rfl) B.len boot_len (kb_cons (kv S 1) kb_nil)) kb_nil)) (kg S 3) (ss_one (sexpr (kmb PySem.F.plainAttrs_list PySem.F.slot_list_append PySem.F.type_list_append mt_append (K := X.K) rfl (kv S 2) (kb_cons (kff S 4 F_law_count hr (kb_cons (kff S 1 F_law_cell_at hr (kb_cons (kv S 0) (kb_cons (kop op_add kint (kv S 3)) kb_nil))) (kb_cons (kv S 3) kb_nil))) kb_nil)))))
      (ss_cons (ssv S 4 (kls kb_nil))
      (ss_cons (sfor hxe hc (irg1 S 2 B.range (kb_cons (kcb S 3 (call_lenK (K := X.K) rfl) B.len boot_len (kb_cons (kv S 1) kb_nil)) kb_nil)) (kg S 3) (ss_cons (ssv S 5 (kff S 5 F_law_draws hr (kb_cons (kop op_add (kff S 1 F_law_cell_at hr (kb_cons (kv S 0) (kb_cons (kop op_add kint (kv S 3)) kb_nil))) (kcmul (kv S 3))) (kb_cons kint kb_nil))))
      (ss_cons (ssv S 6 (kop op_mod (kix (ix_listK (K := X.K) rfl) (kv S 5) kint (fun _ _ => rfl)) (kop op_shl kint (kcb S 3 (call_lenK (K := X.K) rfl) B.len boot_len (kb_cons (kv S 1) kb_nil)))))
      (ss_cons (sif (tcmp op_eq (kmodc (kix (ix_listK (K := X.K) rfl) (kv S 5) kint (fun _ _ => rfl))) kint (nomark _)) (ss_one (ssv S 6 (kop op_sub (kop op_shl kint (kcb S 3 (call_lenK (K := X.K) rfl) B.len boot_len (kb_cons (kv S 1) kb_nil))) kint))) ss_nil)
      (ss_cons (sif (tcmp op_eq (kmodc (kix (ix_listK (K := X.K) rfl) (kv S 5) kint (fun _ _ => rfl))) kint (nomark _)) (ss_one (ssv S 6 (kop op_and (kv S 6) (kop op_mod (kix (ix_listK (K := X.K) rfl) (kv S 5) kint (fun _ _ => rfl)) (kop op_shl kint (kcb S 3 (call_lenK (K := X.K) rfl) B.len boot_len (kb_cons (kv S 1) kb_nil))))))) ss_nil)
      (ss_one (sexpr (kmb PySem.F.plainAttrs_list PySem.F.slot_list_append PySem.F.type_list_append mt_append (K := X.K) rfl (kv S 4) (kb_cons (kop op_sub (kv S 6) (kop op_mulG (kmodc (kop op_fdivG (kv S 6) (kop op_shl kint (kv S 3)))) (kop op_shl kint (kv S 3)))) kb_nil)))))))))
      (ss_one (sret (kls (kb_cons (kv S 1) (kb_cons (kv S 2) (kb_cons (kv S 4) kb_nil)))))))))))), ?_⟩
  walk_at "rs"
  rw [q_seq]
  walk_at "rs"
  refine ⟨s, xs, 0, rfl, hs, fun r0 => ?_⟩
  walk_at "rs"
  refine ⟨s, xs, 0, rfl, hs, fun r1 => ?_⟩
  walk_at "rs"
  obtain ⟨m0, hm0⟩ := Int.eq_ofNat_of_zero_le (show 0 ≤ 1 + r1 % 8 by omega)
  refine ⟨_, m0, by rw [hm0], by omega, by omega, fun nm0 ns0 H1 t1 hnm0 hnm hne hns => ?_⟩
  walk_at "rs"
  refine seqI (InvN0 H s) ?_ (fun R hR => ?_)
  rotate_left
  · walk_at "rs"
    refine ⟨s, xs, 0, rfl, t1.seq hs, fun r2 => ?_⟩
    walk_at "rs"
    refine ite2 (fun c => ?_) (fun c => ?_)
    · refine ⟨by decide, fun l hl => ?_⟩
      exact hR _ _ ⟨l, [], _, _, _, _, _, rfl, t1.trans (Same.new hl _), upd_same, ⟨by simp, by simp, fun x hx => nomatch hx⟩⟩
    · exact hR _ _ ⟨nm0, ns0, _, _, _, _, _, rfl, t1, hnm, nms_more hns (by omega)⟩
  rintro σ2 H2 ⟨nm, ns, y2, y3, y4, y5, y6, rfl, hS, hnm, hns⟩
  have h8 := hns.few
  walk_at "rs"
  rw [q_seq]
  walk_at "rs"
  refine ⟨by decide, fun c hc0 => ?_⟩
  have sc := Same.new hc0 (.lst [])
  rw [q_seq]
  walk_at "rs"
  refine to_len (.inl (SqL.of (sc _ _ hnm))) ?_
  rw [List.length_map]
  have nc : nm ≠ c := ne_of_none hnm hc0
  have hcn : H c = none := hS.free hc0
  refine forR ns.length (InvCt H s nm c ns) rfl (by omega) ⟨[], _, _, _, _, rfl, hS.trans sc, sc _ _ hnm, upd_same, rfl, (fun x hx => nomatch hx)⟩ ?_ ?_
  · rintro k σ H3 hk ⟨cs, y3, y4, y5, y6, rfl, hS3, hnm3, hc3, hcl, hco⟩
    walk_at "rs"
    refine ⟨.inl ⟨rfl, _, SqL.of hc3⟩, ?_⟩
    refine ⟨s, xs, 1 + k, rfl, hS3.seq hs, fun r2 => ?_⟩
    refine ⟨r2, _, rfl, fun cc H4 hc0' hc30 t4 => ?_⟩
    refine ⟨c, _, _, rfl, rfl, t4 _ _ hc3, by rw [List.length_map, asI_len]; exact small8 (by omega), ?_⟩
    rw [asI_snoc]
    refine ⟨cs ++ [cc], _, _, _, _, rfl, (hS3.trans t4).set hcn _, by rw [upd_ne nc]; exact t4 _ _ hnm3, upd_same, by rw [List.length_append, hcl]; rfl, fun x hx => ?_⟩
    rcases List.mem_append.mp hx with z | z
    · exact hco x z
    · rw [List.mem_singleton.mp z]; exact ⟨hc0', hc30⟩
  rintro σ3 H3 ⟨cs, y3, y4, y5, y6, rfl, hS3, hnm3, hc3, hcl, hco⟩
  walk_at "rs"
  rw [q_seq]
  walk_at "rs"
  refine ⟨by decide, fun w hw0 => ?_⟩
  have sw := Same.new hw0 (.lst [])
  rw [q_seq]
  walk_at "rs"
  refine to_len (.inl (SqL.of (sw _ _ hnm3))) ?_
  rw [List.length_map]
  have nw : nm ≠ w := ne_of_none hnm3 hw0
  have cw : c ≠ w := ne_of_none hc3 hw0
  have hwn : H w = none := hS3.free hw0
  refine forR ns.length (InvWe H s nm c w ns cs) rfl (by omega) ⟨[], _, _, _, rfl, hS3.trans sw, sw _ _ hnm3, sw _ _ hc3, upd_same, rfl, fun j hj => absurd hj (by omega)⟩ ?_ ?_
  · rintro k σ H4 hk ⟨ws, y3, y5, y6, rfl, hS4, hnm4, hc4, hw4, hwl, hwo⟩
    walk_at "rs"
    rw [q_seq]
    walk_at "rs"
    refine ⟨s, xs, 9 + k, rfl, hS4.seq hs, fun r2 => ?_⟩
    walk_at "rs"
    refine ⟨_, 4, rfl, by decide, fun dr dn H5 t5 hdr0 hdr hdn hnn => ?_⟩
    have hnm5 := t5 _ _ hnm4
    walk_at "rs"
    rw [q_seq]
    walk_at "rs"
    have hpn : 0 < 2 ^ ns.length := Nat.pow_pos (by decide)
    refine dr_at hdr hdn hnn (by decide) (by decide) fun x0 hx0 => ?_
    refine to_len (.inl (SqL.of hnm5)) ?_
    rw [List.length_map]
    walk_at "rs"
    refine ⟨cpow1 (by omega), ?_⟩
    refine ⟨by omega, ?_⟩
    have hnat : ∀ z : Int, ∃ m : Nat, m < 2 ^ ns.length ∧ z % ((2 ^ ns.length : Nat) : Int) = (m : Int) := fun z => by
      have h0 := Int.emod_nonneg z (show ((2 ^ ns.length : Nat) : Int) ≠ 0 by omega)
      have h1 := Int.emod_lt_of_pos z (show (0 : Int) < ((2 ^ ns.length : Nat) : Int) by omega)
      exact ⟨(z % ((2 ^ ns.length : Nat) : Int)).toNat, by omega, by omega⟩
    obtain ⟨m1, hm1, em1⟩ := hnat x0
    rw [em1]
    refine seqI (InvMk H5 s nm c w dr ns.length k) ?_ (fun R hR => ?_)
    rotate_left
    · walk_at "rs"
      refine dr_at hdr hdn hnn (by decide) (by decide) fun x1 hx1 => ?_
      walk_at "rs"
      refine ite2 (fun c => ?_) (fun c => hR _ _ ⟨rfl, m1, hm1, rfl⟩)
      refine to_len (.inl (SqL.of hnm5)) ?_
      rw [List.length_map]
      walk_at "rs"
      refine ⟨cpow1 (by omega), ?_⟩
      exact hR _ _ ⟨rfl, 2 ^ ns.length - 1, by omega, by rw [show (((2 ^ ns.length : Nat) : Int) - 1) = ((2 ^ ns.length - 1 : Nat) : Int) by omega]⟩
    rintro σ5 H6 ⟨rfl, m2, hm2, rfl⟩
    refine seqI (InvMk H6 s nm c w dr ns.length k) ?_ (fun R hR => ?_)
    rotate_left
    · walk_at "rs"
      refine dr_at hdr hdn hnn (by decide) (by decide) fun x1 hx1 => ?_
      walk_at "rs"
      refine ite2 (fun c => ?_) (fun c => hR _ _ ⟨rfl, m2, hm2, rfl⟩)
      refine dr_at hdr hdn hnn (by decide) (by decide) fun x2 hx2 => ?_
      refine to_len (.inl (SqL.of hnm5)) ?_
      rw [List.length_map]
      walk_at "rs"
      refine ⟨cpow1 (by omega), by omega, ?_⟩
      obtain ⟨m3, hm3, em3⟩ := hnat x2
      rw [em3]
      walk_at "rs"
      exact hR _ _ ⟨rfl, m2 &&& m3, Nat.lt_of_le_of_lt Nat.and_le_left hm2, rfl⟩
    rintro σ5 H7 ⟨rfl, m4, hm4, rfl⟩
    walk_at "rs"
    have hw5 := t5 _ _ hw4
    refine ⟨.inl ⟨rfl, _, SqL.of hw5⟩, ?_⟩
    refine ⟨cpow1 (by omega), ?_⟩
    have hpk : 0 < 2 ^ k := Nat.pow_pos (by decide)
    have hk8 : 2 ^ k ≤ 2 ^ 8 := Nat.pow_le_pow_right (by decide) (by omega)
    refine ⟨⟨by omega, ?_⟩, cpow1 (by omega), ok_right (by omega) (by omega), ?_⟩
    · rw [Int.natAbs_natCast]
      exact (Nat.log2_lt (by omega)).mpr (Nat.lt_of_le_of_lt hk8 (Nat.pow_lt_pow_right (by decide) (by decide)))
    have ec : ((m4 : Int) - ((m4 / 2 ^ k : Nat) : Int) % 2 * ((2 ^ k : Nat) : Int)) = (clrB m4 k : Nat) := by
      have h1 := clr_sub m4 k
      unfold clrB
      rw [Int.ofNat_sub h1, Int.natCast_mul, Int.natCast_emod]; rfl
    rw [ec]
    refine ⟨w, _, _, rfl, rfl, hw5, by rw [List.length_map, asI_len]; exact small8 (by omega), ?_⟩
    rw [asI_snoc]
    refine ⟨ws ++ [clrB m4 k], _, _, _, rfl, (hS4.trans t5).set hwn _, by rw [upd_ne nw]; exact hnm5, by rw [upd_ne cw]; exact t5 _ _ hc4, upd_same, by rw [List.length_append, hwl]; rfl, fun j hj => ?_⟩
    rw [getD_snoc, hwl]
    by_cases hjk : j < k
    · rw [if_pos hjk]; exact hwo j hjk
    · rw [if_neg hjk, if_pos (by omega), show j = k by omega]
      exact ⟨Nat.lt_of_le_of_lt (clr_le _ _) hm4, clr_bit _ _⟩
  rintro σ4 H4 ⟨ws, y3, y5, y6, rfl, hS4, hnm4, hc4, hw4, hwl, hwo⟩
  walk_at "rs"
  refine ⟨by decide, fun b hb => ?_⟩
  have sb := Same.new hb (.lst [.ref nm, .ref c, .ref w])
  exact q b ns cs ws _ (hS4.trans sb) ⟨nm, c, w, upd_same, sb _ _ hnm4, sb _ _ hc4, sb _ _ hw4⟩ ⟨hns, hcl, hwl, hco, fun j hj => (hwo j hj).1, fun j hj => (hwo j hj).2⟩
end
section
variable {P : Program} {w : World} {K : PySem.W.Frag} {mg : Str → Option Value} {base : Heap} {er : Str → Addr}
/-! ### mixed lines -/
theorem ds_law_mixed_lines : DS (defScope s_law_mixed_lines) ["book", "drawn", "names", "counts", "web", "lines", "k", "order", "i", "some", "at", "hats", "first"] ["book", "drawn"] ["range", "len", "str", "list", "max"] := ds_of (by decide +kernel)
theorem ok_mixed (B : Bn mg) (D : Def K mg "_law_mixed_lines" s_law_mixed_lines) : Fn P w K mg base 1 "_law_mixed_lines" ["book", "drawn"] (spMixed4 K) := by
  refine D.gq ds_law_mixed_lines (fun _ _ _ _ _ _ us hl => match us, hl with | [_, _], _ => rfl) (fun vs H Q E h => ?_) ?_
  · obtain ⟨b, dr, ns, cs, ws, dn, rfl, _⟩ := h; rfl
  intro X S e1 e2 e3 e4 e5 hc hsc hxe hr hu H vs Q E h
  subst e1 e2 e3 e4 e5
  obtain ⟨b, dr, ns, cs, ws, dn, rfl, ⟨a1, a2, a3, hb, h1, h2, h3⟩, P, hdr, hdn, hnn, q⟩ := h
  have h8 := P.nm.few
  refine ⟨_, (ss_cons (sasg (kv S 0) (glst hc (K := X.K) (n := 3) rfl (gs_cons (kg S 2) (gs_cons (kg S 3) (gs_cons (kg S 4) gs_nil)))))
      (ss_cons (ssv S 5 (kls kb_nil))
      (ss_cons (sfor hxe hc (irg1 S 0 B.range (kb_cons (kcb S 1 (call_lenK (K := X.K) rfl) B.len boot_len (kb_cons (kv S 2) kb_nil)) kb_nil)) (kg S 6) (ss_one (sexpr (kmb PySem.F.plainAttrs_list PySem.F.slot_list_append PySem.F.type_list_append mt_append (K := X.K) rfl (kv S 5) (kb_cons (kop op_add_str (kop op_add_str (kop op_add_str kstr (kix (ix_listK (K := X.K) rfl) (kv S 2) (kv S 6) (fun _ _ => rfl))) kstr) (kct S 2 call_str_int B.str boot_str (kb_cons (kix (ix_listK (K := X.K) rfl) (kv S 3) (kv S 6) (fun _ _ => rfl)) kb_nil))) kb_nil)))))
      (ss_cons (ssv S 7 (kct S 3 (call_list_rangeK hc) B.list boot_list (kb_cons (kct S 0 call_range1K B.range boot_range (kb_cons (kcb S 1 (call_lenK (K := X.K) rfl) B.len boot_len (kb_cons (kv S 2) kb_nil)) kb_nil)) kb_nil)))
      (ss_cons (sif (tcmp op_eq (kmodc (kix (ix_listK (K := X.K) rfl) (kv S 1) kint (fun _ _ => rfl))) kint (nomark _)) (ss_one (ssv S 7 (krvl (kv S 7) (kun un_neg kint) (K := X.K) rfl))) ss_nil)
      (ss_cons (sfor hxe hc (ilistK (kv S 7) (K := X.K) rfl) (kg S 8) (ss_cons (slc (i := 9) S hc hsc (irg1 S 0 B.range (kb_cons (kcb S 1 (call_lenK (K := X.K) rfl) B.len boot_len (kb_cons (kv S 2) kb_nil)) kb_nil)) (N := ["j", "web", "i"]) (W := ["j"]) (G := []) (fv := [none, some 4, some 8]) (by decide +kernel) (fun cl C fp s H S2 => ⟨(kg S2 0), (if_one (tcmp op_eq (kmodc (kop op_fdivG (kix (ix_listK (K := X.K) rfl) (kv S2 1) (kv S2 2) (fun _ _ => rfl)) (kop op_shl kint (kv S2 0)))) kint (nomark _))), (kv S2 0)⟩) (by rw [hsc]; decide +kernel) (by rw [sww_env, hsc]; rfl))
      (ss_one (sif (tcmp (op_neK hu (K := X.K) rfl) (kv S 9) (kls kb_nil) (nomark _)) (ss_cons (ssv S 10 (kop op_mod (kix (ix_listK (K := X.K) rfl) (kv S 1) (kop op_add kint (kv S 8)) (fun _ _ => rfl)) (kcb S 1 (call_lenK (K := X.K) rfl) B.len boot_len (kb_cons (kv S 9) kb_nil))))
      (ss_cons (ssv S 9 (kop (op_catLK (K := X.K) rfl) (ksl (sl_listK (K := X.K) rfl) (kv S 9) (ko_some (kv S 10)) ko_none) (ksl (sl_listK (K := X.K) rfl) (kv S 9) ko_none (ko_some (kv S 10)))))
      (ss_cons (sif (tcmp op_eq (kmodc (kix (ix_listK (K := X.K) rfl) (kv S 1) (kop op_add kint (kv S 8)) (fun _ _ => rfl))) kint (nomark _)) (ss_one (ssv S 9 (krvl (kv S 9) (kun un_neg kint) (K := X.K) rfl))) ss_nil)
      (ss_cons (slc (i := 11) S hc hsc (ilistK (kop (op_catLK (K := X.K) rfl) (kv S 9) (kls (kb_cons (kv S 8) kb_nil))) (K := X.K) rfl) (N := ["j", "names", "counts"]) (W := ["j"]) (G := ["str"]) (fv := [none, some 2, some 3]) (by decide +kernel) (fun cl C fp s H S2 => ⟨(kg S2 0), if_nil, (kop op_add_str (kop op_add_str (kop op_add_str kstr (kix (ix_listK (K := X.K) rfl) (kv S2 1) (kv S2 0) (fun _ _ => rfl))) kstr) (kct S2 0 call_str_int B.str boot_str (kb_cons (kix (ix_listK (K := X.K) rfl) (kv S2 2) (kv S2 0) (fun _ _ => rfl)) kb_nil)))⟩) (by rw [hsc]; decide +kernel) (by rw [sww_env, hsc]; rfl))
      (ss_cons (ssv S 12 (kop op_add kint (kcb S 4 (call_maxSK hc (K := X.K) rfl) B.max boot_max (kb_cons (klc S hc hsc (ilistK (kv S 11) (K := X.K) rfl) (N := ["hat", "lines"]) (W := ["hat"]) (G := []) (fv := [none, some 5]) (by decide +kernel) (fun cl C fp s H S2 => ⟨(kg S2 0), if_nil, (kmb PySem.F.plainAttrs_list PySem.F.slot_list_index PySem.F.type_list_index (mt_indexS (K := X.K) rfl) (K := X.K) rfl (kv S2 1) (kb_cons (kv S2 0) kb_nil))⟩)) kb_nil))))
      (ss_cons (ssv S 10 (kop op_add (kv S 12) (kop op_mod (kix (ix_listK (K := X.K) rfl) (kv S 1) (kop op_add kint (kv S 8)) (fun _ _ => rfl)) (kop op_add (kop op_sub (kcb S 1 (call_lenK (K := X.K) rfl) B.len boot_len (kb_cons (kv S 5) kb_nil)) (kv S 12)) kint))))
      (ss_one (sexpr (kmb PySem.F.plainAttrs_list PySem.F.slot_list_insert PySem.F.type_list_insert mt_insert (K := X.K) rfl (kv S 5) (kb_cons (kv S 10) (kb_cons (kmb PySem.F.plainAttrs_str PySem.F.slot_str_join PySem.F.type_str_join (mt_str_join (K := X.K) rfl) (K := X.K) rfl kstr (kb_cons (kop (op_catLK (K := X.K) rfl) (kls (kb_cons kstr (kb_cons (kix (ix_listK (K := X.K) rfl) (kv S 2) (kv S 8) (fun _ _ => rfl)) kb_nil))) (klc S hc hsc (ilistK (kv S 9) (K := X.K) rfl) (N := ["j", "names"]) (W := ["j"]) (G := []) (fv := [none, some 2]) (by decide +kernel) (fun cl C fp s H S2 => ⟨(kg S2 0), if_nil, (kix (ix_listK (K := X.K) rfl) (kv S2 1) (kv S2 0) (fun _ _ => rfl))⟩))) kb_nil)) kb_nil))))))))))) ss_nil))))
      (ss_one (sret (kv S 5))))))))), ?_⟩
  walk_at "rs"
  rw [q_seq]
  walk_at "rs"
  refine ⟨b, _, rfl, SqL.of hb, rfl, ?_⟩
  refine ⟨_, _, rfl, ⟨_, _, rfl, ⟨_, _, rfl, ⟨rfl, ?_⟩⟩⟩⟩
  walk_at "rs"
  have h1000 : (1000 : Nat) ≤ sizeLine := by decide
  have el : (Str.ofString "hat ").length = 4 := by decide +kernel
  have el1 : (Str.ofString " ").length = 1 := by decide +kernel
  have hatF : ∀ k, k < ns.length → nameB (ns.getD k noS) = true ∧ (ns.getD k noS).length ≤ 12 ∧ (Str.ofString (toString ((cs.getD k 0 : Nat) : Int))).length ≤ 30 ∧ ((cs.getD k 0 : Nat) : Int).natAbs.log2 < 1920 := fun k hk => by
    have hok : nameB (ns.getD k noS) = true ∧ 0 < cs.getD k 0 ∧ cs.getD k 0 < 10 ^ 30 := ln_hat P hk
    refine ⟨hok.1, (low_of hok.1).2.2, count_len (count_text hok.2.1 hok.2.2).1, ?_⟩
    rw [Int.natAbs_natCast]
    exact (Nat.log2_lt (by omega)).mpr (Nat.lt_trans hok.2.2 (by decide +kernel))
  rw [q_seq]
  walk_at "rs"
  refine ⟨by decide, fun l hl => ?_⟩
  have sl := Same.new hl (.lst [])
  rw [q_seq]
  walk_at "rs"
  refine to_len (.inl (SqL.of (sl _ _ h1))) ?_
  rw [List.length_map]
  refine forR ns.length (InvM1 H b dr a1 a2 a3 l ns cs) rfl (by omega) ⟨_, _, _, _, _, _, _, rfl, sl, upd_same⟩ ?_ ?_
  · rintro k σ H2 hk ⟨y6, y7, y8, y9, y10, y11, y12, rfl, hS, hl2⟩
    walk_at "rs"
    refine ⟨.inl ⟨rfl, _, SqL.of hl2⟩, ?_⟩
    obtain ⟨f1, f2, f3, f4⟩ := hatF k hk
    refine to_ixL' (SqL.of (hS _ _ h1)) (atI_at (str_item hk)) ?_
    refine ⟨_, _, rfl, rfl, by rw [el]; omega, ?_⟩
    refine ⟨_, _, rfl, rfl, by rw [len_append, el, el1]; omega, ?_⟩
    refine to_ixLk (SqL.of (hS _ _ h2)) rfl (by rw [asI_len, P.lc]; exact hk) ?_
    rw [asI_get]
    refine ⟨_, rfl, f4, ?_⟩
    refine ⟨_, _, rfl, rfl, by rw [len_append, len_append, el, el1]; omega, ?_⟩
    rw [hat_text]
    refine ⟨l, _, _, rfl, rfl, hl2, by rw [List.length_map, List.length_map, List.length_map, List.length_range]; exact small8 (by omega), ?_⟩
    refine ⟨_, _, _, _, _, _, _, rfl, hS.set hl _, ?_⟩
    rw [upd_same, List.range_succ, List.map_append, List.map_append, List.map_append]; rfl
  rintro σ2 H2 ⟨y6, y7, y8, y9, y10, y11, y12, rfl, hS2, hl2⟩
  walk_at "rs"
  rw [q_seq]
  walk_at "rs"
  refine to_len (.inl (SqL.of (hS2 _ _ h1))) ?_
  rw [List.length_map]
  refine ⟨ns.length, rfl, by omega, fun rg hrg => ?_⟩
  have srg := Same.new hrg (.rng 0 ns.length)
  refine ⟨rg, ns.length, rfl, upd_same, by omega, fun o ho => ?_⟩
  have lo3 : l ≠ o := ne_of_none (srg _ _ hl2) ho
  have so := Same.new ho (.lst (((List.range ns.length).map fun i => ((i : Nat) : Int)).map V.int))
  have s2o := srg.trans so
  have ho' : upd (upd H2 rg (.rng 0 ns.length)) o (.lst (((List.range ns.length).map fun i => ((i : Nat) : Int)).map V.int)) o = some (.lst ((asI (List.range ns.length)).map V.int)) := upd_same
  have hl3 := s2o _ _ hl2
  have hS3 := hS2.trans s2o
  generalize upd (upd H2 rg (.rng 0 ns.length)) o (.lst (((List.range ns.length).map fun i => ((i : Nat) : Int)).map V.int)) = H3 at ho' hl3 hS3 ⊢
  refine seqI (InvOd H b dr a1 a2 a3 l ns cs) ?_ (fun R hR => ?_)
  rotate_left
  · walk_at "rs"
    refine dr_at (hS3 _ _ hdr) hdn hnn (by decide) (by decide) fun x0 hx0 => ?_
    walk_at "rs"
    refine ite2 (fun c => ?_) (fun c => hR _ _ ⟨o, _, _, _, _, _, _, _, rfl, hS3, hl3, ho', List.Perm.refl _, lo3⟩)
    refine ⟨trivial, o, _, rfl, SqL.of ho', fun o2 ho2 => ?_⟩
    have so2 := Same.new ho2 (.lst ((asI (List.range ns.length)).map V.int).reverse)
    refine hR _ _ ⟨o2, (List.range ns.length).reverse, _, _, _, _, _, _, rfl, hS3.trans so2, so2 _ _ hl3, ?_, List.reverse_perm _, ne_of_none hl3 ho2⟩
    rw [upd_same]
    unfold asI
    rw [← List.map_reverse, ← List.map_reverse]
  rintro σ4 H4 ⟨o, od, y6, y8, y9, y10, y11, y12, rfl, hS4, hl4, ho4, hod, lo⟩
  have hodl : od.length = ns.length := by rw [hod.length_eq, List.length_range]
  have hodn : od.Nodup := hod.nodup_iff.mpr List.nodup_range
  rw [q_seq]
  walk_at "rs"
  have M0 := Mixed.start (ns := ns) (ws := ws)
  refine forL (InvM2 H b dr a1 a2 a3 l o ns cs ws od) (SqL.of ho4) ⟨_, _, _, _, _, _, _, rfl, hS4, ho4, hl4, ⟨M0.ok, M0.hats, M0.nd, M0.pm, fun i => by rw [M0.al i, List.take_zero]; exact ⟨fun z => z.1.elim, (fun z => nomatch z.1)⟩⟩, by rw [List.length_map, List.length_range]; omega⟩ (fun k σ H' h => by obtain ⟨M, y6, y8, y9, y10, y11, y12, _, _, h, _⟩ := h; exact SqL.of h) ?_ ?_
  · rintro k σ H5 hk ⟨M, y6, y8, y9, y10, y11, y12, rfl, hS5, ho5, hl5, hM, hMl⟩
    rw [asI_len] at hk
    rw [asI_get]
    have hi : od.getD k 0 < ns.length := by
      have : od.getD k 0 ∈ od := by rw [List.getD_eq_getElem?_getD, List.getElem?_eq_getElem hk]; exact List.getElem_mem _
      exact List.mem_range.mp (hod.mem_iff.mp this)
    have hnd := not_done hodn hk
    have htd := take_done hk
    generalize od.getD k 0 = i at hi hnd htd ⊢
    walk_at "rs"
    rw [q_seq]
    walk_at "rs"
    refine to_len (.inl (SqL.of (hS5 _ _ h1))) ?_
    rw [List.length_map]
    refine lcR ns.length (fun j => decide (ws.getD i 0 / 2 ^ j % 2 = 1)) (fun j => ((j : Nat) : Int)) rfl (by omega) ?_ ?_
    · intro j H6 A B' hj hS6 hA hB
      walk_at "rs"
      refine to_ixLk (SqL.of (hS6 _ _ (hS5 _ _ h3))) rfl (by rw [asI_len, P.lw]; exact hi) ?_
      rw [asI_get]
      walk_at "rs"
      have hpj : 0 < 2 ^ j := Nat.pow_pos (by decide)
      have hj8 : 2 ^ j ≤ 2 ^ 8 := Nat.pow_le_pow_right (by decide) (by omega)
      refine ⟨cpow1 (by omega), ⟨by omega, ?_⟩, ?_⟩
      · rw [Int.natAbs_natCast]
        exact (Nat.log2_lt (by omega)).mpr (Nat.lt_of_le_of_lt hj8 (Nat.pow_lt_pow_right (by decide) (by decide)))
      refine ite2 (fun c => ?_) (fun c => ?_)
      · exact hA (by rw [← Nat.testBit_eq_decide_div_mod_eq]; exact c) _ (Same.refl _)
      · exact hB (by rw [← Nat.testBit_eq_decide_div_mod_eq]; exact Bool.eq_false_iff.mpr c) _ (Same.refl _)
    intro sa H6 hsa0 s6 hsa
    have hsa : H6 sa = some (.lst ((asI (btN ns.length (ws.getD i 0))).map V.int)) := hsa
    have hpm : (btN ns.length (ws.getD i 0)).Perm (btN ns.length (ws.getD i 0)) := List.Perm.refl _
    have hS6 := hS5.trans s6
    have ho6 := s6 _ _ ho5
    have hl6 := s6 _ _ hl5
    walk_at "rs"
    refine ⟨by decide, fun z hz => ?_⟩
    have sz := Same.new hz (.lst [])
    refine ⟨_, _, .lst (SqL.of (sz _ _ hsa)) (DtAll.ints _), .lst (SqL.of upd_same) .nil, shaped_intsL _, by decide, ?_⟩
    rw [eqv_nil]
    have ho7 := sz _ _ ho6
    have hl7 := sz _ _ hl6
    have hS7 := hS6.trans sz
    have hsa7 := sz _ _ hsa
    generalize upd H6 z (.lst []) = H7 at ho7 hl7 hS7 hsa7 ⊢
    by_cases c0 : btN ns.length (ws.getD i 0) = []
    · rw [decide_eq_true (show (asI (btN ns.length (ws.getD i 0))).map PyData.int = [] by rw [c0]; rfl)]
      walk_at "rs"
      exact ⟨M, _, _, _, _, _, _, rfl, hS7, ho7, hl7, hM.skip c0 htd, by omega⟩
    rw [decide_eq_false (show ¬ (asI (btN ns.length (ws.getD i 0))).map PyData.int = [] from fun z => c0 (List.map_eq_nil_iff.mp (List.map_eq_nil_iff.mp z)))]
    walk_at "rs"
    generalize hbt : btN ns.length (ws.getD i 0) = bt at c0 hsa7 ⊢
    have hbl : 0 < bt.length := List.length_pos_iff.mpr c0
    have hbl8 : bt.length ≤ ns.length := by
      rw [← hbt]
      unfold btN
      have := List.length_filter_le (fun j => decide (ws.getD i 0 / 2 ^ j % 2 = 1)) (List.range ns.length)
      rw [List.length_range] at this
      exact this
    rw [q_seq]
    walk_at "rs"
    refine dr_at (hS7 _ _ hdr) hdn hnn (by omega) (by omega) fun x1 hx1 => ?_
    refine to_len (.inl (SqL.of hsa7)) ?_
    rw [List.length_map, asI_len]
    walk_at "rs"
    refine ⟨by omega, ?_⟩
    obtain ⟨at1, hat1, eat1⟩ : ∃ a : Nat, a < bt.length ∧ x1 % (bt.length : Int) = (a : Int) := by
      have h0 := Int.emod_nonneg x1 (show (bt.length : Int) ≠ 0 by omega)
      have h1 := Int.emod_lt_of_pos x1 (show (0 : Int) < (bt.length : Int) by omega)
      exact ⟨(x1 % (bt.length : Int)).toNat, by omega, by omega⟩
    rw [eat1]
    rw [q_seq]
    walk_at "rs"
    refine ⟨sa, _, rfl, SqL.of hsa7, fun c1 hc1 => ?_⟩
    rw [cut_dropM, ← List.map_drop]
    have sc1 := Same.new hc1 (.lst (((asI bt).drop at1).map V.int))
    refine ⟨sa, _, rfl, SqL.of (sc1 _ _ hsa7), fun c2 hc2 => ?_⟩
    rw [cut_takeM, ← List.map_take]
    have sc2 := Same.new hc2 (.lst (((asI bt).take at1).map V.int))
    refine to_catL (ns := (asI bt).drop at1) (ms := (asI bt).take at1) (SqL.of (sc2 _ _ upd_same)) (SqL.of upd_same) (small8 (by rw [List.length_drop, List.length_take, asI_len]; omega)) fun c3 hc3 => ?_
    have sc3 := Same.new hc3 (.lst (((asI bt).drop at1 ++ (asI bt).take at1).map V.int))
    have s123 := sc1.trans (sc2.trans sc3)
    have e3 : (asI bt).drop at1 ++ (asI bt).take at1 = asI (bt.drop at1 ++ bt.take at1) := by unfold asI; rw [List.map_append, List.map_drop, List.map_take]
    rw [e3]
    have hp3 : (bt.drop at1 ++ bt.take at1).Perm bt := by
      have := List.perm_append_comm (l₁ := bt.drop at1) (l₂ := bt.take at1)
      rw [List.take_append_drop] at this
      exact this
    walk_at "rs"
    refine seqI (InvSo H7 b dr a1 a2 a3 l o i bt) ?_ (fun R hR => ?_)
    rotate_left
    · walk_at "rs"
      rw [e3] at s123
      refine dr_at (s123 _ _ (hS7 _ _ hdr)) hdn hnn (by omega) (by omega) fun x2 hx2 => ?_
      walk_at "rs"
      refine ite2 (fun c => ?_) (fun c => hR _ _ ⟨c3, _, _, _, _, _, rfl, s123, upd_same, hp3⟩)
      refine ⟨trivial, c3, _, rfl, SqL.of upd_same, fun c4 hc4 => ?_⟩
      have sc4 := Same.new hc4 (.lst ((asI (bt.drop at1 ++ bt.take at1)).map V.int).reverse)
      refine hR _ _ ⟨c4, (bt.drop at1 ++ bt.take at1).reverse, _, _, _, _, rfl, s123.trans sc4, ?_, (List.reverse_perm _).trans hp3⟩
      rw [upd_same]
      unfold asI
      rw [List.map_reverse, List.map_reverse]
    rintro σ8 H8 ⟨s, sm, y6, y10, y11, y12, rfl, s8, hs8, hsm⟩
    have hS8 := hS7.trans s8
    have hl8 := s8 _ _ hl7
    have ho8 := s8 _ _ ho7
    have hsml : sm.length = bt.length := hsm.length_eq
    have hsmm : ∀ j ∈ sm, j < ns.length := fun j hj => by
      have := hsm.mem_iff.mp hj
      rw [← hbt] at this
      exact (btN_mem.mp this).1
    rw [q_seq]
    walk_at "rs"
    refine ⟨by decide, fun p hp => ?_⟩
    have sp := Same.new hp (.lst [V.int (i : Int)])
    refine to_catL (ns := asI sm) (ms := [(i : Int)]) (SqL.of (sp _ _ hs8)) (SqL.of upd_same) (small8 (by rw [asI_len]; show _ + 1 ≤ 100; omega)) fun p2 hp2 => ?_
    have e4 : asI sm ++ [(i : Int)] = asI (sm ++ [i]) := by unfold asI; rw [List.map_append]; rfl
    rw [e4]
    have sp2 := Same.new hp2 (.lst ((asI (sm ++ [i])).map V.int))
    have hhl : ∀ j ∈ sm ++ [i], j < ns.length := fun j hj => by
      rcases List.mem_append.mp hj with z | z
      · exact hsmm j z
      · rw [List.mem_singleton.mp z]; exact hi
    have hlenh : (sm ++ [i]).length ≤ 9 := by rw [List.length_append]; show _ + 1 ≤ 9; omega
    have hpos9 : 0 < (sm ++ [i]).length := by rw [List.length_append]; show 0 < _ + 1; omega
    have sp12 := sp.trans sp2
    refine ⟨p2, rfl, ⟨_, SqL.of upd_same⟩, lc1 (itok_list (SqL.of upd_same)) (fun _ => true) (fun t => .str (txM ns cs (.hat ((sm ++ [i]).getD t 0)))) (by rw [List.length_map, asI_len]; exact small1000 (by omega)) ?_ ?_⟩
    · intro t H9 A B' ht hS9 hA _
      rw [List.length_map, asI_len] at ht
      rw [asI_itemV ht]
      have hj := hhl _ (getD_memV ht)
      generalize (sm ++ [i]).getD t 0 = j at hj hA ⊢
      have s9 : Same H H9 := hS8.trans (sp12.trans hS9)
      walk_at "rs"
      obtain ⟨f1, f2, f3, f4⟩ := hatF j hj
      refine to_ixL' (SqL.of (s9 _ _ h1)) (atI_at (str_item hj)) ?_
      refine ⟨_, _, rfl, rfl, by rw [el]; omega, ?_⟩
      refine ⟨_, _, rfl, rfl, by rw [len_append, el, el1]; omega, ?_⟩
      refine to_ixLk (SqL.of (s9 _ _ h2)) rfl (by rw [asI_len, P.lc]; exact hj) ?_
      rw [asI_get]
      refine ⟨_, rfl, f4, ?_⟩
      refine ⟨_, _, rfl, rfl, by rw [len_append, len_append, el, el1]; omega, ?_⟩
      rw [hat_text]
      exact hA rfl _ (Same.refl _)
    intro ht H9 hht0 s9 hht
    rw [fil_all, List.length_map, asI_len, map_rangeN (fun j => V.str (txM ns cs (.hat j)))] at hht
    have hht : H9 ht = some (.lst (((sm ++ [i]).map fun j => txM ns cs (.hat j)).map V.str)) := by rw [hht, List.map_map]; rfl
    have s89 := sp12.trans s9
    have hl9 := s89 _ _ hl8
    have ho9 := s89 _ _ ho8
    have hS9 := hS8.trans s89
    have hs9 := s89 _ _ hs8
    walk_at "rs"
    rw [q_seq]
    walk_at "rs"
    refine ⟨ht, rfl, ⟨_, SqL.of hht⟩, lc1 (itok_list (SqL.of hht)) (fun _ => true) (fun t => .int (((M.map (txM ns cs)).idxOf (txM ns cs (.hat ((sm ++ [i]).getD t 0))) : Nat) : Int)) (by rw [List.length_map, List.length_map]; exact small1000 (by omega)) ?_ ?_⟩
    · intro t H10 A B' ht' hS10 hA _
      rw [List.length_map, List.length_map] at ht'
      have e5 : (((sm ++ [i]).map fun j => txM ns cs (.hat j)).map V.str).getD t .non = .str (txM ns cs (.hat ((sm ++ [i]).getD t 0))) := by
        rw [List.getD_eq_getElem?_getD, List.getElem?_map, List.getElem?_map, List.getElem?_eq_getElem ht', List.getD_eq_getElem?_getD, List.getElem?_eq_getElem ht']; rfl
      rw [e5]
      walk_at "rs"
      refine ⟨.inl ⟨rfl, _, SqL.of (hS10 _ _ hl9)⟩, ?_⟩
      exact ⟨l, _, _, rfl, rfl, SqL.of (hS10 _ _ hl9), (hM.idx P (hhl _ (getD_memV ht'))).1, hA rfl _ (Same.refl _)⟩
    intro ix H10 hix0 s10 hix
    rw [fil_all, List.length_map, List.length_map, map_rangeN (fun j => V.int (((M.map (txM ns cs)).idxOf (txM ns cs (.hat j)) : Nat) : Int))] at hix
    have hl10 := s10 _ _ hl9
    have ho10 := s10 _ _ ho9
    have hS10 := hS9.trans s10
    have hs10 := s10 _ _ hs9
    refine ⟨ix, (sm ++ [i]).map fun j => (((M.map (txM ns cs)).idxOf (txM ns cs (.hat j)) : Nat) : Int), rfl, .inl (SqL.of (by rw [hix, List.map_map]; rfl)), by intro z; have := List.map_eq_nil_iff.mp z; rw [this] at hpos9; exact absurd hpos9 (by decide), fun m hm hmax => ?_⟩
    obtain ⟨jm, hjm, rfl⟩ := List.mem_map.mp hm
    have hmlt := (hM.idx P (hhl jm hjm)).2.1
    have hmx : ∀ j ∈ sm ++ [i], (M.map (txM ns cs)).idxOf (txM ns cs (.hat j)) ≤ (M.map (txM ns cs)).idxOf (txM ns cs (.hat jm)) := fun j hj => by
      have := hmax _ (List.mem_map.mpr ⟨j, hj, rfl⟩)
      exact Int.ofNat_le.mp this
    generalize (M.map (txM ns cs)).idxOf (txM ns cs (.hat jm)) = mm at hmlt hmx ⊢
    walk_at "rs"
    rw [q_seq]
    walk_at "rs"
    refine dr_at (hS10 _ _ hdr) hdn hnn (by omega) (by omega) fun x3 hx3 => ?_
    refine to_len (.inl (SqL.of hl10)) ?_
    rw [List.length_map, List.length_map]
    walk_at "rs"
    refine ⟨by omega, ?_⟩
    refine ⟨.inl ⟨rfl, _, SqL.of hl10⟩, rfl, ?_⟩
    refine to_ixL' (SqL.of (hS10 _ _ h1)) (atI_at (str_item hi)) ?_
    refine ⟨by decide, fun p7 hp7 => ?_⟩
    have sp7 := Same.new hp7 (.lst [V.str (Str.ofString "sees"), V.str (ns.getD i noS)])
    refine ⟨s, rfl, ⟨_, SqL.of (sp7 _ _ hs10)⟩, lc1 (itok_list (SqL.of (sp7 _ _ hs10))) (fun _ => true) (fun t => .str (ns.getD (sm.getD t 0) noS)) (by rw [List.length_map, asI_len]; exact small1000 (by omega)) ?_ ?_⟩
    · intro t H11 A B' ht' hS11 hA _
      rw [List.length_map, asI_len] at ht'
      rw [asI_itemV ht']
      walk_at "rs"
      have hj := hsmm _ (getD_memV ht')
      refine to_ixL' (SqL.of (hS11 _ _ (sp7 _ _ (hS10 _ _ h1)))) (atI_at (str_item hj)) ?_
      exact hA rfl _ (Same.refl _)
    intro nl H11 hnl0 s11 hnl
    rw [fil_all, List.length_map, asI_len, map_rangeN (fun j => V.str (ns.getD j noS))] at hnl
    have s711 := sp7.trans s11
    refine ⟨p7, nl, _, _, rfl, rfl, SqL.of (s11 _ _ upd_same), SqL.of hnl, by rw [List.length_map]; exact small8 (by show 2 + _ ≤ 100; omega), fun p8 hp8 => ?_⟩
    have sp8 := Same.new hp8 (.lst ([V.str (Str.ofString "sees"), V.str (ns.getD i noS)] ++ sm.map fun j => V.str (ns.getD j noS)))
    have e8 : ([V.str (Str.ofString "sees"), V.str (ns.getD i noS)] ++ sm.map fun j => V.str (ns.getD j noS)) = (lnW (mxL ns cs (.sees i sm))).map V.str := by
      show _ = [V.str (Str.ofString "sees"), V.str (ns.getD i noS)] ++ (sm.map fun j => ns.getD j noS).map V.str
      rw [List.map_map]; rfl
    have hsne : sm ≠ [] := fun z => by rw [z] at hsml; exact absurd hsml (by show ¬ 0 = _; omega)
    have hsp : sm.Perm (btN ns.length (ws.getD i 0)) := by rw [hbt]; exact hsm
    have hlnok := ln_sees P hi hsp hsne
    have hlw := lnW_ok hlnok
    have hlt := lnT_len hlnok
    have hsum := sum_le 30 (lnW (mxL ns cs (.sees i sm))) fun y hy => (hlw.1 y hy).2.2
    have h41 : (lnW (mxL ns cs (.sees i sm))).length * 31 ≤ 41 * 31 := Nat.mul_le_mul_right _ hlw.2.1
    have h2000 : (2000 : Nat) ≤ sizeLine := by decide
    refine ⟨_, p8, lnW (mxL ns cs (.sees i sm)), rfl, rfl, SqL.of (by rw [upd_same, e8]), ?_, ?_, ?_⟩
    · rw [blank_is]
      show ((lnW (mxL ns cs (.sees i sm))).map fun z => z.length + 1).sum ≤ _
      omega
    · rw [blank_is]
      have : (lnT (mxL ns cs (.sees i sm))).length = (Str.join ⟨#[32]⟩ (lnW (mxL ns cs (.sees i sm)))).length := rfl
      omega
    rw [blank_is]
    obtain ⟨qq, hq1, hq2, eqq⟩ : ∃ a : Nat, mm < a ∧ a ≤ M.length ∧ 1 + (mm : Int) + x3 % ((M.length : Int) - (1 + (mm : Int)) + 1) = (a : Int) := by
      have h0 := Int.emod_nonneg x3 (show ((M.length : Int) - (1 + (mm : Int)) + 1) ≠ 0 by omega)
      have h1 := Int.emod_lt_of_pos x3 (show (0 : Int) < ((M.length : Int) - (1 + (mm : Int)) + 1) by omega)
      exact ⟨(1 + (mm : Int) + x3 % ((M.length : Int) - (1 + (mm : Int)) + 1)).toNat, by omega, by omega, by omega⟩
    rw [eqq]
    have sA := s711.trans sp8
    refine ⟨l, _, qq, _, rfl, rfl, sA _ _ hl10, by rw [List.length_map, List.length_map]; omega, by rw [List.length_map, List.length_map]; exact hq2, ?_⟩
    have hln : H l = none := hl
    refine ⟨insAt M qq (.sees i sm), _, _, _, _, _, _, rfl, (hS10.trans sA).set hln _, by rw [upd_ne lo.symm]; exact sA _ _ ho10, ?_, ?_, ?_⟩
    · rw [upd_same, map_ins, map_ins]; rfl
    · refine hM.ins hi hnd hsp hsne (fun j hj => ?_) htd
      have hj' : j ∈ sm ++ [i] := by
        rcases List.mem_cons.mp hj with z | z
        · exact List.mem_append.mpr (.inr (List.mem_singleton.mpr z))
        · exact List.mem_append.mpr (.inl z)
      exact (hM.idx P (hhl j hj')).2.2 qq (Nat.lt_of_le_of_lt (hmx j hj') hq1)
    · unfold insAt
      rw [List.length_append, List.length_cons, List.length_take, List.length_drop]
      omega
  rintro σ5 H5 ⟨M, y6, y8, y9, y10, y11, y12, rfl, hS5, ho5, hl5, hM, hMl⟩
  rw [asI_len] at hM hMl
  walk_at "rs"
  refine q l M H5 hS5 hl hl5 ⟨hM.ok, hM.hats, hM.nd, hM.pm, fun i => ?_⟩ (by omega)
  rw [hM.al i, List.take_length]
  have : i ∈ od ↔ i < ns.length := by rw [hod.mem_iff, List.mem_range]
  rw [this]
end
section
variable {P : Program} {w : World} {K : PySem.W.Frag} {mg : Str → Option Value} {base : Heap} {er : Str → Addr}
/-! ### is a text a line? -/
theorem ds_law_made_of : DS (defScope s_law_made_of) ["word", "signs", "most", "sign"] ["word", "signs", "most"] ["len"] := ds_of (by decide +kernel)
theorem ok_madeOf (B : Bn mg) (D : Def K mg "_law_made_of" s_law_made_of) : Fn P w K mg base 1 "_law_made_of" ["word", "signs", "most"] spMadeOf := by
  refine D.gq ds_law_made_of (fun _ _ _ _ _ _ us hl => match us, hl with | [_, _, _], _ => rfl) (fun vs H Q E h => ?_) ?_
  · obtain ⟨z, y, m, rfl, _⟩ := h; rfl
  intro X S e1 e2 e3 e4 e5 hc hsc hxe hr hu H vs Q E h
  subst e1 e2 e3 e4 e5
  obtain ⟨z, y, m, rfl, hz, q⟩ := h
  refine ⟨_, (ss_cons (sfor hxe hc (istrK (kv S 0) (K := X.K) rfl) (kg S 3) (ss_one (sif (tcmp op_notIn_str (kv S 3) (kv S 1) (by with_unfolding_all rfl)) (ss_one (sret kbl)) ss_nil)))
      (ss_one (sret (kchain op_le op_le kint (kcb S 0 call_len_str B.len boot_len (kb_cons (kv S 0) kb_nil)) (kv S 2))))), ?_⟩
  walk_at "rs"
  rw [q_seq]
  walk_at "rs"
  refine forS (InvMo H z y m) ⟨⟨_, rfl⟩, rfl, rfl⟩ ?_ ?_
  · rintro i σ H1 hi ⟨⟨y3, rfl⟩, rfl, hall⟩
    walk_at "rs"
    refine ⟨_, _, rfl, rfl, ?_⟩
    rw [StrLaws.found_one]
    walk_at "rs"
    have hc1 : (cz z)[i]? = some ((cz z).getD i 0) := by rw [List.getD_eq_getElem?_getD, List.getElem?_eq_getElem hi]; rfl
    by_cases c : (cz z).getD i 0 ∈ cz y
    · rw [decide_eq_true c]
      walk_at "rs"
      refine ⟨⟨_, rfl⟩, rfl, ?_⟩
      rw [List.take_succ, List.all_append, hall, Bool.true_and, hc1]
      show ([(cz z).getD i 0].all fun c => decide (c ∈ cz y)) = true
      rw [List.all_cons, decide_eq_true c]; rfl
    · rw [decide_eq_false c]
      walk_at "rs"
      have : allIn z y = false := by
        refine Bool.eq_false_iff.mpr fun e => c ?_
        exact of_decide_eq_true (List.all_eq_true.mp e _ (List.mem_of_getElem? hc1))
      rw [this, Bool.false_and] at q
      exact q
  · rintro σ H1 ⟨⟨y3, rfl⟩, rfl, hall⟩
    rw [List.take_length] at hall
    walk_at "rs"
    refine ⟨z, rfl, small1M hz, ?_⟩
    rw [show allIn z y = true from hall, Bool.true_and] at q
    refine ite2 (fun c => ?_) (fun c => ?_)
    · rw [show decide (1 ≤ z.length ∧ z.length ≤ m) = decide ((z.length : Int) ≤ (m : Int)) from decide_eq_decide.mpr ⟨fun h => by omega, fun h => by omega⟩] at q
      exact q
    · rw [decide_eq_false (by omega)] at q
      exact q
theorem madeOf_name {z : Str} : (allIn z letS && decide (1 ≤ z.length ∧ z.length ≤ 12)) = nameB z := by unfold nameB; rw [Bool.and_comm]; rfl
theorem fil_getS (l : List Str) (p : Str → Bool) : ((List.range l.length).filter fun i => p (l.getD i noS)).map (fun i => V.str (l.getD i noS)) = (l.filter p).map V.str := by
  have e : l = (List.range l.length).map fun i => l.getD i noS := by
    apply List.ext_getElem
    · simp
    · intro i h1 h2; simp [h1]
  have := List.filter_map (f := fun i => l.getD i noS) (p := p) (l := List.range l.length)
  rw [← e] at this
  rw [this, List.map_map]; rfl
noncomputable def spIsLine : Sp := fun vs H Q _ => ∃ z : Str, vs = [.str z] ∧ z.length ≤ 800 ∧ OkS z ∧ ∀ H', Same H H' → Q (.bl (hatB (wz z) || seesB (wz z))) H'
theorem ds_law_is_line : DS (defScope s_law_is_line) ["text", "letters", "words"] ["text"] ["_law_made_of", "len"] := ds_of (by decide +kernel)
theorem ok_isline (B : Bn mg) (D : Def K mg "_law_is_line" s_law_is_line) (F_law_made_of : Fn P w K mg base 1 "_law_made_of" ["word", "signs", "most"] spMadeOf) : Fn P w K mg base 2 "_law_is_line" ["text"] spIsLine := by
  refine D.gq ds_law_is_line (fun _ _ _ _ _ _ us hl => match us, hl with | [_], _ => rfl) (fun vs H Q E h => ?_) ?_
  · obtain ⟨z, rfl, _⟩ := h; rfl
  intro X S e1 e2 e3 e4 e5 hc hsc hxe hr hu H vs Q E h
  subst e1 e2 e3 e4 e5
  obtain ⟨z, rfl, hz, hok, q⟩ := h
  refine ⟨_, (ss_cons (ssv S 1 kstr)
      (ss_cons (ssv S 2 (kmb PySem.F.plainAttrs_str PySem.F.slot_str_split PySem.F.type_str_split mt_str_split (K := X.K) rfl (kv S 0) (kb_cons kstr kb_nil)))
      (ss_cons (sif (wpt (wand (tcmp op_eq (kix (ix_listK (K := X.K) rfl) (kv S 2) kint (fun _ _ => rfl)) kstr (nomark _)) (wand (tcmp op_eq (kcb S 1 (call_lenK (K := X.K) rfl) B.len boot_len (kb_cons (kv S 2) kb_nil)) kint (nomark _)) (wand1 (tval (kff S 0 F_law_made_of hr (kb_cons (kix (ix_listK (K := X.K) rfl) (kv S 2) kint (fun _ _ => rfl)) (kb_cons (kv S 1) (kb_cons kint kb_nil))))))))) (ss_one (sret (kand (kff S 0 F_law_made_of hr (kb_cons (kix (ix_listK (K := X.K) rfl) (kv S 2) kint (fun _ _ => rfl)) (kb_cons kstr (kb_cons kint kb_nil)))) (kone (kcmp op_ne (kix ix_str (kix (ix_listK (K := X.K) rfl) (kv S 2) kint (fun _ _ => rfl)) kint (fun _ _ => rfl)) kstr (nomark _)))))) ss_nil)
      (ss_cons (sif (wpt (wor (tcmp op_ne (kix (ix_listK (K := X.K) rfl) (kv S 2) kint (fun _ _ => rfl)) kstr (nomark _)) (wor1 (tcmp op_lt (kcb S 1 (call_lenK (K := X.K) rfl) B.len boot_len (kb_cons (kv S 2) kb_nil)) kint (nomark _))))) (ss_one (sret kbl)) ss_nil)
      (ss_one (sret (kcmp (op_eqK hu (K := X.K) rfl) (klc S hc hsc (ilistK (ksl (sl_listK (K := X.K) rfl) (kv S 2) (ko_some kint) ko_none) (K := X.K) rfl) (N := ["word", "letters"]) (W := ["word"]) (G := ["_law_made_of"]) (fv := [none, some 1]) (by decide +kernel) (fun cl C fp s H S2 => ⟨(kg S2 0), (if_one (tnot (tval (kff S2 0 F_law_made_of hr (kb_cons (kv S2 0) (kb_cons (kv S2 1) (kb_cons kint kb_nil))))))), (kv S2 0)⟩)) (kls kb_nil) (nomark _)))))))), ?_⟩
  have hfew : (wz z).length ≤ z.length + 1 := split_cnt z
  have hsz : (1000002 : Nat) ≤ sizeLine := by decide
  have hne : 0 < (wz z).length := List.length_pos_iff.mpr (split_ne z 32)
  have hshort : ∀ k, k < (wz z).length → ((wz z).getD k noS).length ≤ 1000000 := fun k hk => Nat.le_trans (split_part (getD_memS hk)) (by omega)
  walk_at "rs"
  rw [q_seq]
  walk_at "rs"
  rw [q_seq]
  walk_at "rs"
  refine ⟨rfl, z, _, rfl, rfl, by decide +kernel, by omega, ?_, fun p hp0 => ?_⟩
  · rw [blank_is]; show (wz z).length ≤ _; omega
  rw [blank_is]
  generalize ep : upd H p _ = H1
  obtain ⟨s1, m1⟩ := nw hp0 ep
  clear ep
  have hw1 : SqL X.K H1 p ((wz z).map V.str) := SqL.of m1
  try dsimp only
  refine seqJ (fun σ J => σ = [some (.str z), some (.str letS), some (.ref p)] ∧ J = H1 ∧ hatB (wz z) = false) ?_ (fun R hR => ?_)
  rotate_left
  · have keep : hatB (wz z) = false → R [some (.str z), some (.str letS), some (.ref p)] H1 := fun h => hR _ _ ⟨rfl, rfl, h⟩
    walk_at "rs"
    refine to_ixL' (i := ((0 : Nat) : Int)) hw1 (atI_at (str_item hne)) ?_
    walk_at "rs"
    refine ite2 (fun c0 => ?_) (fun c0 => ?_)
    rotate_left
    · refine keep ?_
      unfold hatB
      show (_ && (decide ((wz z).getD 0 noS = "hat") && _)) = false
      rw [decide_eq_false c0, Bool.false_and, Bool.and_false]
    have sn : seesB (wz z) = false := by
      unfold seesB
      show (_ && (decide ((wz z).getD 0 noS = "sees") && _)) = false
      rw [c0, show decide (Str.ofString "hat" = Str.ofString "sees") = false by decide +kernel, Bool.false_and, Bool.and_false]
    have hb3 : hatB (wz z) = (decide ((wz z).length = 3) && (nameB ((wz z).getD 1 noS) && countB ((wz z).getD 2 noS))) := by
      unfold hatB
      show (_ && (decide ((wz z).getD 0 noS = "hat") && _)) = _
      rw [c0, decide_eq_true rfl, Bool.true_and]
    refine to_len (.inl hw1) ?_
    rw [List.length_map]
    walk_at "rs"
    refine ite2 (fun c3 => ?_) (fun c3 => ?_)
    rotate_left
    · exact keep (by rw [hb3, decide_eq_false (by omega), Bool.false_and])
    have hl3 : (wz z).length = 3 := by omega
    refine to_ixL' (i := ((1 : Nat) : Int)) hw1 (atI_at (str_item (by omega))) ?_
    refine ⟨_, letS, 12, rfl, hshort 1 (by omega), ?_⟩
    rw [madeOf_name]
    cases hn1 : nameB ((wz z).getD 1 noS) with
    | false =>
      walk_at "rs"
      exact keep (by rw [hb3, hn1, Bool.false_and, Bool.and_false])
    | true =>
      walk_at "rs"
      refine to_ixL' (i := ((2 : Nat) : Int)) hw1 (atI_at (str_item (by omega))) ?_
      refine ⟨_, figS, 30, rfl, hshort 2 (by omega), ?_⟩
      have hcb : countB ((wz z).getD 2 noS) = ((allIn ((wz z).getD 2 noS) figS && decide (1 ≤ ((wz z).getD 2 noS).length ∧ ((wz z).getD 2 noS).length ≤ 30)) && decide ((cz ((wz z).getD 2 noS)).getD 0 0 ≠ 48)) := by
        unfold countB
        rw [Bool.and_comm (decide ((cz ((wz z).getD 2 noS)).getD 0 0 ≠ 48)), ← Bool.and_assoc, Bool.and_comm (decide (1 ≤ ((wz z).getD 2 noS).length ∧ ((wz z).getD 2 noS).length ≤ 30))]
        rfl
      have hh : hatB (wz z) = countB ((wz z).getD 2 noS) := by rw [hb3, hn1, decide_eq_true hl3]; rfl
      rw [sn, Bool.or_false, hh] at q
      cases hd : (allIn ((wz z).getD 2 noS) figS && decide (1 ≤ ((wz z).getD 2 noS).length ∧ ((wz z).getD 2 noS).length ≤ 30)) with
      | false =>
        walk_at "rs"
        rw [hcb, hd, Bool.false_and] at q
        exact q _ s1
      | true =>
        rw [hcb, hd, Bool.true_and] at q
        have hlen : 1 ≤ ((wz z).getD 2 noS).length := by
          rw [Bool.and_eq_true] at hd
          exact (of_decide_eq_true hd.2).1
        have h0 : 0 < (cz ((wz z).getD 2 noS)).length := by rw [← cz_length]; omega
        walk_at "rs"
        refine to_ixL' (i := ((2 : Nat) : Int)) hw1 (atI_at (str_item (by omega))) ?_
        refine ⟨_, 0, (cz ((wz z).getD 2 noS)).getD 0 0, rfl, rfl, small1M (hshort 2 (by omega)), ?_, ?_⟩
        · show atI (cz ((wz z).getD 2 noS)) ((0 : Nat) : Int) = _
          exact atI_getD rfl 0 h0
        walk_at "rs"
        have key : (!decide ((⟨#[(cz ((wz z).getD 2 noS)).getD 0 0]⟩ : Str) = Str.ofString "0")) = decide ((cz ((wz z).getD 2 noS)).getD 0 0 ≠ 48) := by
          rw [show Str.ofString "0" = ⟨#[48]⟩ by decide +kernel, ← decide_not]
          exact decide_eq_decide.mpr (not_congr ⟨fun e => by simpa using congrArg cz e, fun e => by rw [e]⟩)
        rw [key]
        exact q _ s1
  rintro σ J ⟨rfl, rfl, hf⟩
  rw [hf, Bool.false_or] at q
  rw [q_seq]
  walk_at "rs"
  refine to_ixL' (i := ((0 : Nat) : Int)) hw1 (atI_at (str_item hne)) ?_
  walk_at "rs"
  refine ite2 (fun c1 => ?_) (fun c1 => ?_)
  · rw [show seesB (wz z) = false by
      unfold seesB
      show (_ && (decide ((wz z).getD 0 noS = "sees") && _)) = false
      rw [decide_eq_false (show ¬ ((wz z).getD 0 noS = "sees") by simpa using c1), Bool.false_and, Bool.and_false]] at q
    exact q _ s1
  have c1' : (wz z).getD 0 noS = "sees" := by simpa using c1
  refine to_len (.inl hw1) ?_
  rw [List.length_map]
  walk_at "rs"
  have hs3 : seesB (wz z) = (decide (3 ≤ (wz z).length) && ((wz z).drop 1).all nameB) := by
    unfold seesB
    show (_ && (decide ((wz z).getD 0 noS = "sees") && _)) = _
    rw [decide_eq_true c1', Bool.true_and]
  refine ite2 (fun c3 => ?_) (fun c3 => ?_)
  · rw [hs3, decide_eq_false (by omega), Bool.false_and] at q
    exact q _ s1
  have hl3 : 3 ≤ (wz z).length := by omega
  rw [hs3, decide_eq_true hl3, Bool.true_and] at q
  have hdl : ((wz z).drop 1).length = (wz z).length - 1 := List.length_drop
  refine to_slF 1 hw1 fun a H2 s2 _ m2 => ?_
  rw [← List.map_drop] at m2
  refine ⟨a, rfl, ⟨_, SqL.of m2⟩, lc1 (itok_list (SqL.of m2)) (fun i => !nameB (((wz z).drop 1).getD i noS)) (fun i => .str (((wz z).drop 1).getD i noS)) (by rw [List.length_map, hdl]; exact small1000 (by omega)) ?_ ?_⟩
  · intro i J' A B' hi hS hA hB
    rw [List.length_map] at hi
    rw [show (((wz z).drop 1).map V.str).getD i .non = .str (((wz z).drop 1).getD i noS) by rw [List.getD_eq_getElem?_getD, str_item hi]; rfl]
    walk_at "rs"
    refine ⟨_, letS, 12, rfl, Nat.le_trans (split_part (List.mem_of_mem_drop (getD_memS hi))) (by omega), ?_⟩
    rw [madeOf_name]
    cases hn : nameB (((wz z).drop 1).getD i noS) with
    | true => walk_at "rs"; exact hB (by rw [hn]; rfl) _ (Same.refl _)
    | false => walk_at "rs"; exact hA (by rw [hn]; rfl) _ (Same.refl _)
  intro acc H3 hacc0 s3 hacc
  rw [List.length_map] at hacc
  rw [fil_getS ((wz z).drop 1) fun x => !nameB x] at hacc
  walk_at "rs"
  refine ⟨by decide, fun nl hnl => ?_⟩
  generalize e4 : upd H3 nl _ = H4
  obtain ⟨s4, m4⟩ := nw hnl e4
  clear e4
  refine ⟨_, _, .lst (SqL.of (s4 _ _ hacc)) (dt_strs _), .lst (SqL.of m4) .nil, list_shaped fun x hx => hok.part (List.mem_of_mem_drop (List.mem_filter.mp hx).1), by decide, ?_⟩
  rw [eqvS_nil]
  have e : (((wz z).drop 1).filter fun x => !nameB x).isEmpty = ((wz z).drop 1).all nameB := by
    rw [Bool.eq_iff_iff, List.isEmpty_iff, List.filter_eq_nil_iff, List.all_eq_true]
    exact ⟨fun h x hx => by simpa using h x hx, fun h x hx => by simpa using h x hx⟩
  rw [e]
  exact q _ (s1.trans (s2.trans (s3.trans s4)))
end
section
variable {P : Program} {w : World} {K : PySem.W.Frag} {mg : Str → Option Value} {base : Heap} {er : Str → Addr}
/-! ### the first fault -/
structure LnsAt (H : Hp) (l : Addr) (L : List Str) : Prop where
  at_ : H l = some (.lst (L.map V.str))
  few : L.length ≤ 100
  ok : ∀ x ∈ L, x.length ≤ 800 ∧ OkS x
noncomputable def spFirst : Sp := fun vs H Q _ => ∃ (l : Addr) (L : List Str), vs = [.ref l] ∧ LnsAt H l L ∧ ∀ u H', Same H H' → H' u = some (.lst (dueL (fst0 L))) → Q (.ref u) H'
noncomputable def InvFt (H0 : Hp) (l nm sr : Addr) (L : List Str) (k : Nat) (σ : L2.St) (H : Hp) : Prop := ∃ (s : List Str × List Str) (y3 y4 : Option V), σ = [some (.ref l), some (.ref nm), some (.ref sr), y3, y4] ∧ Same H0 H ∧ H nm = some (.lst (s.1.map V.str)) ∧ H sr = some (.lst (s.2.map V.str)) ∧ runF ([], []) (L.take k) = some s ∧ s.1.length ≤ 8 ∧ s.2.length ≤ k
theorem to_inP {K : PySem.W.Frag} {H : Hp} {Q : VK} {p : Addr} {k : Str} {a : List Str} (h : SqL K H p (a.map V.str) ∨ SqT K H p (a.map V.str)) (q : Q (.bl (decide (k ∈ a))) H) : rIn K false (.str k) (.ref p) H Q := to_inS h (by rw [if_neg (by decide)]; exact q)
theorem to_inN {K : PySem.W.Frag} {H : Hp} {Q : VK} {p : Addr} {k : Str} {a : List Str} (h : SqL K H p (a.map V.str) ∨ SqT K H p (a.map V.str)) (q : Q (.bl (!decide (k ∈ a))) H) : rIn K true (.str k) (.ref p) H Q := to_inS h (by rw [if_pos rfl]; exact q)
theorem ds_law_first : DS (defScope s_law_first) ["lines", "names", "seers", "k", "words"] ["lines"] ["range", "len", "_law_is_line", "set"] := ds_of (by decide +kernel)
theorem ok_first (B : Bn mg) (D : Def K mg "_law_first" s_law_first) (F_law_is_line : Fn P w K mg base 2 "_law_is_line" ["text"] spIsLine) : Fn P w K mg base 3 "_law_first" ["lines"] spFirst := by
  refine D.gq ds_law_first (fun _ _ _ _ _ _ us hl => match us, hl with | [_], _ => rfl) (fun vs H Q E h => ?_) ?_
  · obtain ⟨l, L, rfl, _⟩ := h; rfl
  intro X S e1 e2 e3 e4 e5 hc hsc hxe hr hu H vs Q E h
  subst e1 e2 e3 e4 e5
  obtain ⟨l, L, rfl, hL, q⟩ := h
  refine ⟨_, (ss_cons (ssv S 1 (kls kb_nil))
      (ss_cons (ssv S 2 (kls kb_nil))
      (ss_cons (sfor hxe hc (irg1 S 0 B.range (kb_cons (kcb S 1 (call_lenK (K := X.K) rfl) B.len boot_len (kb_cons (kv S 0) kb_nil)) kb_nil)) (kg S 3) (ss_cons (ssv S 4 (kmb PySem.F.plainAttrs_str PySem.F.slot_str_split PySem.F.type_str_split mt_str_split (K := X.K) rfl (kix (ix_listK (K := X.K) rfl) (kv S 0) (kv S 3) (fun _ _ => rfl)) (kb_cons kstr kb_nil)))
      (ss_cons (sif (tnot (tval (kff S 2 F_law_is_line hr (kb_cons (kix (ix_listK (K := X.K) rfl) (kv S 0) (kv S 3) (fun _ _ => rfl)) kb_nil)))) (ss_one (sret (kls (kb_cons kint (kb_cons (kv S 3) kb_nil))))) ss_nil)
      (ss_one (sif (tcmp op_eq (kix (ix_listK (K := X.K) rfl) (kv S 4) kint (fun _ _ => rfl)) kstr (nomark _)) (ss_cons (sif (tcmp (op_inK (K := X.K) rfl) (kix (ix_listK (K := X.K) rfl) (kv S 4) kint (fun _ _ => rfl)) (kv S 1) (by with_unfolding_all rfl)) (ss_one (sret (kls (kb_cons kint (kb_cons (kv S 3) kb_nil))))) ss_nil)
      (ss_cons (sif (tcmp op_eq (kcb S 1 (call_lenK (K := X.K) rfl) B.len boot_len (kb_cons (kv S 1) kb_nil)) kint (nomark _)) (ss_one (sret (kls (kb_cons kint (kb_cons (kv S 3) kb_nil))))) ss_nil)
      (ss_one (sexpr (kmb PySem.F.plainAttrs_list PySem.F.slot_list_append PySem.F.type_list_append mt_append (K := X.K) rfl (kv S 1) (kb_cons (kix (ix_listK (K := X.K) rfl) (kv S 4) kint (fun _ _ => rfl)) kb_nil)))))) (ss_cons (sif (wpt (wor (tcmp op_lt (kcb S 1 call_lenSS B.len boot_len (kb_cons (kct S 3 (call_setStrK hc (K := X.K) rfl) B.set boot_set (kb_cons (ksl (sl_listK (K := X.K) rfl) (kv S 4) (ko_some kint) ko_none) kb_nil)) kb_nil)) (kop op_sub (kcb S 1 (call_lenK (K := X.K) rfl) B.len boot_len (kb_cons (kv S 4) kb_nil)) kint) (nomark _)) (wor1 (tcmp (op_inK (K := X.K) rfl) (kix (ix_listK (K := X.K) rfl) (kv S 4) kint (fun _ _ => rfl)) (kv S 2) (by with_unfolding_all rfl))))) (ss_one (sret (kls (kb_cons kint (kb_cons (kv S 3) kb_nil))))) ss_nil)
      (ss_cons (sif (tcmp (op_neK hu (K := X.K) rfl) (klc S hc hsc (ilistK (ksl (sl_listK (K := X.K) rfl) (kv S 4) (ko_some kint) ko_none) (K := X.K) rfl) (N := ["word", "names"]) (W := ["word"]) (G := []) (fv := [none, some 1]) (by decide +kernel) (fun cl C fp s H S2 => ⟨(kg S2 0), (if_one (tcmp (op_notInK (K := X.K) rfl) (kv S2 0) (kv S2 1) (by with_unfolding_all rfl))), (kv S2 0)⟩)) (kls kb_nil) (nomark _)) (ss_one (sret (kls (kb_cons kint (kb_cons (kv S 3) kb_nil))))) ss_nil)
      (ss_one (sexpr (kmb PySem.F.plainAttrs_list PySem.F.slot_list_append PySem.F.type_list_append mt_append (K := X.K) rfl (kv S 2) (kb_cons (kix (ix_listK (K := X.K) rfl) (kv S 4) kint (fun _ _ => rfl)) kb_nil)))))))))))
      (ss_one (sret (kls kb_nil)))))), ?_⟩
  have hsz : (1000002 : Nat) ≤ sizeLine := by decide
  have h100 := hL.few
  walk_at "rs"
  rw [q_seq]
  walk_at "rs"
  refine ⟨by decide, fun nm hnm0 => ?_⟩
  generalize e1 : upd H nm _ = H1
  obtain ⟨s1, m1⟩ := nw hnm0 e1
  clear e1
  rw [q_seq]
  walk_at "rs"
  refine ⟨by decide, fun sr hsr0 => ?_⟩
  generalize e2 : upd H1 sr _ = H2
  obtain ⟨s2, m2⟩ := nw hsr0 e2
  clear e2
  have ns : nm ≠ sr := ne_of_none m1 hsr0
  have hsn : H sr = none := s1.free hsr0
  have s02 := s1.trans s2
  rw [q_seq]
  walk_at "rs"
  refine to_len (.inl (SqL.of (s02 _ _ hL.at_))) ?_
  rw [List.length_map]
  refine forR L.length (InvFt H l nm sr L) rfl (by omega) ⟨([], []), _, _, rfl, s02, s2 _ _ m1, m2, rfl, by decide, by decide⟩ ?_ ?_
  · rintro k σ J hk ⟨s, y3, y4, rfl, hS, hnm, hsr, hrun, h8, hsk⟩
    have hxk : L[k]? = some (L.getD k noS) := by rw [List.getD_eq_getElem?_getD, List.getElem?_eq_getElem hk]; rfl
    have hxok := hL.ok _ (getD_memS hk)
    have hlJ := hS _ _ hL.at_
    have bad : ∀ e, stepF s (L.getD k noS) = .inl e → ∀ u J', Same H J' → J' u = some (.lst [.int (e : Int), .int (k : Int)]) → Q (.ref u) J' := fun e he u J' sJ m => q u J' sJ (by have := first_at (j := 0) hrun hxk he; rw [Nat.zero_add] at this; show J' u = some (.lst (dueL (firstF 0 ([], []) L))); rw [this]; exact m)
    have next : ∀ s' J' y3 y4, stepF s (L.getD k noS) = .inr s' → Same H J' → J' nm = some (.lst (s'.1.map V.str)) → J' sr = some (.lst (s'.2.map V.str)) → s'.1.length ≤ 8 → s'.2.length ≤ k + 1 → InvFt H l nm sr L (k + 1) [some (.ref l), some (.ref nm), some (.ref sr), y3, y4] J' := fun s' J' y3 y4 he sJ h1 h2 h3 h4 => ⟨s', y3, y4, rfl, sJ, h1, h2, run_next hrun hxk he, h3, h4⟩
    generalize L.getD k noS = x at hxk hxok bad next
    have hxi : (L.map V.str)[k]? = some (.str x) := by rw [List.getElem?_map, hxk]; rfl
    have hfew : (wz x).length ≤ x.length + 1 := split_cnt x
    have hne : 0 < (wz x).length := List.length_pos_iff.mpr (split_ne x 32)
    walk_at "rs"
    rw [q_seq]
    walk_at "rs"
    refine to_ixL' (SqL.of hlJ) (atI_at hxi) ?_
    refine ⟨rfl, x, _, rfl, rfl, by decide +kernel, by omega, ?_, fun p hp0 => ?_⟩
    · rw [blank_is]; show (wz x).length ≤ _; omega
    rw [blank_is]
    generalize ep : upd J p _ = J1
    obtain ⟨t1, m1'⟩ := nw hp0 ep
    clear ep
    have hw1 : SqL X.K J1 p ((wz x).map V.str) := SqL.of m1'
    try dsimp only
    rw [q_seq]
    walk_at "rs"
    refine to_ixL' (SqL.of (t1 _ _ hlJ)) (atI_at hxi) ?_
    refine ⟨x, rfl, hxok.1, hxok.2, fun J2 t2 => ?_⟩
    have t12 := t1.trans t2
    have hS2 := hS.trans t12
    have hw2 : SqL X.K J2 p ((wz x).map V.str) := t2.seq hw1
    walk_at "rs"
    cases hb : (hatB (wz x) || seesB (wz x)) with
    | false =>
      rw [Bool.or_eq_false_iff] at hb
      walk_at "rs"
      refine ⟨by decide, fun u hu0 => ?_⟩
      exact bad 0 (stepF_bad (errK_no hb.1 hb.2)) u _ (hS2.trans (Same.new hu0 _)) upd_same
    | true =>
      walk_at "rs"
      refine to_ixL' (i := ((0 : Nat) : Int)) hw2 (atI_at (str_item hne)) ?_
      walk_at "rs"
      cases hh : hatB (wz x) with
      | true =>
        have hb' := hh
        unfold hatB at hb'
        rw [Bool.and_eq_true, Bool.and_eq_true] at hb'
        have hl3 : (wz x).length = 3 := of_decide_eq_true hb'.1
        have h0 : (wz x).getD 0 noS = Str.ofString "hat" := of_decide_eq_true hb'.2.1
        have hst := stepF_hat (s := s) hh
        rw [if_pos h0]
        rw [q_seq]
        walk_at "rs"
        refine to_ixL' (i := ((1 : Nat) : Int)) hw2 (atI_at (str_item (by omega))) ?_
        refine to_inP (.inl (SqL.of (t12 _ _ hnm))) ?_
        walk_at "rs"
        refine ite2 (fun c1 => ?_) (fun c1 => ?_)
        · refine ⟨by decide, fun u hu0 => ?_⟩
          exact bad 1 (by rw [hst, if_pos c1]) u _ (hS2.trans (Same.new hu0 _)) upd_same
        rw [q_seq]
        walk_at "rs"
        refine to_len (.inl (SqL.of (t12 _ _ hnm))) ?_
        rw [List.length_map]
        walk_at "rs"
        refine ite2 (fun c2 => ?_) (fun c2 => ?_)
        · refine ⟨by decide, fun u hu0 => ?_⟩
          exact bad 3 (by rw [hst, if_neg c1, if_pos (by omega)]) u _ (hS2.trans (Same.new hu0 _)) upd_same
        refine ⟨.inl ⟨rfl, _, SqL.of (t12 _ _ hnm)⟩, ?_⟩
        refine to_ixL' (i := ((1 : Nat) : Int)) hw2 (atI_at (str_item (by omega))) ?_
        refine ⟨nm, _, _, rfl, rfl, t12 _ _ hnm, by rw [List.length_map]; exact small8 (by omega), ?_⟩
        refine next (s.1 ++ [(wz x).getD 1 noS], s.2) _ _ _ (by rw [hst, if_neg c1, if_neg (by omega)]) (hS2.set hnm0 _) (by rw [upd_same, List.map_append]; rfl) (by rw [upd_ne ns.symm]; exact t12 _ _ hsr) (by rw [List.length_append]; show _ + 1 ≤ 8; omega) (Nat.le_succ_of_le hsk)
      | false =>
        have hs : seesB (wz x) = true := by rw [hh, Bool.false_or] at hb; exact hb
        have hs' := hs
        unfold seesB at hs'
        rw [Bool.and_eq_true, Bool.and_eq_true] at hs'
        have hl3 : 3 ≤ (wz x).length := of_decide_eq_true hs'.1
        have h0 : (wz x).getD 0 noS = Str.ofString "sees" := of_decide_eq_true hs'.2.1
        have hdl : ((wz x).drop 1).length = (wz x).length - 1 := List.length_drop
        rw [if_neg (by rw [h0]; decide +kernel)]
        rw [q_seq]
        walk_at "rs"
        refine to_slF 1 hw2 fun a5 J5 t5 _ m5 => ?_
        rw [← List.map_drop] at m5
        refine ⟨a5, (wz x).drop 1, rfl, SqL.of m5, by omega, fun P w b hb0 => ?_⟩
        generalize e6 : upd J5 b _ = J6
        obtain ⟨t6, m6⟩ := nw hb0 e6
        clear e6
        have t26 := t5.trans t6
        have t16 := t12.trans t26
        refine ⟨b, _, P, w, rfl, m6, ?_⟩
        refine to_len (.inl (t26.seq hw2)) ?_
        rw [List.length_map]
        walk_at "rs"
        have hcn := cntS_le ((wz x).drop 1)
        have hS6 := hS.trans t16
        refine ite2 (fun c1 => ?_) (fun c1 => ?_)
        · refine ⟨by decide, fun u hu0 => ?_⟩
          exact bad 1 (stepF_bad (errK_twice hh hs fun n => by have := hcn.2.mpr n; omega)) u _ (hS6.trans (Same.new hu0 _)) upd_same
        have hnd : ((wz x).drop 1).Nodup := hcn.2.mp (by omega)
        have hst := stepF_sees (s := s) hh hs hnd
        refine to_ixL' (i := ((1 : Nat) : Int)) (t26.seq hw2) (atI_at (str_item (by omega))) ?_
        refine to_inP (.inl (SqL.of (t16 _ _ hsr))) ?_
        walk_at "rs"
        refine ite2 (fun c2 => ?_) (fun c2 => ?_)
        · refine ⟨by decide, fun u hu0 => ?_⟩
          exact bad 1 (by rw [hst, if_pos c2]) u _ (hS6.trans (Same.new hu0 _)) upd_same
        rw [q_seq]
        walk_at "rs"
        refine to_slF 1 (t26.seq hw2) fun a7 J7 t7 _ m7 => ?_
        rw [← List.map_drop] at m7
        have t17 := t16.trans t7
        refine ⟨a7, rfl, ⟨_, SqL.of m7⟩, lc1 (itok_list (SqL.of m7)) (fun i => !decide (((wz x).drop 1).getD i noS ∈ s.1)) (fun i => .str (((wz x).drop 1).getD i noS)) (by rw [List.length_map, hdl]; exact small1000 (by omega)) ?_ ?_⟩
        · intro i J' A B' hi hS' hA hB
          rw [List.length_map] at hi
          rw [show (((wz x).drop 1).map V.str).getD i .non = .str (((wz x).drop 1).getD i noS) by rw [List.getD_eq_getElem?_getD, str_item hi]; rfl]
          walk_at "rs"
          refine to_inN (.inl (SqL.of (hS' _ _ (t17 _ _ hnm)))) ?_
          walk_at "rs"
          by_cases c3 : ((wz x).drop 1).getD i noS ∈ s.1
          · rw [decide_eq_true c3]
            walk_at "rs"
            exact hB (by rw [decide_eq_true c3]; rfl) _ (Same.refl _)
          · rw [decide_eq_false c3]
            walk_at "rs"
            exact hA (by rw [decide_eq_false c3]; rfl) _ (Same.refl _)
        intro acc J8 hacc0 t8 hacc
        rw [List.length_map] at hacc
        rw [fil_getS ((wz x).drop 1) fun y => !decide (y ∈ s.1)] at hacc
        walk_at "rs"
        refine ⟨by decide, fun nl hnl => ?_⟩
        generalize e9 : upd J8 nl _ = J9
        obtain ⟨t9, m9⟩ := nw hnl e9
        clear e9
        refine ⟨_, _, .lst (SqL.of (t9 _ _ hacc)) (dt_strs _), .lst (SqL.of m9) .nil, list_shaped fun y hy => hxok.2.part (List.mem_of_mem_drop (List.mem_filter.mp hy).1), by decide, ?_⟩
        rw [eqvS_nil]
        have t19 := t17.trans (t8.trans t9)
        have hS9 := hS.trans t19
        cases he : (((wz x).drop 1).filter fun y => !decide (y ∈ s.1)).isEmpty with
        | false =>
          walk_at "rs"
          refine ⟨by decide, fun u hu0 => ?_⟩
          refine bad 2 (by
            rw [hst, if_neg c2, if_pos]
            apply Classical.byContradiction
            intro hno
            rw [List.filter_eq_nil_iff.mpr fun y hy => by
              have : y ∈ s.1 := Classical.byContradiction fun z => hno ⟨y, hy, z⟩
              rw [decide_eq_true this]; decide] at he
            cases he) u _ (hS9.trans (Same.new hu0 _)) upd_same
        | true =>
          have hall : ¬ ∃ y ∈ (wz x).drop 1, y ∉ s.1 := by
            rintro ⟨y, hy, hy2⟩
            have := List.filter_eq_nil_iff.mp (List.isEmpty_iff.mp he) y hy
            rw [decide_eq_false hy2] at this
            exact this rfl
          walk_at "rs"
          refine ⟨.inl ⟨rfl, _, SqL.of (t19 _ _ hsr)⟩, ?_⟩
          refine to_ixL' (i := ((1 : Nat) : Int)) ((t26.trans (t7.trans (t8.trans t9))).seq hw2) (atI_at (str_item (by omega))) ?_
          refine ⟨sr, _, _, rfl, rfl, t19 _ _ hsr, by rw [List.length_map]; exact small1000' (by omega), ?_⟩
          exact next (s.1, s.2 ++ [(wz x).getD 1 noS]) _ _ _ (by rw [hst, if_neg c2, if_neg hall]) (hS9.set hsn _) (by rw [upd_ne ns]; exact t19 _ _ hnm) (by rw [upd_same, List.map_append]; rfl) h8 (by rw [List.length_append]; show _ + 1 ≤ _; omega)
  · rintro σ J ⟨s, y3, y4, rfl, hS, hnm, hsr, hrun, h8, hsk⟩
    rw [List.take_length] at hrun
    walk_at "rs"
    refine ⟨by decide, fun u hu0 => ?_⟩
    exact q u _ (hS.trans (Same.new hu0 _)) (by show _ = some (HO.lst (dueL (firstF 0 ([], []) L))); rw [first_none hrun]; exact upd_same)
end
section
variable {P : Program} {w : World} {K : PySem.W.Frag} {mg : Str → Option Value} {base : Heap} {er : Str → Addr}
/-! ### a bad line -/
noncomputable def cutS (r : List Str) (lo hi : Option Int) : List Str := (r.drop (HT.sIx r.length 0 lo)).take (HT.sIx r.length r.length hi - HT.sIx r.length 0 lo)
theorem cut_S {r : List Str} {lo hi : Option Int} : cutV (r.map V.str) lo hi = (cutS r lo hi).map V.str := by
  unfold cutV cutS
  rw [List.length_map, List.map_take, List.map_drop]
section
variable {H : Hp} {Q : VK} {a b : Addr} {us ws : List Str} {lo hi : Option Int}
theorem to_slM (h : SqL K H a (us.map V.str)) (q : ∀ p H' (vs : List Str), Same H H' → H' p = some (.lst (vs.map V.str)) → (∀ x ∈ vs, x ∈ us) → vs.length ≤ us.length → Q (.ref p) H') : rSlL K (.ref a) lo hi H Q :=
  ⟨a, _, rfl, h, fun p hp => q p _ (cutS us lo hi) (Same.new hp _) (by rw [cut_S]; exact upd_same) (fun x hx => List.mem_of_mem_drop (List.mem_of_mem_take hx)) (by unfold cutS; rw [List.length_take, List.length_drop]; omega)⟩
theorem to_catS (h : SqL K H a (us.map V.str)) (h' : SqL K H b (ws.map V.str)) (hz : us.length + ws.length ≤ 1000) (q : ∀ p H', Same H H' → H' p = some (.lst ((us ++ ws).map V.str)) → Q (.ref p) H') : rCatL K (.ref a) (.ref b) H Q :=
  to_catV h h' (by rw [List.length_map, List.length_map]; exact small1000' hz) fun p H' s _ m => q p H' s (by rw [m, List.map_append])
theorem to_joinS {n m : Nat} (h : SqL K H a (us.map V.str)) (hb : ∀ x ∈ us, LnN n x) (hl : us.length ≤ m) (hn : m * (n + 1) ≤ 400) (q : ∀ z, LnN 400 z → Q (.str z) H) : rJoin K (.str (Str.ofString " ")) [.ref a] H Q := by
  have hj := LnN.glue hb hl hn
  have h2 := sum_le n us fun x hx => (hb x hx).1
  have h3 : us.length * (n + 1) ≤ m * (n + 1) := Nat.mul_le_mul_right _ hl
  have h1000 : (1000 : Nat) ≤ sizeLine := by decide
  refine ⟨_, a, us, rfl, rfl, h, ?_, ?_, ?_⟩
  · rw [show (Str.ofString " ").length = 1 by decide +kernel]; omega
  · rw [blank_is]; have := hj.1; omega
  · rw [blank_is]; exact q _ hj
end
noncomputable def spBad : Sp := fun vs H Q _ => ∃ (dr ll nm : Addr) (dn : List Int) (L ns : List Str), vs = [.ref dr, .ref ll, .ref nm] ∧ Dn H dr dn 14 ∧ H ll = some (.lst (L.map V.str)) ∧ (∀ x ∈ L, LnN 310 x ∧ ∀ w ∈ wz x, w.length ≤ 30) ∧ H nm = some (.lst (ns.map V.str)) ∧ ns.length ≤ 8 ∧ (∀ x ∈ ns, nameB x = true) ∧ (2 ≤ ns.length → L ≠ []) ∧ ∀ z H', LnN 400 z → Same H H' → Q (.str z) H'
noncomputable def bdS : List Str := ["", "hat", "sees", "hat a", "sees a", "hat a 0", "hat a 01", "hat  a 1", "sees a b ", "Hat a 1"]
theorem bdS_ok : ∀ x ∈ bdS, LnN 400 x := by
  have h : ∀ x ∈ bdS, lnB 400 x = true := by decide +kernel
  exact fun x hx => lnB_ok (h x hx)
noncomputable def neS : List Str := ["", "a", " ", "1", "0", "_", "A", " a"]
theorem neS_ok : ∀ x ∈ neS, LnN 2 x := by
  have h : ∀ x ∈ neS, lnB 2 x = true := by decide +kernel
  exact fun x hx => lnB_ok (h x hx)
theorem seesN : LnN 12 (Str.ofString "sees") := (lnB_ok (n := 4) (by decide +kernel)).mono (by decide)
theorem blankN : LnN 1 (Str.ofString " ") := lnB_ok (by decide +kernel)
theorem at_last {ns : List Str} (h : 0 < ns.length) : atI (ns.map V.str) (-1) = some (.str (ns.getD (ns.length - 1) noS)) := by
  unfold atI ixN
  rw [if_neg (by omega), List.length_map, if_pos (by omega), show (-1 + (ns.length : Int)).toNat = ns.length - 1 by omega]
  exact str_item (by omega)
theorem ds_law_bad_line : DS (defScope s_law_bad_line) ["drawn", "lines", "names", "some", "kind", "line", "at", "new", "fresh", "words", "many"] ["drawn", "lines", "names"] ["len", "str", "_law_count", "_law_fresh"] := ds_of (by decide +kernel)
theorem ok_bad (B : Bn mg) (D : Def K mg "_law_bad_line" s_law_bad_line) (F_law_count : Fn P w K mg base 2 "_law_count" ["cell", "k"] spCountL) (F_law_fresh : Fn P w K mg base 1 "_law_fresh" ["number", "size"] spFresh) : Fn P w K mg base 3 "_law_bad_line" ["drawn", "lines", "names"] spBad := by
  refine D.gq ds_law_bad_line (fun _ _ _ _ _ _ us hl => match us, hl with | [_, _, _], _ => rfl) (fun vs H Q E h => ?_) ?_
  · obtain ⟨dr, ll, nm, dn, L, ns, rfl, _⟩ := h; rfl
  intro X S e1 e2 e3 e4 e5 hc hsc hxe hr hu H vs Q E h
  subst e1 e2 e3 e4 e5
  obtain ⟨dr, ll, nm, dn, L, ns, rfl, hdn, hll, hLo, hnm, h8, hno, hLne, q⟩ := h
  refine ⟨_, (ss_cons (ssv S 3 (kls (kb_strs (ns := ["", "hat", "sees", "hat a", "sees a", "hat a 0", "hat a 01", "hat  a 1", "sees a b ", "Hat a 1"]) (by decide +kernel))))
      (ss_cons (ssv S 4 (kmodc (kix (ix_listK (K := X.K) rfl) (kv S 0) kint (fun _ _ => rfl))))
      (ss_cons (sif (wpt (wor (tcmp op_eq (kv S 4) kint (nomark _)) (wor1 (tcmp op_lt (kcb S 0 (call_lenK (K := X.K) rfl) B.len boot_len (kb_cons (kv S 2) kb_nil)) kint (nomark _))))) (ss_one (sret (kix (ix_listK (K := X.K) rfl) (kv S 3) (kmodc (kix (ix_listK (K := X.K) rfl) (kv S 0) kint (fun _ _ => rfl))) (fun _ _ => rfl)))) ss_nil)
      (ss_cons (ssv S 5 (kix (ix_listK (K := X.K) rfl) (kv S 1) (kop op_mod (kix (ix_listK (K := X.K) rfl) (kv S 0) kint (fun _ _ => rfl)) (kcb S 0 (call_lenK (K := X.K) rfl) B.len boot_len (kb_cons (kv S 1) kb_nil))) (fun _ _ => rfl)))
      (ss_cons (sif (tcmp op_eq (kv S 4) kint (nomark _)) (ss_cons (ssv S 6 (kop op_mod (kix (ix_listK (K := X.K) rfl) (kv S 0) kint (fun _ _ => rfl)) (kop op_add (kcb S 0 call_len_str B.len boot_len (kb_cons (kv S 5) kb_nil)) kint)))
      (ss_cons (ssv S 7 (kix (ix_listK (K := X.K) rfl) (kls (kb_strs (ns := ["", "a", " ", "1", "0", "_", "A", " a"]) (by decide +kernel))) (kmodc (kix (ix_listK (K := X.K) rfl) (kv S 0) kint (fun _ _ => rfl))) (fun _ _ => rfl)))
      (ss_one (sret (kop op_add_str (kop op_add_str (ksl sl_str (kv S 5) ko_none (ko_some (kv S 6))) (kv S 7)) (ksl sl_str (kv S 5) (ko_some (kop op_add (kv S 6) (kmodc (kix (ix_listK (K := X.K) rfl) (kv S 0) kint (fun _ _ => rfl))))) ko_none)))))) ss_nil)
      (ss_cons (sif (wpt (wand (tcmp op_eq (kv S 4) kint (nomark _)) (wand (tcmp op_eq (ksl sl_str (kv S 5) ko_none (ko_some kint)) kstr (nomark _)) (wand1 (tcmp op_eq (kmodc (kix (ix_listK (K := X.K) rfl) (kv S 0) kint (fun _ _ => rfl))) kint (nomark _)))))) (ss_one (sret (kmb PySem.F.plainAttrs_str PySem.F.slot_str_join PySem.F.type_str_join (mt_str_join (K := X.K) rfl) (K := X.K) rfl kstr (kb_cons (kop (op_catLK (K := X.K) rfl) (ksl (sl_listK (K := X.K) rfl) (kmb PySem.F.plainAttrs_str PySem.F.slot_str_split PySem.F.type_str_split mt_str_split (K := X.K) rfl (kv S 5) (kb_cons kstr kb_nil)) ko_none (ko_some kint)) (kls (kb_cons (kct S 1 call_str_int B.str boot_str (kb_cons (kff S 2 F_law_count hr (kb_cons (kix (ix_listK (K := X.K) rfl) (kv S 0) kint (fun _ _ => rfl)) (kb_cons kint kb_nil))) kb_nil)) kb_nil))) kb_nil)))) ss_nil)
      (ss_cons (sif (tcmp op_eq (kv S 4) kint (nomark _)) (ss_one (sret (kv S 5))) ss_nil)
      (ss_cons (sif (tcmp op_eq (kv S 4) kint (nomark _)) (ss_cons (ssv S 6 (kop op_mod (kix (ix_listK (K := X.K) rfl) (kv S 0) kint (fun _ _ => rfl)) (kcb S 0 (call_lenK (K := X.K) rfl) B.len boot_len (kb_cons (kv S 2) kb_nil))))
      (ss_one (sret (kmb PySem.F.plainAttrs_str PySem.F.slot_str_join PySem.F.type_str_join (mt_str_join (K := X.K) rfl) (K := X.K) rfl kstr (kb_cons (kop (op_catLK (K := X.K) rfl) (kls (kb_cons kstr kb_nil)) (ksl (sl_listK (K := X.K) rfl) (kop (op_catLK (K := X.K) rfl) (ksl (sl_listK (K := X.K) rfl) (kv S 2) (ko_some (kv S 6)) ko_none) (ksl (sl_listK (K := X.K) rfl) (kv S 2) ko_none (ko_some (kv S 6)))) ko_none (ko_some (kop op_add kint (kmodc (kix (ix_listK (K := X.K) rfl) (kv S 0) kint (fun _ _ => rfl))))))) kb_nil))))) ss_nil)
      (ss_cons (sif (tcmp op_eq (kv S 4) kint (nomark _)) (ss_one (sret (kmb PySem.F.plainAttrs_str PySem.F.slot_str_join PySem.F.type_str_join (mt_str_join (K := X.K) rfl) (K := X.K) rfl kstr (kb_cons (kls (kb_cons kstr (kb_cons (kix (ix_listK (K := X.K) rfl) (kv S 2) kint (fun _ _ => rfl)) (kb_cons (kix (ix_listK (K := X.K) rfl) (kv S 2) (kun un_neg kint) (fun _ _ => rfl)) (kb_cons (kix (ix_listK (K := X.K) rfl) (kv S 2) (kop op_mod (kix (ix_listK (K := X.K) rfl) (kv S 0) kint (fun _ _ => rfl)) (kcb S 0 (call_lenK (K := X.K) rfl) B.len boot_len (kb_cons (kv S 2) kb_nil))) (fun _ _ => rfl)) kb_nil))))) kb_nil)))) ss_nil)
      (ss_cons (ssv S 8 (kff S 3 F_law_fresh hr (kb_cons (kix (ix_listK (K := X.K) rfl) (kv S 0) kint (fun _ _ => rfl)) (kb_cons (kop op_add kint (kmodc (kix (ix_listK (K := X.K) rfl) (kv S 0) kint (fun _ _ => rfl)))) kb_nil))))
      (ss_cons (sif (tcmp op_eq (kv S 4) kint (nomark _)) (ss_cons (ssv S 9 (kls (kb_cons kstr (kb_cons (kix (ix_listK (K := X.K) rfl) (kv S 2) (kop op_mod (kix (ix_listK (K := X.K) rfl) (kv S 0) kint (fun _ _ => rfl)) (kcb S 0 (call_lenK (K := X.K) rfl) B.len boot_len (kb_cons (kv S 2) kb_nil))) (fun _ _ => rfl)) (kb_cons (kv S 8) (kb_cons (kv S 8) (kb_cons (kix (ix_listK (K := X.K) rfl) (kv S 2) (kop op_mod (kix (ix_listK (K := X.K) rfl) (kv S 0) kint (fun _ _ => rfl)) (kcb S 0 (call_lenK (K := X.K) rfl) B.len boot_len (kb_cons (kv S 2) kb_nil))) (fun _ _ => rfl)) kb_nil)))))))
      (ss_one (sret (kmb PySem.F.plainAttrs_str PySem.F.slot_str_join PySem.F.type_str_join (mt_str_join (K := X.K) rfl) (K := X.K) rfl kstr (kb_cons (kop (op_catLK (K := X.K) rfl) (ksl (sl_listK (K := X.K) rfl) (kv S 9) ko_none (ko_some kint)) (ksl (sl_listK (K := X.K) rfl) (kv S 9) (ko_some (kop op_add kint (kmodc (kix (ix_listK (K := X.K) rfl) (kv S 0) kint (fun _ _ => rfl))))) (ko_some (kop op_add kint (kmodc (kix (ix_listK (K := X.K) rfl) (kv S 0) kint (fun _ _ => rfl))))))) kb_nil))))) ss_nil)
      (ss_cons (sif (tcmp op_eq (kv S 4) kint (nomark _)) (ss_one (sret (kmb PySem.F.plainAttrs_str PySem.F.slot_str_join PySem.F.type_str_join (mt_str_join (K := X.K) rfl) (K := X.K) rfl kstr (kb_cons (kop (op_catLK (K := X.K) rfl) (kls (kb_cons kstr (kb_cons (kv S 8) kb_nil))) (ksl (sl_listK (K := X.K) rfl) (kv S 2) ko_none (ko_some (kop op_add kint (kmodc (kix (ix_listK (K := X.K) rfl) (kv S 0) kint (fun _ _ => rfl))))))) kb_nil)))) ss_nil)
      (ss_cons (sif (tcmp op_eq (kv S 4) kint (nomark _)) (ss_cons (slc (i := 10) S hc hsc (istrK kstr (K := X.K) rfl) (N := ["sign"]) (W := ["sign"]) (G := []) (fv := [none]) (by decide +kernel) (fun cl C fp s H S2 => ⟨(kg S2 0), if_nil, (kop op_add_str (kv S2 0) kstr)⟩) (by rw [hsc]; decide +kernel) (by rw [sww_env, hsc]; rfl))
      (ss_one (sret (kmb PySem.F.plainAttrs_str PySem.F.slot_str_join PySem.F.type_str_join (mt_str_join (K := X.K) rfl) (K := X.K) rfl kstr (kb_cons (kop (op_catLK (K := X.K) rfl) (kls (kb_cons kstr (kb_cons (kix (ix_listK (K := X.K) rfl) (kv S 2) (kop op_mod (kix (ix_listK (K := X.K) rfl) (kv S 0) kint (fun _ _ => rfl)) (kcb S 0 (call_lenK (K := X.K) rfl) B.len boot_len (kb_cons (kv S 2) kb_nil))) (fun _ _ => rfl)) kb_nil))) (ksl (sl_listK (K := X.K) rfl) (kv S 10) (ko_some (kmodc (kix (ix_listK (K := X.K) rfl) (kv S 0) kint (fun _ _ => rfl)))) ko_none)) kb_nil))))) ss_nil)
      (ss_one (sret (kop op_add_str (kop op_add_str (kop op_add_str kstr (kff S 3 F_law_fresh hr (kb_cons (kix (ix_listK (K := X.K) rfl) (kv S 0) kint (fun _ _ => rfl)) (kb_cons (kop op_add kint (kmodc (kix (ix_listK (K := X.K) rfl) (kv S 0) kint (fun _ _ => rfl)))) kb_nil)))) kstr) (kct S 1 call_str_int B.str boot_str (kb_cons (kff S 2 F_law_count hr (kb_cons (kix (ix_listK (K := X.K) rfl) (kv S 0) kint (fun _ _ => rfl)) (kb_cons kint kb_nil))) kb_nil)))))))))))))))))), ?_⟩
  have h1000 : (1000 : Nat) ≤ sizeLine := by decide
  have hnN : ∀ x ∈ ns, LnN 12 x := fun x hx => LnN.name (hno x hx)
  walk_at "rs"
  rw [q_seq]
  walk_at "rs"
  refine ⟨by decide, fun sm hsm => ?_⟩
  generalize e1 : upd H sm _ = H1
  obtain ⟨s1, m1⟩ := nw hsm e1
  clear e1
  have m1 : H1 sm = some (.lst (bdS.map V.str)) := m1
  have D1 := hdn.mono s1
  have hll1 := s1 _ _ hll
  have hnm1 := s1 _ _ hnm
  have fin : ∀ z J, LnN 400 z → Same H1 J → Q (.str z) J := fun z J hz sJ => q z J hz (s1.trans sJ)
  rw [q_seq]
  walk_at "rs"
  refine to_drn D1 (by decide) (by decide) fun x0 hx0 => ?_
  walk_at "rs"
  rw [q_seq]
  walk_at "rs"
  have ret0 : rIxL X.K (V.ref dr) (V.int 1) H1 fun x J => rT (fun i => V.int (i % 10)) x J fun y J2 => rIxL X.K (V.ref sm) y J2 Q := by
    refine to_drn D1 (by decide) (by decide) fun x1 hx1 => ?_
    walk_at "rs"
    exact to_pickS (SqL.of m1) (by omega) (by show _ < (10 : Int); omega) fun w hw => fin w _ (bdS_ok w hw) (Same.refl _)
  refine ite2 (fun c => ret0) (fun c0 => ?_)
  refine to_len (.inl (SqL.of hnm1)) ?_
  rw [List.length_map]
  walk_at "rs"
  refine ite2 (fun c => ret0) (fun c2 => ?_)
  clear ret0
  have hn2 : 2 ≤ ns.length := by omega
  have hLp : 0 < L.length := List.length_pos_iff.mpr (hLne hn2)
  rw [q_seq]
  walk_at "rs"
  refine to_drn D1 (by decide) (by decide) fun x2 hx2 => ?_
  refine to_len (.inl (SqL.of hll1)) ?_
  rw [List.length_map]
  walk_at "rs"
  refine ⟨by omega, ?_⟩
  refine to_pickS (SqL.of hll1) (Int.emod_nonneg _ (by omega)) (Int.emod_lt_of_pos _ (by omega)) fun ln hln0 => ?_
  have hln := (hLo ln hln0).1
  have hlw := (hLo ln hln0).2
  have hlnl := hln.1
  walk_at "rs"
  -- a name, drawn
  have nameAt : ∀ {J : Hp} {x : Int} {Q' : VK}, Same H1 J → (∀ y ∈ ns, Q' (.str y) J) → rIxL X.K (.ref nm) (.int (x % (ns.length : Int))) J Q' := fun sJ h => to_pickS (SqL.of (sJ _ _ hnm1)) (Int.emod_nonneg _ (by omega)) (Int.emod_lt_of_pos _ (by omega)) h
  -- kind 1
  rw [q_seq]
  walk_at "rs"
  refine ite2 (fun c1 => ?_) (fun c1 => ?_)
  · rw [q_seq]
    walk_at "rs"
    refine to_drn D1 (by decide) (by decide) fun x3 hx3 => ?_
    refine ⟨ln, rfl, by omega, ?_⟩
    walk_at "rs"
    refine ⟨by omega, ?_⟩
    obtain ⟨at0, ha⟩ := Int.eq_ofNat_of_zero_le (show 0 ≤ x3 % ((ln.length : Int) + 1) from Int.emod_nonneg _ (by omega))
    rw [ha]
    rw [q_seq]
    walk_at "rs"
    refine ⟨by decide, fun p hp => ?_⟩
    generalize e2 : upd H1 p _ = H2
    obtain ⟨s2, m2⟩ := nw hp e2
    clear e2
    have m2 : H2 p = some (.lst (neS.map V.str)) := m2
    refine to_drn (D1.mono s2) (by decide) (by decide) fun x4 hx4 => ?_
    walk_at "rs"
    refine to_pickS (SqL.of m2) (by omega) (by show _ < (8 : Int); omega) fun w hw => ?_
    have hwN := neS_ok w hw
    have hwl := hwN.1
    walk_at "rs"
    refine ⟨ln, rfl, Nat.le_trans (slice_lenT at0) (by omega), ?_⟩
    have htl := slice_lenT (x := ln) at0
    have hto := hln.2.slT at0
    generalize eth : StrLaws.sliceText ln none (some (at0 : Int)) = th at htl hto ⊢
    refine ⟨th, w, rfl, rfl, by omega, ?_⟩
    walk_at "rs"
    refine to_drn (D1.mono s2) (by decide) (by decide) fun x5 hx5 => ?_
    walk_at "rs"
    obtain ⟨a2, ha2⟩ := Int.eq_ofNat_of_zero_le (show 0 ≤ (at0 : Int) + x5 % 2 by omega)
    have hcut : th.length + (StrLaws.sliceText ln (some (a2 : Int)) none).length ≤ 398 := by
      have h1 : th.length ≤ at0 := by rw [← eth, cz_length, slice_toM, List.length_take]; omega
      have h2 : (StrLaws.sliceText ln (some (a2 : Int)) none).length = ln.length - a2 := by rw [cz_length, slice_fromM, List.length_drop, ← cz_length]
      omega
    rw [ha2]
    refine ⟨ln, rfl, Nat.le_trans (slice_lenF a2) (by omega), ?_⟩
    have hbo := hln.2.slF a2
    generalize StrLaws.sliceText ln (some (a2 : Int)) none = bh at hcut hbo ⊢
    refine ⟨th ++ w, bh, rfl, rfl, by rw [len_append]; omega, ?_⟩
    exact fin _ _ ⟨by rw [len_append, len_append]; omega, (hto.app hwN.2).app hbo⟩ s2
  -- kind 2, with a new count
  refine seqJ (fun σ J => σ = [some (.ref dr), some (.ref ll), some (.ref nm), some (.ref sm), some (.int (x0 % 9)), some (.str ln), none, none, none, none, none] ∧ J = H1) ?_ (fun R hR => ?_)
  rotate_left
  · have keep := hR _ _ ⟨rfl, rfl⟩
    walk_at "rs"
    refine ite2 (fun c => ?_) (fun c => keep)
    refine ⟨ln, rfl, Nat.le_trans (slice_lenT 4) (by omega), ?_⟩
    walk_at "rs"
    refine ite2 (fun c => ?_) (fun c => keep)
    refine to_drn D1 (by decide) (by decide) fun x5 hx5 => ?_
    walk_at "rs"
    refine ite2 (fun c => ?_) (fun c => keep)
    have hfew := split_cnt ln
    refine ⟨rfl, rfl, ln, _, rfl, rfl, by decide +kernel, by omega, ?_, fun p hp => ?_⟩
    · rw [blank_is]; omega
    rw [blank_is]
    generalize e2 : upd H1 p _ = H2
    obtain ⟨s2, m2⟩ := nw hp e2
    clear e2
    refine to_slT 2 (SqL.of m2) fun p2 H3 s3 _ m3 => ?_
    rw [← List.map_take] at m3
    refine to_drn (D1.mono (s2.trans s3)) (by decide) (by decide) fun x6 hx6 => ?_
    refine ⟨_, _, rfl, fun c H4 hc0 hc30 s4 => ?_⟩
    refine ⟨_, rfl, ?_, by decide, fun p3 hp3 => ?_⟩
    · rw [Int.natAbs_natCast]
      by_cases z : c = 0
      · omega
      · exact (Nat.log2_lt z).mpr (Nat.lt_trans hc30 (by decide +kernel))
    generalize e5 : upd H4 p3 _ = H5
    obtain ⟨s5, m5⟩ := nw hp3 e5
    clear e5
    have m5 : H5 p3 = some (.lst ([cntT c].map V.str)) := m5
    refine to_catS (SqL.of ((s4.trans s5) _ _ m3)) (SqL.of m5) (by rw [List.length_take]; show _ + 1 ≤ _; omega) fun p4 H6 s6 m6 => ?_
    refine to_joinS (n := 30) (m := 3) (SqL.of m6) (fun x hx => ?_) (by rw [List.length_append, List.length_take]; show _ + 1 ≤ 3; omega) (by decide) fun z hz => fin z _ hz (s2.trans (s3.trans (s4.trans (s5.trans s6))))
    rcases List.mem_append.mp hx with hx | hx
    · have hx' := List.mem_of_mem_take hx
      exact ⟨hlw x hx', hln.2.part hx'⟩
    · rw [List.mem_singleton.mp hx]; exact LnN.count (count_text hc0 hc30).1
  rintro σ J ⟨rfl, rfl⟩
  -- kind 2
  rw [q_seq]
  walk_at "rs"
  refine ite2 (fun c => fin ln _ (hln.mono (by decide)) (Same.refl _)) (fun c => ?_)
  -- kind 3
  rw [q_seq]
  walk_at "rs"
  refine ite2 (fun c3 => ?_) (fun c3 => ?_)
  · rw [q_seq]
    walk_at "rs"
    refine to_drn D1 (by decide) (by decide) fun x3 hx3 => ?_
    refine to_len (.inl (SqL.of hnm1)) ?_
    rw [List.length_map]
    walk_at "rs"
    refine ⟨by omega, ?_⟩
    obtain ⟨a3, ha3⟩ := Int.eq_ofNat_of_zero_le (show 0 ≤ x3 % (ns.length : Int) from Int.emod_nonneg _ (by omega))
    rw [ha3]
    refine ⟨rfl, by decide, fun p1 hp1 => ?_⟩
    generalize e2 : upd J p1 _ = H2
    obtain ⟨s2, m2⟩ := nw hp1 e2
    clear e2
    have m2 : H2 p1 = some (.lst ([Str.ofString "sees"].map V.str)) := m2
    refine to_slF a3 (SqL.of (s2 _ _ hnm1)) fun p2 H3 s3 _ m3 => ?_
    rw [← List.map_drop] at m3
    refine to_slT a3 (SqL.of ((s2.trans s3) _ _ hnm1)) fun p3 H4 s4 _ m4 => ?_
    rw [← List.map_take] at m4
    refine to_catS (SqL.of (s4 _ _ m3)) (SqL.of m4) (by rw [List.length_drop, List.length_take]; omega) fun p4 H5 s5 m5 => ?_
    try dsimp only
    refine to_drn (D1.mono (s2.trans (s3.trans (s4.trans s5)))) (by decide) (by decide) fun x4 hx4 => ?_
    walk_at "rs"
    refine to_slM (SqL.of m5) fun p5 H6 vs s6 m6 hv hvl => ?_
    refine to_catS (SqL.of ((s3.trans (s4.trans (s5.trans s6))) _ _ m2)) (SqL.of m6) (by rw [List.length_append, List.length_drop, List.length_take] at hvl; show 1 + _ ≤ _; omega) fun p6 H7 s7 m7 => ?_
    refine to_joinS (n := 12) (m := 17) (SqL.of m7) (fun x hx => ?_) (by rw [List.length_append, List.length_drop, List.length_take] at hvl; rw [List.length_append]; show 1 + _ ≤ _; omega) (by decide) fun z hz => fin z _ hz (s2.trans (s3.trans (s4.trans (s5.trans (s6.trans s7)))))
    rcases List.mem_append.mp hx with hx | hx
    · rw [List.mem_singleton.mp hx]; exact seesN
    · rcases List.mem_append.mp (hv x hx) with hx | hx
      · exact hnN x (List.mem_of_mem_drop hx)
      · exact hnN x (List.mem_of_mem_take hx)
  -- kind 4
  rw [q_seq]
  walk_at "rs"
  refine ite2 (fun c4 => ?_) (fun c4 => ?_)
  · refine ⟨rfl, ?_⟩
    refine to_ixL' (i := ((0 : Nat) : Int)) (SqL.of hnm1) (atI_at (str_item (by omega))) ?_
    refine to_ixL' (SqL.of hnm1) (at_last (by omega)) ?_
    refine to_drn D1 (by decide) (by decide) fun x4 hx4 => ?_
    refine to_len (.inl (SqL.of hnm1)) ?_
    rw [List.length_map]
    walk_at "rs"
    refine ⟨by omega, ?_⟩
    refine nameAt (Same.refl _) fun y hy => ?_
    walk_at "rs"
    refine ⟨by decide, fun p1 hp1 => ?_⟩
    generalize e2 : upd J p1 _ = H2
    obtain ⟨s2, m2⟩ := nw hp1 e2
    clear e2
    have m2 : H2 p1 = some (.lst ([Str.ofString "sees", ns.getD 0 noS, ns.getD (ns.length - 1) noS, y].map V.str)) := m2
    refine to_joinS (n := 12) (m := 4) (SqL.of m2) (fun x hx => ?_) (by show 4 ≤ 4; decide) (by decide) fun z hz => fin z _ hz s2
    simp only [List.mem_cons, List.not_mem_nil, or_false] at hx
    rcases hx with rfl | rfl | rfl | rfl
    · exact seesN
    · exact hnN _ (getD_memS (by omega))
    · exact hnN _ (getD_memS (by omega))
    · exact hnN _ hy
  -- a fresh name
  rw [q_seq]
  walk_at "rs"
  refine to_drn D1 (by decide) (by decide) fun x10 hx10 => ?_
  refine to_drn D1 (by decide) (by decide) fun x11 hx11 => ?_
  walk_at "rs"
  obtain ⟨k11, hk11⟩ := Int.eq_ofNat_of_zero_le (show 0 ≤ 1 + x11 % 4 by omega)
  refine ⟨x10, k11, by rw [hk11], by omega, fun fr hfr hfl => ?_⟩
  have hfrN : LnN 12 fr := ⟨by omega, fun c hc => ⟨OkS.low hfl c hc, (lowB_ne (hfl c hc)).2⟩⟩
  try dsimp only
  -- kind 5
  rw [q_seq]
  walk_at "rs"
  refine ite2 (fun c5 => ?_) (fun c5 => ?_)
  · rw [q_seq]
    walk_at "rs"
    refine to_drn D1 (by decide) (by decide) fun x5 hx5 => ?_
    refine to_len (.inl (SqL.of hnm1)) ?_
    rw [List.length_map]
    walk_at "rs"
    refine ⟨by omega, ?_⟩
    refine nameAt (Same.refl _) fun y hy => ?_
    refine to_drn D1 (by decide) (by decide) fun x6 hx6 => ?_
    refine to_len (.inl (SqL.of hnm1)) ?_
    rw [List.length_map]
    walk_at "rs"
    refine ⟨by omega, ?_⟩
    refine nameAt (Same.refl _) fun y2 hy2 => ?_
    walk_at "rs"
    refine ⟨by decide, fun p1 hp1 => ?_⟩
    generalize e2 : upd J p1 _ = H2
    obtain ⟨s2, m2⟩ := nw hp1 e2
    clear e2
    have m2 : H2 p1 = some (.lst ([Str.ofString "sees", y, fr, fr, y2].map V.str)) := m2
    have hw5 : ∀ x ∈ [Str.ofString "sees", y, fr, fr, y2], LnN 12 x := fun x hx => by
      simp only [List.mem_cons, List.not_mem_nil, or_false] at hx
      rcases hx with rfl | rfl | rfl | rfl | rfl
      · exact seesN
      · exact hnN _ hy
      · exact hfrN
      · exact hfrN
      · exact hnN _ hy2
    walk_at "rs"
    refine ⟨rfl, ?_⟩
    refine to_slM (SqL.of m2) fun p2 H3 vs s3 m3 hv hvl => ?_
    refine to_drn (D1.mono (s2.trans s3)) (by decide) (by decide) fun x7 hx7 => ?_
    walk_at "rs"
    refine to_drn (D1.mono (s2.trans s3)) (by decide) (by decide) fun x8 hx8 => ?_
    walk_at "rs"
    refine to_slM (SqL.of (s3 _ _ m2)) fun p3 H4 vs2 s4 m4 hv2 hvl2 => ?_
    have l5 : [Str.ofString "sees", y, fr, fr, y2].length = 5 := rfl
    refine to_catS (SqL.of (s4 _ _ m3)) (SqL.of m4) (by omega) fun p4 H5 s5 m5 => ?_
    refine to_joinS (n := 12) (m := 10) (SqL.of m5) (fun x hx => ?_) (by rw [List.length_append]; omega) (by decide) fun z hz => fin z _ hz (s2.trans (s3.trans (s4.trans s5)))
    rcases List.mem_append.mp hx with hx | hx
    · exact hw5 x (hv x hx)
    · exact hw5 x (hv2 x hx)
  -- kind 6
  rw [q_seq]
  walk_at "rs"
  refine ite2 (fun c6 => ?_) (fun c6 => ?_)
  · refine ⟨rfl, by decide, fun p1 hp1 => ?_⟩
    generalize e2 : upd J p1 _ = H2
    obtain ⟨s2, m2⟩ := nw hp1 e2
    clear e2
    have m2 : H2 p1 = some (.lst ([Str.ofString "sees", fr].map V.str)) := m2
    refine to_drn (D1.mono s2) (by decide) (by decide) fun x7 hx7 => ?_
    walk_at "rs"
    refine to_slM (SqL.of (s2 _ _ hnm1)) fun p2 H3 vs s3 m3 hv hvl => ?_
    refine to_catS (SqL.of (s3 _ _ m2)) (SqL.of m3) (by show 2 + _ ≤ _; omega) fun p4 H5 s5 m5 => ?_
    refine to_joinS (n := 12) (m := 10) (SqL.of m5) (fun x hx => ?_) (by rw [List.length_append]; show 2 + _ ≤ _; omega) (by decide) fun z hz => fin z _ hz (s2.trans (s3.trans s5))
    rcases List.mem_append.mp hx with hx | hx
    · simp only [List.mem_cons, List.not_mem_nil, or_false] at hx
      rcases hx with rfl | rfl
      · exact seesN
      · exact hfrN
    · exact hnN x (hv x hx)
  -- kind 7
  rw [q_seq]
  walk_at "rs"
  refine ite2 (fun c7 => ?_) (fun c7 => ?_)
  · rw [q_seq]
    walk_at "rs"
    refine ⟨_, rfl, lc1 itok_str (fun _ => true) (fun i => .str ((⟨#[((Str.ofString "abcdefghijkl").cps[i]?).getD 0]⟩ : Str) ++ Str.ofString "zx")) (by rw [zx_size]; decide) ?_ ?_⟩
    · intro i J' A B' hi hS hA _
      walk_at "rs"
      refine ⟨_, _, rfl, rfl, by show 1 + (Str.ofString "zx").length ≤ _; rw [show (Str.ofString "zx").length = 2 by decide +kernel]; omega, ?_⟩
      exact hA rfl _ (Same.refl _)
    intro acc H2 hacc0 s2 hacc
    rw [fil_all, zx_size] at hacc
    have hacc : H2 acc = some (.lst (zxW.map V.str)) := by rw [hacc]; unfold zxW; rw [List.map_map]; rfl
    walk_at "rs"
    refine ⟨rfl, ?_⟩
    refine to_drn (D1.mono s2) (by decide) (by decide) fun x5 hx5 => ?_
    refine to_len (.inl (SqL.of (s2 _ _ hnm1))) ?_
    rw [List.length_map]
    walk_at "rs"
    refine ⟨by omega, ?_⟩
    refine nameAt s2 fun y hy => ?_
    walk_at "rs"
    refine ⟨by decide, fun p1 hp1 => ?_⟩
    generalize e3 : upd H2 p1 _ = H3
    obtain ⟨s3, m3⟩ := nw hp1 e3
    clear e3
    have m3 : H3 p1 = some (.lst ([Str.ofString "sees", y].map V.str)) := m3
    refine to_drn (D1.mono (s2.trans s3)) (by decide) (by decide) fun x7 hx7 => ?_
    walk_at "rs"
    refine to_slM (SqL.of (s3 _ _ hacc)) fun p2 H4 vs s4 m4 hv hvl => ?_
    have l12 : zxW.length = 12 := rfl
    refine to_catS (SqL.of (s4 _ _ m3)) (SqL.of m4) (by show 2 + _ ≤ _; omega) fun p4 H5 s5 m5 => ?_
    refine to_joinS (n := 12) (m := 14) (SqL.of m5) (fun x hx => ?_) (by rw [List.length_append]; show 2 + _ ≤ _; omega) (by decide) fun z hz => fin z _ hz (s2.trans (s3.trans (s4.trans s5)))
    rcases List.mem_append.mp hx with hx | hx
    · simp only [List.mem_cons, List.not_mem_nil, or_false] at hx
      rcases hx with rfl | rfl
      · exact seesN
      · exact hnN _ hy
    · exact LnN.name (zxW_ok x (hv x hx))
  -- a hat line
  walk_at "rs"
  refine to_drn D1 (by decide) (by decide) fun x12 hx12 => ?_
  refine to_drn D1 (by decide) (by decide) fun x13 hx13 => ?_
  walk_at "rs"
  obtain ⟨k13, hk13⟩ := Int.eq_ofNat_of_zero_le (show 0 ≤ 1 + x13 % 12 by omega)
  refine ⟨x12, k13, by rw [hk13], by omega, fun f2 hf2 hf2l => ?_⟩
  have hf2N : LnN 12 f2 := ⟨by omega, fun c hc => ⟨OkS.low hf2l c hc, (lowB_ne (hf2l c hc)).2⟩⟩
  have hf2b := hf2N.1
  have el : (Str.ofString "hat ").length = 4 := by decide +kernel
  have el1 : (Str.ofString " ").length = 1 := by decide +kernel
  refine ⟨_, _, rfl, rfl, by rw [el]; omega, ?_⟩
  walk_at "rs"
  refine ⟨_, _, rfl, rfl, by rw [len_append, el, el1]; omega, ?_⟩
  walk_at "rs"
  refine to_drn D1 (by decide) (by decide) fun x14 hx14 => ?_
  refine ⟨_, _, rfl, fun c H2 hc0 hc30 s2 => ?_⟩
  refine ⟨_, rfl, ?_, ?_⟩
  · rw [Int.natAbs_natCast]
    by_cases z : c = 0
    · omega
    · exact (Nat.log2_lt z).mpr (Nat.lt_trans hc30 (by decide +kernel))
  have hcN : LnN 30 (cntT c) := LnN.count (count_text hc0 hc30).1
  have hcl := hcN.1
  refine ⟨_, _, rfl, rfl, by rw [len_append, len_append, el, el1]; show _ + (cntT c).length ≤ _; omega, ?_⟩
  exact fin _ _ (((((lnB_ok (n := 4) (by decide +kernel)).app hf2N).app blankN).app hcN).mono (by decide)) s2
end
section
variable {P : Program} {w : World} {K : PySem.W.Frag} {mg : Str → Option Value} {base : Heap} {er : Str → Addr}
/-! ### a spoilt text -/
theorem mixed_wd {ns : List Str} {cs ws : List Nat} (P : Ppl ns cs ws) {done : Nat → Prop} {M : List Mx} (h : Mixed ns ws done M) : ∀ x ∈ M.map (txM ns cs), LnN 310 x ∧ ∀ w ∈ wz x, w.length ≤ 30 := fun y hy => by
  refine ⟨mixed_ln P h y hy, ?_⟩
  obtain ⟨x, hx, rfl⟩ := List.mem_map.mp hy
  have hw := lnW_ok (h.all_ok P x hx)
  have e : wz (txM ns cs x) = lnW (mxL ns cs x) := split_join 32 (by intro z; rw [z] at hw; exact absurd hw.2.2 (by decide)) fun y hy => (hw.1 y hy).1
  rw [e]
  exact fun w hw' => (hw.1 w hw').2.2
theorem mixed_ne {ns : List Str} {cs ws : List Nat} {done : Nat → Prop} {M : List Mx} (h : Mixed ns ws done M) (h2 : 2 ≤ ns.length) : M.map (txM ns cs) ≠ [] := fun e => by
  have : M = [] := List.map_eq_nil_iff.mp e
  have hh := h.hats
  rw [this] at hh
  have : (List.range ns.length).length = 0 := by rw [← hh]; rfl
  rw [List.length_range] at this
  omega
theorem mem_ins {α : Type} {L : List α} {k : Nat} {y x : α} (h : x ∈ insAt L k y) : x ∈ L ∨ x = y := by
  unfold insAt at h
  rcases List.mem_append.mp h with z | z
  · exact .inl (List.mem_of_mem_take z)
  · rcases List.mem_cons.mp z with z | z
    · exact .inr z
    · exact .inl (List.mem_of_mem_drop z)
theorem len_ins {α : Type} {L : List α} {k : Nat} {y : α} (h : k ≤ L.length) : (insAt L k y).length = L.length + 1 := by
  unfold insAt
  rw [List.length_append, List.length_cons, List.length_take, List.length_drop]; omega
theorem map_er {α β : Type} (f : α → β) : ∀ (l : List α) (i : Nat), (l.map f).eraseIdx i = (l.eraseIdx i).map f
  | [], _ => rfl
  | x :: r, 0 => rfl
  | x :: r, i + 1 => by rw [List.map_cons, List.eraseIdx_cons_succ, List.eraseIdx_cons_succ, List.map_cons, map_er f r i]
noncomputable def InvTx4 (H0 : Hp) (s b dr l g : Addr) (G : List Str) (k : Nat) (σ : L2.St) (H : Hp) : Prop := ∃ (L : List Str) (y5 y6 y7 y8 : Option V), σ = [some (.ref s), some (.ref b), some (.ref dr), some (.ref l), some (.ref g), y5, y6, y7, y8] ∧ Same H0 H ∧ H g = some (.lst (G.map V.str)) ∧ H l = some (.lst (L.map V.str)) ∧ L.length ≤ 16 + k ∧ ∀ x ∈ L, LnN 400 x
noncomputable def InvAt4 (H0 : Hp) (s b dr l g : Addr) (k : Nat) (z : Str) (n : Nat) (σ : L2.St) (H : Hp) : Prop := ∃ (a : Nat) (y5 : Option V), σ = [some (.ref s), some (.ref b), some (.ref dr), some (.ref l), some (.ref g), y5, some (.int (k : Int)), some (.str z), some (.int (a : Int))] ∧ Same H0 H ∧ a ≤ n
theorem ds_law_spoilt_text : DS (defScope s_law_spoilt_text) ["script", "book", "drawn", "lines", "good", "line", "k", "new", "at"] ["script"] ["_law_people", "_law_draws", "_law_cell_at", "_law_mixed_lines", "list", "len", "range", "_law_bad_line"] := ds_of (by decide +kernel)
theorem ok_text (B : Bn mg) (D : Def K mg "_law_spoilt_text" s_law_spoilt_text) (F_law_people : Fn P w K mg base 3 "_law_people" ["script"] (spPeople K)) (F_law_draws : Fn P w K mg base 1 "_law_draws" ["cell", "count"] spDrawsL) (F_law_cell_at : Fn P w K mg base 1 "_law_cell_at" ["script", "k"] (spAt K)) (F_law_mixed_lines : Fn P w K mg base 1 "_law_mixed_lines" ["book", "drawn"] (spMixed4 K)) (F_law_bad_line : Fn P w K mg base 3 "_law_bad_line" ["drawn", "lines", "names"] spBad) : Fn P w K mg base 4 "_law_spoilt_text" ["script"] (spText K) := by
  refine D.gq ds_law_spoilt_text (fun _ _ _ _ _ _ us hl => match us, hl with | [_], _ => rfl) (fun vs H Q E h => ?_) ?_
  · obtain ⟨s, xs, rfl, _⟩ := h; rfl
  intro X S e1 e2 e3 e4 e5 hc hsc hxe hr hu H vs Q E h
  subst e1 e2 e3 e4 e5
  obtain ⟨s, xs, rfl, hs, q⟩ := h
  refine ⟨_, (ss_cons (ssv S 1 (kff S 0 F_law_people hr (kb_cons (kv S 0) kb_nil)))
      (ss_cons (ssv S 2 (kff S 1 F_law_draws hr (kb_cons (kff S 2 F_law_cell_at hr (kb_cons (kv S 0) (kb_cons kint kb_nil))) (kb_cons kint kb_nil))))
      (ss_cons (ssv S 3 (kff S 3 F_law_mixed_lines hr (kb_cons (kv S 1) (kb_cons (kv S 2) kb_nil))))
      (ss_cons (ssv S 4 (kct S 4 (call_listK (K := X.K) rfl) B.list boot_list (kb_cons (kv S 3) kb_nil)))
      (ss_cons (sif (wpt (wand (tcmp op_eq (kmodc (kix (ix_listK (K := X.K) rfl) (kv S 2) kint (fun _ _ => rfl))) kint (nomark _)) (wand1 (tcmp op_gt (kcb S 5 (call_lenK (K := X.K) rfl) B.len boot_len (kb_cons (kv S 3) kb_nil)) kint (nomark _))))) (ss_cons (ssv S 5 (kmb PySem.F.plainAttrs_list PySem.F.slot_list_pop PySem.F.type_list_pop mt_popAt (K := X.K) rfl (kv S 3) (kb_cons (kop op_mod (kix (ix_listK (K := X.K) rfl) (kv S 2) kint (fun _ _ => rfl)) (kcb S 5 (call_lenK (K := X.K) rfl) B.len boot_len (kb_cons (kv S 3) kb_nil))) kb_nil)))
      (ss_one (sexpr (kmb PySem.F.plainAttrs_list PySem.F.slot_list_insert PySem.F.type_list_insert mt_insert (K := X.K) rfl (kv S 3) (kb_cons (kop op_mod (kix (ix_listK (K := X.K) rfl) (kv S 2) kint (fun _ _ => rfl)) (kop op_add (kcb S 5 (call_lenK (K := X.K) rfl) B.len boot_len (kb_cons (kv S 3) kb_nil)) kint)) (kb_cons (kv S 5) kb_nil)))))) ss_nil)
      (ss_cons (sfor hxe hc (irg1 S 6 B.range (kb_cons (kmodc (kix (ix_listK (K := X.K) rfl) (kv S 2) kint (fun _ _ => rfl))) kb_nil)) (kg S 6) (ss_cons (ssv S 7 (kff S 7 F_law_bad_line hr (kb_cons (kff S 1 F_law_draws hr (kb_cons (kop op_add (kff S 2 F_law_cell_at hr (kb_cons (kv S 0) (kb_cons (kop op_add kint (kv S 6)) kb_nil))) (kcmul (kv S 6))) (kb_cons kint kb_nil))) (kb_cons (kv S 4) (kb_cons (kix (ix_listK (K := X.K) rfl) (kv S 1) kint (fun _ _ => rfl)) kb_nil)))))
      (ss_cons (ssv S 8 (kop op_mod (kix (ix_listK (K := X.K) rfl) (kv S 2) (kop op_add kint (kv S 6)) (fun _ _ => rfl)) (kop op_add (kcb S 5 (call_lenK (K := X.K) rfl) B.len boot_len (kb_cons (kv S 3) kb_nil)) kint)))
      (ss_cons (sif (tcmp op_eq (kmodc (kix (ix_listK (K := X.K) rfl) (kv S 2) (kop op_add kint (kv S 6)) (fun _ _ => rfl))) kint (nomark _)) (ss_one (ssv S 8 (kix (ix_listK (K := X.K) rfl) (kls (kb_cons kint (kb_cons (kcb S 5 (call_lenK (K := X.K) rfl) B.len boot_len (kb_cons (kv S 3) kb_nil)) kb_nil))) (kmodc (kix (ix_listK (K := X.K) rfl) (kv S 2) (kop op_add kint (kv S 6)) (fun _ _ => rfl))) (fun _ _ => rfl)))) ss_nil)
      (ss_one (sexpr (kmb PySem.F.plainAttrs_list PySem.F.slot_list_insert PySem.F.type_list_insert mt_insert (K := X.K) rfl (kv S 3) (kb_cons (kv S 8) (kb_cons (kv S 7) kb_nil)))))))))
      (ss_one (sret (kv S 3))))))))), ?_⟩
  have h1000 : (1000 : Nat) ≤ sizeLine := by decide
  walk_at "rs"
  rw [q_seq]
  walk_at "rs"
  refine ⟨s, xs, rfl, hs, fun b ns cs ws H1 s1 hb P => ?_⟩
  have h8 := P.nm.few
  try dsimp only
  rw [q_seq]
  walk_at "rs"
  refine ⟨s, xs, 17, rfl, s1.seq hs, fun r => ?_⟩
  walk_at "rs"
  refine ⟨_, 40, rfl, by decide, fun dr dn H2 s2 hdr0 hdr hdn hnn => ?_⟩
  have D2 : Dn H2 dr dn 40 := ⟨hdr, hdn, hnn⟩
  have hb2 := hb.mono s2
  try dsimp only
  rw [q_seq]
  walk_at "rs"
  refine ⟨b, dr, ns, cs, ws, dn, rfl, hb2, P, hdr, hdn, hnn, fun l M H3 s3 hl0 hl3 hM hM16 => ?_⟩
  have hG := mixed_wd P hM
  have hGne : 2 ≤ ns.length → M.map (txM ns cs) ≠ [] := mixed_ne hM
  have hGl : (M.map (txM ns cs)).length ≤ 16 := by rw [List.length_map]; exact hM16
  generalize M.map (txM ns cs) = G at hl3 hG hGne hGl
  try dsimp only
  rw [q_seq]
  walk_at "rs"
  refine ⟨l, _, rfl, .inl (SqL.of hl3), fun g hg0 => ?_⟩
  generalize e4 : upd H3 g _ = H4
  obtain ⟨s4, hg4⟩ := nw hg0 e4
  clear e4
  have gl : g ≠ l := (ne_of_none hl3 hg0).symm
  have hl4 := s4 _ _ hl3
  have s24 := s3.trans s4
  have sS : SqL X.K H2 s (xs.map V.int) := (s1.trans s2).seq hs
  obtain ⟨a1, a2, a3, hb0, hb1, _, _⟩ := hb2
  have wl : ∀ {J : Hp} {L : List Str}, Same H2 J → J g = some (.lst (G.map V.str)) → Same H2 (upd J l (.lst (L.map V.str))) ∧ upd J l (.lst (L.map V.str)) g = some (.lst (G.map V.str)) := fun sJ hgJ => ⟨sJ.set hl0 _, by rw [upd_ne gl]; exact hgJ⟩
  refine seqJ (InvTx4 H2 s b dr l g G 0) ?_ (fun R hR => ?_)
  rotate_left
  · have keep := hR _ _ ⟨G, none, none, none, none, rfl, s24, hg4, hl4, by omega, fun x hx => (hG x hx).1.mono (by decide)⟩
    walk_at "rs"
    refine to_drn (D2.mono s24) (by decide) (by decide) fun x1 hx1 => ?_
    walk_at "rs"
    refine ite2 (fun c => ?_) (fun c => keep)
    refine to_len (.inl (SqL.of hl4)) ?_
    rw [List.length_map]
    walk_at "rs"
    refine ite2 (fun c1 => ?_) (fun c1 => keep)
    rw [q_seq]
    walk_at "rs"
    refine ⟨.inl ⟨rfl, _, SqL.of hl4⟩, ?_⟩
    refine to_drn (D2.mono s24) (by decide) (by decide) fun x2 hx2 => ?_
    refine to_len (.inl (SqL.of hl4)) ?_
    rw [List.length_map]
    walk_at "rs"
    refine ⟨by omega, ?_⟩
    obtain ⟨k2, hk2⟩ := Int.eq_ofNat_of_zero_le (show 0 ≤ x2 % (G.length : Int) from Int.emod_nonneg _ (by omega))
    have hk2l : k2 < G.length := by have := Int.emod_lt_of_pos x2 (show (0 : Int) < (G.length : Int) by omega); omega
    rw [hk2]
    refine ⟨l, _, _, k2, _, rfl, rfl, hl4, by omega, by omega, seqIx (by rw [List.length_map]; exact hk2l), str_item hk2l, ?_⟩
    rw [map_er]
    obtain ⟨t5, hg5⟩ := wl (L := G.eraseIdx k2) s24 hg4
    generalize e5 : upd H4 l _ = H5 at t5 hg5
    have hl5 : H5 l = some (.lst ((G.eraseIdx k2).map V.str)) := by rw [← e5]; exact upd_same
    clear e5
    have hel : (G.eraseIdx k2).length ≤ 16 := Nat.le_trans (List.length_eraseIdx_le _ _) hGl
    walk_at "rs"
    refine ⟨.inl ⟨rfl, _, SqL.of hl5⟩, ?_⟩
    refine to_drn (D2.mono t5) (by decide) (by decide) fun x3 hx3 => ?_
    refine to_len (.inl (SqL.of hl5)) ?_
    rw [List.length_map]
    walk_at "rs"
    refine ⟨by omega, ?_⟩
    obtain ⟨k3, hk3⟩ := Int.eq_ofNat_of_zero_le (show 0 ≤ x3 % (((G.eraseIdx k2).length : Int) + 1) from Int.emod_nonneg _ (by omega))
    have hk3l : k3 ≤ (G.eraseIdx k2).length := by have := Int.emod_lt_of_pos x3 (show (0 : Int) < ((G.eraseIdx k2).length : Int) + 1 by omega); omega
    rw [hk3]
    refine ⟨l, _, k3, _, rfl, rfl, hl5, by rw [List.length_map]; omega, by rw [List.length_map]; exact hk3l, ?_⟩
    obtain ⟨t6, hg6⟩ := wl (L := insAt (G.eraseIdx k2) k3 (G.getD k2 noS)) t5 hg5
    rw [map_ins] at t6 hg6
    refine hR _ _ ⟨insAt (G.eraseIdx k2) k3 (G.getD k2 noS), _, _, _, _, rfl, t6, hg6, by rw [upd_same, map_ins], ?_, fun x hx => ?_⟩
    · rw [len_ins hk3l]
      have := List.length_eraseIdx_of_lt hk2l
      omega
    · rcases mem_ins hx with z | z
      · exact (hG x (List.mem_of_mem_eraseIdx z)).1.mono (by decide)
      · rw [z]; exact (hG _ (getD_memS hk2l)).1.mono (by decide)
  rintro σ1 J1 ⟨L1, y5, y6, y7, y8, rfl, t1, hg1, hl1, hL1, hLo1⟩
  rw [q_seq]
  walk_at "rs"
  refine to_drn (D2.mono t1) (by decide) (by decide) fun x4 hx4 => ?_
  walk_at "rs"
  obtain ⟨m, hm⟩ := Int.eq_ofNat_of_zero_le (show 0 ≤ x4 % 3 by omega)
  refine forR m (InvTx4 H2 s b dr l g G) hm (by omega) ⟨L1, _, _, _, _, rfl, t1, hg1, hl1, hL1, hLo1⟩ ?_ ?_
  · rintro k σ J hk ⟨L, y5, y6, y7, y8, rfl, sJ, hgJ, hlJ, hL, hLo⟩
    walk_at "rs"
    rw [q_seq]
    walk_at "rs"
    refine ⟨s, xs, 18 + k, by rw [Int.natCast_add]; rfl, sJ.seq sS, fun r2 => ?_⟩
    walk_at "rs"
    refine ⟨_, 14, rfl, by decide, fun d2 dn2 J2 t2 _ hd2 hdn2 hnn2 => ?_⟩
    refine to_ixL' (i := ((0 : Nat) : Int)) (SqL.of ((sJ.trans t2) _ _ hb0)) (atI_at rfl) ?_
    refine ⟨d2, g, a1, dn2, G, ns, rfl, ⟨hd2, hdn2, hnn2⟩, t2 _ _ hgJ, hG, (sJ.trans t2) _ _ hb1, h8, P.nm.nm, hGne, fun z J3 hz t3 => ?_⟩
    try dsimp only
    have sJ3 := sJ.trans (t2.trans t3)
    have hlJ3 := (t2.trans t3) _ _ hlJ
    have hgJ3 := (t2.trans t3) _ _ hgJ
    rw [q_seq]
    walk_at "rs"
    refine to_drn (D2.mono sJ3) (by omega) (by omega) fun x5 hx5 => ?_
    refine to_len (.inl (SqL.of hlJ3)) ?_
    rw [List.length_map]
    walk_at "rs"
    refine ⟨by omega, ?_⟩
    obtain ⟨k5, hk5⟩ := Int.eq_ofNat_of_zero_le (show 0 ≤ x5 % ((L.length : Int) + 1) from Int.emod_nonneg _ (by omega))
    have hk5l : k5 ≤ L.length := by have := Int.emod_lt_of_pos x5 (show (0 : Int) < (L.length : Int) + 1 by omega); omega
    rw [hk5]
    refine seqJ (InvAt4 J3 s b dr l g k z L.length) ?_ (fun R hR => ?_)
    rotate_left
    · walk_at "rs"
      refine to_drn (D2.mono sJ3) (by omega) (by omega) fun x6 hx6 => ?_
      walk_at "rs"
      refine ite2 (fun c => ?_) (fun c => hR _ _ ⟨k5, _, rfl, Same.refl _, hk5l⟩)
      refine to_len (.inl (SqL.of hlJ3)) ?_
      rw [List.length_map]
      walk_at "rs"
      refine ⟨by decide, fun p hp => ?_⟩
      generalize e6 : upd J3 p _ = J4
      obtain ⟨t4, m4⟩ := nw hp e6
      clear e6
      refine to_drn (D2.mono (sJ3.trans t4)) (by omega) (by omega) fun x7 hx7 => ?_
      walk_at "rs"
      rcases (show x7 % 2 = 0 ∨ x7 % 2 = 1 by omega) with h | h
      · rw [h]
        refine to_ixL' (i := ((0 : Nat) : Int)) (SqL.of m4) (atI_at rfl) ?_
        exact hR _ _ ⟨0, _, rfl, t4, Nat.zero_le _⟩
      · rw [h]
        refine to_ixL' (i := ((1 : Nat) : Int)) (SqL.of m4) (atI_at rfl) ?_
        exact hR _ _ ⟨L.length, _, rfl, t4, Nat.le_refl _⟩
    rintro σ4 J4 ⟨a, y5', rfl, t4, ha⟩
    have sJ4 := sJ3.trans t4
    have hlJ4 := t4 _ _ hlJ3
    walk_at "rs"
    refine ⟨.inl ⟨rfl, _, SqL.of hlJ4⟩, ?_⟩
    refine ⟨l, _, a, _, rfl, rfl, hlJ4, by rw [List.length_map]; omega, by rw [List.length_map]; exact ha, ?_⟩
    obtain ⟨t6, hg6⟩ := wl (L := insAt L a z) sJ4 (t4 _ _ hgJ3)
    rw [map_ins] at t6 hg6
    refine ⟨insAt L a z, _, _, _, _, rfl, t6, hg6, by rw [upd_same, map_ins], by rw [len_ins ha]; omega, fun x hx => ?_⟩
    rcases mem_ins hx with h | h
    · exact hLo x h
    · rw [h]; exact hz
  · rintro σ J ⟨L, y5, y6, y7, y8, rfl, sJ, hgJ, hlJ, hL, hLo⟩
    walk_at "rs"
    exact q l L J ⟨hlJ, by omega, hLo⟩
end
section
variable {P : Program} {w : World} {K : PySem.W.Frag} {mg : Str → Option Value} {base : Heap} {er : Str → Addr}
/-! ### what the program answers is due -/
theorem bls_lay : ∀ bs : List Bool, PyData.canLayAll0 (bs.map PyData.bool) = true
  | [] => by simp [PyData.canLayAll0]
  | b :: bs => by simp [PyData.canLayAll0, PyData.canLay0, bls_lay bs]
theorem bls_depth : ∀ bs : List Bool, PyData.depthAll (bs.map PyData.bool) ≤ 1
  | [] => by simp [PyData.depthAll]
  | b :: bs => by
    have := bls_depth bs
    simp only [List.map_cons, PyData.depthAll, PyData.depth]
    omega
theorem bls_shaped (bs : List Bool) : PySem.SeqAt.shaped (.list (bs.map PyData.bool)) = true := shaped_of (by simp [PyData.canLay0, bls_lay bs]) (by have := bls_depth bs; simp only [PyData.depth]; omega)
theorem bls_all : ∀ bs : List Bool, PyData.eqvAll (bs.map PyData.bool) (bs.map PyData.bool) = true
  | [] => by simp [PyData.eqvAll]
  | b :: bs => by simp [PyData.eqvAll, PyData.eqv, bls_all bs]
theorem bls_eqv (bs : List Bool) : PyData.eqv (.list (bs.map PyData.bool)) (.list (bs.map PyData.bool)) = true := by simp [PyData.eqv, bls_all bs]
theorem two_shaped (e k : Int) : PySem.SeqAt.shaped (.list [.int e, .int k]) = true := shaped_of (by simp [PyData.canLay0, PyData.canLayAll0]) (by simp [PyData.depth, PyData.depthAll])
theorem two_nil (e k : Int) : PyData.eqv (.list [.int e, .int k]) (.list []) = false := by simp [PyData.eqv, PyData.eqvAll]
noncomputable def kinds04 (x : Str) : List Bool := [isaE x "NoLine", isaE x "Twice", isaE x "Unknown", isaE x "TooMany", isaE x "HatError", true]
noncomputable def due04 (k : Int) : List Bool := (List.range 4).map (fun i : Nat => decide (((i : Nat) : Int) = k)) ++ [true, true]
theorem kinds04_due {e : Nat} (h : e < 4) : kinds04 (errN e) = due04 (e : Int) := by
  have : ∀ e : Nat, e < 4 → kinds04 (errN e) = due04 (e : Int) := by decide +kernel
  exact this e h
theorem errN_ok {j : Nat} : errN j ∈ ERN ∧ hasIn (errN j) = true ∧ isaE (errN j) "LineError" = true := by
  match j with
  | 0 => decide
  | 1 => decide
  | 2 => decide
  | _ + 3 => exact ⟨by show (Str.ofString "TooMany") ∈ ERN; decide, by show hasIn (Str.ofString "TooMany") = true; decide, by show isaE (Str.ofString "TooMany") "LineError" = true; decide⟩
noncomputable def spRight04 : Sp := fun vs H Q _ => ∃ (z : Str) (u : Addr), vs = [.str z, .ref u] ∧ z.length ≤ 1000000 ∧ (rowsS z).length ≤ 100 ∧ (∀ x ∈ rowsS z, x.length ≤ 800) ∧ H u = some (.lst (dueL (fst0 (rowsS z)))) ∧ ∀ H', Same H H' → Q (.bl true) H'
noncomputable def InvRt (H0 : Hp) (z : Str) (u : Addr) (fo : Option (Nat × Nat)) (σ : L2.St) (H : Hp) : Prop := Same H0 H ∧ ∃ k : Addr,
  ((∃ f a1 a2 a3, fo = none ∧ σ = [some (.str z), some (.ref u), some (.ref k), some (.int 0), some (.ref f), none] ∧ H k = some (.lst []) ∧ H f = some (.tup [.ref a1, .ref a2, .ref a3])) ∨
   (∃ e j : Nat, fo = some (e, j) ∧ σ = [some (.str z), some (.ref u), some (.ref k), some (.int (j : Int)), some .non, none] ∧ H k = some (.lst ((kinds04 (errN e)).map V.bl))))
theorem ds_law_right : DS (defScope s_law_right) ["text", "due", "kinds", "at", "found", "e"] ["text", "due"] ["LineError", "HatError", "read_book", "isinstance", "NoLine", "Twice", "Unknown", "TooMany", "ValueError", "tuple", "len", "bool", "range", "int"] := ds_of (by decide +kernel)
theorem ok_right04 (B : Bn mg) (ER : ErrT K mg ERN er) (IT : IniT K ERN er) (D : Def K mg "_law_right" s_law_right) (F_read_book : FnE P w K mg base 4 "read_book" ["text"] (spBookR er)) : Fn P w K mg base 5 "_law_right" ["text", "due"] spRight04 := by
  refine D.gz ds_law_right (fun _ _ _ _ _ _ us hl => match us, hl with | [_, _], _ => rfl) (fun vs H Q E h => ?_) ?_
  · obtain ⟨z, u, rfl, _⟩ := h; rfl
  intro X S e1 e2 e3 e4 e5 hc hsc hown hex hxe hr hu H vs Q E h
  subst e1 e2 e3 e4 e5
  obtain ⟨z, u, rfl, hz, hL, hx800, hu0, q⟩ := h
  refine ⟨_, (ss_cons (ssv S 2 (kls kb_nil))
      (ss_cons (ssv S 3 kint)
      (ss_cons (ssv S 4 knon)
      (ss_cons (stryH (names := ERN) (er := er) S 0 5 hxe hc hown hex ER (by decide) (xs_one (xset S 4 (kfx S hxe 2 F_read_book hr (kb_cons (kv S 0) kb_nil))))
      (fun a S4 => (ss_cons (ssv S4 2 (kls (kb_cons (kcb S4 3 (call_isX (names := ERN) (er := er) (y := "NoLine") ER (by decide)) B.isinstance boot_isinstance (kb_cons (kv S4 5) (kb_cons (kcl S4 4 ER (by decide)) kb_nil))) (kb_cons (kcb S4 3 (call_isX (names := ERN) (er := er) (y := "Twice") ER (by decide)) B.isinstance boot_isinstance (kb_cons (kv S4 5) (kb_cons (kcl S4 5 ER (by decide)) kb_nil))) (kb_cons (kcb S4 3 (call_isX (names := ERN) (er := er) (y := "Unknown") ER (by decide)) B.isinstance boot_isinstance (kb_cons (kv S4 5) (kb_cons (kcl S4 6 ER (by decide)) kb_nil))) (kb_cons (kcb S4 3 (call_isX (names := ERN) (er := er) (y := "TooMany") ER (by decide)) B.isinstance boot_isinstance (kb_cons (kv S4 5) (kb_cons (kcl S4 7 ER (by decide)) kb_nil))) kb_nil))))))
      (ss_cons (ssv S4 2 (kop (op_catLK (K := X.K) rfl) (kv S4 2) (kls (kb_cons (kcb S4 3 (call_isX (names := ERN) (er := er) (y := "HatError") ER (by decide)) B.isinstance boot_isinstance (kb_cons (kv S4 5) (kb_cons (kcl S4 1 ER (by decide)) kb_nil))) (kb_cons (kcb S4 3 (call_isXV (names := ERN) (er := er) ER) B.isinstance boot_isinstance (kb_cons (kv S4 5) (kb_cons (kty S4 8 B.ValueError boot_ValueError) kb_nil))) kb_nil)))))
      (ss_one (ssv S4 3 (kle ER IT (kv S4 5))))))) (by rw [hsc]; decide +kernel))
      (ss_cons (sif (tcmp (op_eqK hu (K := X.K) rfl) (kv S 1) (kls kb_nil) (nomark _)) (ss_one (sret (kand (kcmp (op_eqK hu (K := X.K) rfl) (kv S 2) (kls kb_nil) (nomark _)) (kand (kcb S 3 call_isiK B.isinstance boot_isinstance (kb_cons (kv S 4) (kb_cons (kty S 9 B.tuple boot_tuple) kb_nil))) (kone (kcmp op_eq (kcb S 10 (call_lenK (K := X.K) rfl) B.len boot_len (kb_cons (kv S 4) kb_nil)) kint (nomark _))))))) ss_nil)
      (ss_cons (sif (wpt (wor (tcmp (op_neK hu (K := X.K) rfl) (kv S 2) (kop (op_catLK (K := X.K) rfl) (klc S hc hsc (irg1 S 12 B.range (kb_cons kint kb_nil)) (N := ["k", "due"]) (W := ["k"]) (G := []) (fv := [none, some 1]) (by decide +kernel) (fun cl C fp s H S2 => ⟨(kg S2 0), if_nil, (kcmp op_eq (kv S2 0) (kix (ix_listK (K := X.K) rfl) (kv S2 1) kint (fun _ _ => rfl)) (nomark _))⟩)) (kls (kb_cons kbl (kb_cons kbl kb_nil)))) (nomark _)) (wor1 (tval (kcb S 3 call_isiK B.isinstance boot_isinstance (kb_cons (kv S 3) (kb_cons (kty S 11 B.bool boot_bool) kb_nil))))))) (ss_one (sret kbl)) ss_nil)
      (ss_one (sret (kand (kcb S 3 call_isiK B.isinstance boot_isinstance (kb_cons (kv S 3) (kb_cons (kty S 13 B.int boot_int) kb_nil))) (kone (kcmp op_eq (kv S 3) (kix (ix_listK (K := X.K) rfl) (kv S 1) kint (fun _ _ => rfl)) (nomark _)))))))))))), ?_⟩
  walk_at "rs"
  rw [q_seq]
  walk_at "rs"
  refine ⟨by decide, fun k0 hk0 => ?_⟩
  generalize e0 : upd H k0 _ = H0
  obtain ⟨s0, m0⟩ := nw hk0 e0
  clear e0
  rw [q_seq]
  walk_at "rs"
  rw [q_seq]
  walk_at "rs"
  have hlt : ∀ e j, fst0 (rowsS z) = some (e, j) → e < 4 := fun e j h => (first_lt h).1
  refine seqJ (InvRt H z u (fst0 (rowsS z))) ?_ (fun R hR => ?_)
  rotate_left
  · refine tryM (fun σ' C d J => ∃ e j dx, fst0 (rowsS z) = some (e, j) ∧ σ' = [some (.str z), some (.ref u), some (.ref k0), some (.int 0), some .non, none] ∧ C = .ref (er (errN e)) ∧ d = some dx ∧ Same H0 J ∧ J dx = some (.xd [("line", .int (j : Int))])) (fun W hW => ?_) ?_
    · walk_at "rs"
      refine ⟨z, rfl, hz, hL, hx800, fun hn t a1 a2 a3 J sJ ht => ?_, fun e j hj dx J sJ hd => hW _ _ _ _ ⟨e, j, dx, hj, rfl, rfl, rfl, sJ, hd⟩⟩
      exact hR _ _ ⟨s0.trans sJ, k0, .inl ⟨t, a1, a2, a3, hn, rfl, sJ _ _ m0, ht⟩⟩
    rintro σ' C d J ⟨e, j, dx, hj, rfl, rfl, rfl, sJ, hd⟩
    refine ⟨errN e, errN_ok.1, rfl, errN_ok.2.2, fun a ha => ?_⟩
    have hx := (errN_ok (j := e)).1
    have hh := (errN_ok (j := e)).2.1
    have fin : ∀ (k : Addr) (J' : Hp), Same H0 J' → J' k = some (.lst ((kinds04 (errN e)).map V.bl)) → R [some (.str z), some (.ref u), some (.ref k), some (.int (j : Int)), some .non, none] J' := fun k J' s m => hR _ _ ⟨s0.trans s, k, .inr ⟨e, j, hj, rfl, m⟩⟩
    generalize errN e = x at hx hh fin ⊢
    generalize ej : upd J a _ = J0
    obtain ⟨sa, ma⟩ := nw ha ej
    clear ej
    have s00 := sJ.trans sa
    have hd0 := sa _ _ hd
    have isa : ∀ {J' : Hp}, Same J0 J' → J' a = some (errH a (er x) (some dx)) ∧ ErrV J' (some dx) := fun s => ⟨s _ _ ma, _, s _ _ hd0⟩
    walk_at "rs"
    rw [q_seq]
    walk_at "rs"
    have i0 := isa (Same.refl J0)
    refine ⟨a, x, some dx, rfl, hx, i0.1, i0.2, a, x, some dx, rfl, hx, i0.1, i0.2, a, x, some dx, rfl, hx, i0.1, i0.2, a, x, some dx, rfl, hx, i0.1, i0.2, by decide, fun p1 hp1 => ?_⟩
    generalize e1 : upd J0 p1 _ = J1
    obtain ⟨s1, m1⟩ := nw hp1 e1
    clear e1
    try dsimp only
    rw [q_seq]
    walk_at "rs"
    have i1 := isa s1
    refine ⟨a, x, some dx, rfl, hx, i1.1, i1.2, a, x, some dx, rfl, hx, i1.1, i1.2, by decide, fun p2 hp2 => ?_⟩
    generalize e2 : upd J1 p2 _ = J2
    obtain ⟨s2, m2⟩ := nw hp2 e2
    clear e2
    refine to_catV (SqL.of (s2 _ _ m1)) (SqL.of m2) (by show 6 ≤ _; decide) fun p3 J3 s3 _ m3 => ?_
    try dsimp only
    walk_at "rs"
    have s03 := s1.trans (s2.trans s3)
    refine ⟨a, x, dx, _, rfl, hx, hh, s03 _ _ ma, s03 _ _ hd0, ?_⟩
    try dsimp only
    walk_at "rs"
    exact fin p3 J3 (s00.trans s03) m3
  rintro σ H1 ⟨s1, k, ⟨f, a1, a2, a3, hn, rfl, hk, hf⟩ | ⟨e, j, hj, rfl, hk⟩⟩
  · rw [hn] at hu0
    have hu1 := s1 _ _ hu0
    walk_at "rs"
    rw [q_seq]
    walk_at "rs"
    refine ⟨by decide, fun l hl => ?_⟩
    generalize e2 : upd H1 l _ = H2
    obtain ⟨s2, m2⟩ := nw hl e2
    clear e2
    refine ⟨_, _, .lst (SqL.of (s2 _ _ hu1)) .nil, .lst (SqL.of m2) .nil, by decide, by decide, ?_⟩
    rw [show PyData.eqv (.list []) (.list []) = true by decide]
    walk_at "rs"
    refine ⟨by decide, fun l2 hl2 => ?_⟩
    generalize e3 : upd H2 l2 _ = H3
    obtain ⟨s3, m3⟩ := nw hl2 e3
    clear e3
    have s23 := s2.trans s3
    refine ⟨_, _, .lst (SqL.of (s23 _ _ hk)) .nil, .lst (SqL.of m3) .nil, by decide, by decide, ?_⟩
    rw [show PyData.eqv (.list []) (.list []) = true by decide]
    walk_at "rs"
    refine to_isi (ty_tup (s23 _ _ hf)) rfl ?_
    walk_at "rs"
    refine to_len (.inr (SqT.of (s23 _ _ hf))) ?_
    walk_at "rs"
    exact q _ (s1.trans s23)
  · rw [hj] at hu0
    have hu1 : H1 u = some (.lst [.int (e : Int), .int (j : Int)]) := s1 _ _ hu0
    have he4 := hlt e j hj
    walk_at "rs"
    rw [q_seq]
    walk_at "rs"
    refine ⟨by decide, fun l hl => ?_⟩
    generalize e2 : upd H1 l _ = H2
    obtain ⟨s2, m2⟩ := nw hl e2
    clear e2
    refine ⟨_, _, .lst (SqL.of (s2 _ _ hu1)) (.cons (.int _) (.cons (.int _) .nil)), .lst (SqL.of m2) .nil, two_shaped _ _, by decide, ?_⟩
    rw [two_nil]
    walk_at "rs"
    rw [q_seq]
    walk_at "rs"
    have hu2 := s2 _ _ hu1
    refine ⟨4, rfl, by decide, by decide, lc1 itok_range (fun _ => true) (fun i => .bl (decide ((i : Int) = (e : Int)))) (by decide) ?_ ?_⟩
    · intro i J A B' hi hS hA _
      rw [Int.zero_add]
      walk_at "rs"
      refine to_ixL' (i := ((0 : Nat) : Int)) (SqL.of (hS _ _ hu2)) (atI_at rfl) ?_
      walk_at "rs"
      exact hA rfl _ (Same.refl _)
    intro acc H3 hn3 s3 hacc
    rw [fil_all] at hacc
    walk_at "rs"
    refine ⟨by decide, fun p4 hp4 => ?_⟩
    generalize e4 : upd H3 p4 _ = H4
    obtain ⟨s4, m4⟩ := nw hp4 e4
    clear e4
    refine to_catV (SqL.of (s4 _ _ hacc)) (SqL.of m4) (by show 6 ≤ _; decide) fun p5 H5 s5 _ m5 => ?_
    have m5 : H5 p5 = some (.lst ((due04 (e : Int)).map V.bl)) := m5
    rw [← kinds04_due he4] at m5
    have s25 := s2.trans (s3.trans (s4.trans s5))
    refine ⟨_, _, .lst (SqL.of (s25 _ _ hk)) (dt_bls _), .lst (SqL.of m5) (dt_bls _), bls_shaped _, bls_shaped _, ?_⟩
    rw [bls_eqv]
    walk_at "rs"
    refine to_isi (b := false) rfl (by decide +kernel) ?_
    walk_at "rs"
    refine to_isi rfl rfl ?_
    walk_at "rs"
    refine to_ixL' (i := ((1 : Nat) : Int)) (SqL.of (s25 _ _ hu1)) (atI_at rfl) ?_
    walk_at "rs"
    exact q _ (s1.trans s25)
end
section
variable {P : Program} {w : World} {K : PySem.W.Frag} {mg : Str → Option Value} {base : Heap} {er : Str → Addr}
/-! ### the law -/
theorem eqvAll_S : ∀ a b : List Str, PyData.eqvAll (a.map PyData.str) (b.map PyData.str) = decide (a = b)
  | [], [] => by simp [PyData.eqvAll]
  | [], _ :: _ => by simp [PyData.eqvAll]
  | _ :: _, [] => by simp [PyData.eqvAll]
  | n :: r, m :: q => by
    simp only [List.map_cons, PyData.eqvAll, PyData.eqv, eqvAll_S r q]
    by_cases h : n = m <;> simp [h]
theorem eqv_S (a b : List Str) : PyData.eqv (.list (a.map PyData.str)) (.list (b.map PyData.str)) = decide (a = b) := by simp only [PyData.eqv, eqvAll_S]
theorem rows_join {L : List Str} (h : ∀ x ∈ L, 10 ∉ cz x) (hn : L ≠ [Str.ofString ""]) : rowsS (Str.join ⟨#[10]⟩ L) = L := by
  have e0 : (Str.ofString "").length = 0 := by decide +kernel
  match L, h, hn with
  | [], _, _ => rfl
  | [x], h, hn =>
    unfold rowsS
    rw [if_neg (fun e => hn (by rw [show x = Str.ofString "" from e]))]
    exact split_join 10 (by simp) h
  | x :: y :: r, h, _ =>
    unfold rowsS
    rw [if_neg (fun e => by
      have h1 : (cz (Str.join ⟨#[10]⟩ (x :: y :: r))).length = 0 := by rw [← cz_length, e, e0]
      rw [cz_join2, List.length_append, List.length_append] at h1
      have : (cz (⟨#[10]⟩ : Str)).length = 1 := rfl
      omega)]
    exact split_join 10 (by simp) h
noncomputable def Inv04 (_ : Nat) (σ : L2.St) (H : Hp) : Prop := ∃ (s l : Addr) (L : List Str) (y2 y3 : Option V), σ = [some (.ref s), some (.ref l), y2, y3] ∧ LnsN H l L
noncomputable def InvD4 (H0 : Hp) (s l : Addr) (k : Nat) (L : List Str) (σ : L2.St) (H : Hp) : Prop := ∃ u : Addr, σ = [some (.ref s), some (.ref l), some (.int (k : Int)), some (.ref u)] ∧ Same H0 H ∧ H u = some (.lst (dueL (fst0 (rowsS (Str.join ⟨#[10]⟩ L)))))
theorem ds_law : DS (defScope s_law) ["script", "lines", "k", "due"] ["script"] ["_law_spoilt_text", "range", "_law_first", "_law_right"] := ds_of (by decide +kernel)
theorem ok_law (B : Bn mg) {f : Addr} {fd : FuncData} (FL : Fun K "law" "law" s_law f fd) (F_law_spoilt_text : Fn P w K mg base 4 "_law_spoilt_text" ["script"] (spText K)) (F_law_first : Fn P w K mg base 3 "_law_first" ["lines"] spFirst) (F_law_right : Fn P w K mg base 5 "_law_right" ["text", "due"] spRight04) : FnOk P w K mg base CX0 6 f fd ["script"] (spLaw K) := by
  refine FL.gq ds_law (fun vs H Q E h => ?_) ?_
  · obtain ⟨a, ns, rfl, _⟩ := h; rfl
  intro X S e1 e2 e3 e4 e5 hc hsc hxe hr hu H vs Q E h
  subst e1 e2 e3 e4 e5
  obtain ⟨a, ns, rfl, ha, hl, q⟩ := h
  refine ⟨_, (ss_cons (ssv S 1 (kff S 0 F_law_spoilt_text hr (kb_cons (kv S 0) kb_nil)))
      (ss_cons (sfor hxe hc (irg1 S 1 B.range (kb_cons kint kb_nil)) (kg S 2) (ss_cons (ssv S 3 (kff S 2 F_law_first hr (kb_cons (kv S 1) kb_nil)))
      (ss_cons (sif (tcmp (op_eqK hu (K := X.K) rfl) (kv S 1) (kls (kb_cons kstr kb_nil)) (nomark _)) (ss_one (ssv S 3 (kls kb_nil))) ss_nil)
      (ss_cons (sif (tnot (tval (kff S 3 F_law_right hr (kb_cons (kmb PySem.F.plainAttrs_str PySem.F.slot_str_join PySem.F.type_str_join (mt_str_join (K := X.K) rfl) (K := X.K) rfl kstr (kb_cons (kv S 1) kb_nil)) (kb_cons (kv S 3) kb_nil))))) (ss_one (sret kbl)) ss_nil)
      (ss_cons (sif (tcmp (op_eqK hu (K := X.K) rfl) (kv S 3) (kls kb_nil) (nomark _)) (ss_one (sret kbl)) ss_nil)
      (ss_one (sexpr (kmb PySem.F.plainAttrs_list PySem.F.slot_list_pop PySem.F.type_list_pop mt_popAt (K := X.K) rfl (kv S 1) (kb_cons (kix (ix_listK (K := X.K) rfl) (kv S 3) kint (fun _ _ => rfl)) kb_nil)))))))))
      (ss_one (sret kbl)))), ?_⟩
  have hsz : (1000002 : Nat) ≤ sizeLine := by decide
  rw [q_seq]
  walk_at "rs"
  refine ⟨a, ns, rfl, ha, fun l L H1 hL1 => ?_⟩
  try dsimp only
  rw [q_seq]
  walk_at "rs"
  refine forR 3 Inv04 rfl (by decide) ⟨a, l, L, _, _, rfl, hL1⟩ ?_ ?_
  · rintro k σ J hk ⟨s, l, L, y2, y3, rfl, hL⟩
    have h30 := hL.few
    have hA : LnsAt J l L := ⟨hL.at_, by omega, fun x hx => ⟨Nat.le_trans (hL.ok x hx).1 (by decide), fun c hc => ((hL.ok x hx).2 c hc).1⟩⟩
    walk_at "rs"
    rw [q_seq]
    walk_at "rs"
    refine ⟨l, L, rfl, hA, fun u J1 t1 mu => ?_⟩
    try dsimp only
    have hl1 := t1 _ _ hL.at_
    refine seqJ (InvD4 J s l k L) ?_ (fun R hR => ?_)
    rotate_left
    · walk_at "rs"
      refine ⟨by decide, fun p hp => ?_⟩
      generalize e2 : upd J1 p _ = J2
      obtain ⟨t2, m2⟩ := nw hp e2
      clear e2
      have m2 : J2 p = some (.lst ([Str.ofString ""].map V.str)) := m2
      refine ⟨_, _, .lst (SqL.of (t2 _ _ hl1)) (dt_strs L), .lst (SqL.of m2) (dt_strs [Str.ofString ""]), list_shaped fun x hx => (hA.ok x hx).2, by decide +kernel, ?_⟩
      rw [eqv_S]
      walk_at "rs"
      refine ite2 (fun c => ?_) (fun c => ?_)
      · refine ⟨by decide, fun u2 hu2 => ?_⟩
        refine hR _ _ ⟨u2, rfl, t1.trans (t2.trans (Same.new hu2 _)), ?_⟩
        rw [c, upd_same]; rfl
      · refine hR _ _ ⟨u, rfl, t1.trans t2, ?_⟩
        rw [rows_join (fun x hx z => ((hL.ok x hx).2 10 z).2 rfl) c]
        exact t2 _ _ mu
    rintro σ2 J2 ⟨u, rfl, t2, mu2⟩
    have hl2 := t2 _ _ hL.at_
    have hjl := join_len 10 L
    have hsl := sum_le 400 L fun x hx => (hL.ok x hx).1
    have h11 : L.length * 401 ≤ 40 * 401 := Nat.mul_le_mul_right _ (by omega)
    have hrow : (rowsS (Str.join ⟨#[10]⟩ L)).length ≤ 100 ∧ ∀ x ∈ rowsS (Str.join ⟨#[10]⟩ L), x.length ≤ 800 := by
      by_cases c : L = [Str.ofString ""]
      · rw [c]
        have e : rowsS (Str.join ⟨#[10]⟩ [Str.ofString ""]) = [] := rfl
        rw [e]
        exact ⟨by decide, fun x hx => nomatch hx⟩
      · rw [rows_join (fun x hx z => ((hL.ok x hx).2 10 z).2 rfl) c]
        exact ⟨by omega, fun x hx => (hA.ok x hx).1⟩
    have en : (Str.ofString "\n") = ⟨#[10]⟩ := by decide +kernel
    walk_at "rs"
    rw [q_seq]
    walk_at "rs"
    refine ⟨rfl, _, l, L, rfl, rfl, SqL.of hl2, ?_, ?_, ?_⟩
    · rw [show (Str.ofString "\n").length = 1 by decide +kernel]; omega
    · rw [en]; omega
    rw [en]
    refine ⟨_, u, rfl, by omega, hrow.1, hrow.2, mu2, fun J3 t3 => ?_⟩
    walk_at "rs"
    rw [q_seq]
    walk_at "rs"
    refine ⟨by decide, fun p hp => ?_⟩
    generalize e4 : upd J3 p _ = J4
    obtain ⟨t4, m4⟩ := nw hp e4
    clear e4
    have mu4 := (t3.trans t4) _ _ mu2
    have hl4 := (t2.trans (t3.trans t4)) _ _ hL.at_
    cases hf : fst0 (rowsS (Str.join ⟨#[10]⟩ L)) with
    | none =>
      rw [hf] at mu4
      refine ⟨_, _, .lst (SqL.of mu4) .nil, .lst (SqL.of m4) .nil, by decide, by decide, ?_⟩
      rw [show PyData.eqv (.list []) (.list []) = true by decide]
      walk_at "rs"
      exact q _
    | some ek =>
      obtain ⟨e, i⟩ := ek
      rw [hf] at mu4
      have mu4 : J4 u = some (.lst [.int (e : Int), .int (i : Int)]) := mu4
      refine ⟨_, _, .lst (SqL.of mu4) (.cons (.int _) (.cons (.int _) .nil)), .lst (SqL.of m4) .nil, two_shaped _ _, by decide, ?_⟩
      rw [two_nil]
      walk_at "rs"
      have hnot : L ≠ [Str.ofString ""] := fun c => by
        rw [c] at hf
        have e : fst0 (rowsS (Str.join ⟨#[10]⟩ [Str.ofString ""])) = none := rfl
        rw [e] at hf; cases hf
      rw [rows_join (fun x hx z => ((hL.ok x hx).2 10 z).2 rfl) hnot] at hf
      have hi : i < L.length := by have := (first_lt hf).2.2; omega
      refine ⟨.inl ⟨rfl, _, SqL.of hl4⟩, ?_⟩
      refine to_ixL' (i := ((1 : Nat) : Int)) (SqL.of mu4) (atI_at rfl) ?_
      have hi' : i < (L.map V.str).length := by rw [List.length_map]; exact hi
      refine ⟨l, _, _, i, _, rfl, rfl, hl4, by omega, by omega, seqIx hi', str_item hi, ?_⟩
      refine ⟨s, l, L.eraseIdx i, _, _, rfl, ⟨?_, ?_, fun x hx => hL.ok x (List.mem_of_mem_eraseIdx hx)⟩⟩
      · rw [upd_same, map_er]
      · exact Nat.le_trans (List.length_eraseIdx_le _ _) h30
  · rintro σ J ⟨s, l, L, y2, y3, rfl, hL⟩
    walk_at "rs"
    exact q _
end
theorem all_mk {l : PySem.W.OpenLaw} {w : World} {K : PySem.W.Frag} {h : Heap} {mg : Str → Option Value} {fa f0 f1 f2 f3 f4 f5 f6 f7 f8 f9 f10 f11 f12 f13 f14 f15 f16 f17 f18 f19 f20 f21 f22 : Addr} (X : K.In h) (G : h.Ns mainGlobals mg) (hfa : mg "law" = some (.ref fa))
    {od0 an0 od1 an1 od2 an2 od3 an3 od4 an4 od5 an5 od6 an6 od7 an7 od8 an8 od9 an9 od10 an10 od11 an11 od12 an12 od13 an13 od14 an14 od15 an15 od16 an16 od17 an17 od18 an18 od19 an19 od20 an20 od21 an21 od22 an22 : Option Addr} {sl0 sl1 sl2 sl3 sl4 sl5 sl6 sl7 sl8 sl9 sl10 sl11 sl12 sl13 sl14 sl15 sl16 sl17 sl18 sl19 sl20 sl21 sl22 : Array (Option Value)} {oc0 kV0 dc0 pm0 cd0 ct0 oc1 kV1 dc1 pm1 cd1 ct1 oc2 kV2 dc2 pm2 cd2 ct2 oc3 kV3 dc3 pm3 cd3 ct3 oc4 kV4 dc4 pm4 cd4 ct4 oc5 kV5 dc5 pm5 cd5 ct5 oc6 kV6 dc6 pm6 cd6 ct6 oc7 kV7 dc7 pm7 cd7 ct7 oc8 kV8 dc8 pm8 cd8 ct8 oc9 kV9 dc9 pm9 cd9 ct9 oc10 kV10 dc10 pm10 cd10 ct10 oc11 kV11 dc11 pm11 cd11 ct11 oc12 kV12 dc12 pm12 cd12 ct12 oc13 kV13 dc13 pm13 cd13 ct13 oc14 kV14 dc14 pm14 cd14 ct14 oc15 kV15 dc15 pm15 cd15 ct15 oc16 kV16 dc16 pm16 cd16 ct16 oc17 kV17 dc17 pm17 cd17 ct17 oc18 kV18 dc18 pm18 cd18 ct18 oc19 kV19 dc19 pm19 cd19 ct19 oc20 kV20 dc20 pm20 cd20 ct20 oc21 kV21 dc21 pm21 cd21 ct21 oc22 kV22 dc22 pm22 cd22 ct22 : Value}
    (a0 : PySem.W.nsIn K mainGlobals "is_name" = some (some (.ref f0))) (l0 : K.lookup f0 = some ⟨oc0, od0, .func (PySem.W.fnOf "is_name" "is_name" (defArgs s_is_name) (defBody s_is_name) (defScope s_is_name) .none kV0 dc0 pm0 an0 cd0 ct0), sl0⟩) (c0 : PySem.W.codeIn K cd0 "is_name" = true) (k0 : PySem.W.keepIn K (.ref f0) = true)
    (a1 : PySem.W.nsIn K mainGlobals "is_count" = some (some (.ref f1))) (l1 : K.lookup f1 = some ⟨oc1, od1, .func (PySem.W.fnOf "is_count" "is_count" (defArgs s_is_count) (defBody s_is_count) (defScope s_is_count) .none kV1 dc1 pm1 an1 cd1 ct1), sl1⟩) (c1 : PySem.W.codeIn K cd1 "is_count" = true) (k1 : PySem.W.keepIn K (.ref f1) = true)
    (a2 : PySem.W.nsIn K mainGlobals "is_hat_line" = some (some (.ref f2))) (l2 : K.lookup f2 = some ⟨oc2, od2, .func (PySem.W.fnOf "is_hat_line" "is_hat_line" (defArgs s_is_hat_line) (defBody s_is_hat_line) (defScope s_is_hat_line) .none kV2 dc2 pm2 an2 cd2 ct2), sl2⟩) (c2 : PySem.W.codeIn K cd2 "is_hat_line" = true) (k2 : PySem.W.keepIn K (.ref f2) = true)
    (a3 : PySem.W.nsIn K mainGlobals "is_sees_line" = some (some (.ref f3))) (l3 : K.lookup f3 = some ⟨oc3, od3, .func (PySem.W.fnOf "is_sees_line" "is_sees_line" (defArgs s_is_sees_line) (defBody s_is_sees_line) (defScope s_is_sees_line) .none kV3 dc3 pm3 an3 cd3 ct3), sl3⟩) (c3 : PySem.W.codeIn K cd3 "is_sees_line" = true) (k3 : PySem.W.keepIn K (.ref f3) = true)
    {T4 : Addr} {t4 : Tok} {o4 : Obj} {m4 : Nat} (a4 : PySem.W.nsIn K mainGlobals "read_line" = some (some (.ref f4))) (l4 : K.lookup f4 = some ⟨oc4, od4, .func (PySem.W.fnOf "read_line" "read_line" (defArgs s_read_line) (defBody s_read_line) (defScope s_read_line) (.ref T4) kV4 dc4 pm4 an4 cd4 ct4), sl4⟩) (c4 : PySem.W.codeIn K cd4 "read_line" = true) (k4 : PySem.W.keepIn K (.ref f4) = true) (lt4 : K.lookup T4 = some o4) (ld4 : o4.data = .seq #[.int 0 t4] m4)
    (a5 : PySem.W.nsIn K mainGlobals "add_hat" = some (some (.ref f5))) (l5 : K.lookup f5 = some ⟨oc5, od5, .func (PySem.W.fnOf "add_hat" "add_hat" (defArgs s_add_hat) (defBody s_add_hat) (defScope s_add_hat) .none kV5 dc5 pm5 an5 cd5 ct5), sl5⟩) (c5 : PySem.W.codeIn K cd5 "add_hat" = true) (k5 : PySem.W.keepIn K (.ref f5) = true)
    (a6 : PySem.W.nsIn K mainGlobals "add_sight" = some (some (.ref f6))) (l6 : K.lookup f6 = some ⟨oc6, od6, .func (PySem.W.fnOf "add_sight" "add_sight" (defArgs s_add_sight) (defBody s_add_sight) (defScope s_add_sight) .none kV6 dc6 pm6 an6 cd6 ct6), sl6⟩) (c6 : PySem.W.codeIn K cd6 "add_sight" = true) (k6 : PySem.W.keepIn K (.ref f6) = true)
    (a7 : PySem.W.nsIn K mainGlobals "rows_of" = some (some (.ref f7))) (l7 : K.lookup f7 = some ⟨oc7, od7, .func (PySem.W.fnOf "rows_of" "rows_of" (defArgs s_rows_of) (defBody s_rows_of) (defScope s_rows_of) .none kV7 dc7 pm7 an7 cd7 ct7), sl7⟩) (c7 : PySem.W.codeIn K cd7 "rows_of" = true) (k7 : PySem.W.keepIn K (.ref f7) = true)
    (a8 : PySem.W.nsIn K mainGlobals "read_book" = some (some (.ref f8))) (l8 : K.lookup f8 = some ⟨oc8, od8, .func (PySem.W.fnOf "read_book" "read_book" (defArgs s_read_book) (defBody s_read_book) (defScope s_read_book) .none kV8 dc8 pm8 an8 cd8 ct8), sl8⟩) (c8 : PySem.W.codeIn K cd8 "read_book" = true) (k8 : PySem.W.keepIn K (.ref f8) = true)
    (a9 : PySem.W.nsIn K mainGlobals "_law_draws" = some (some (.ref f9))) (l9 : K.lookup f9 = some ⟨oc9, od9, .func (PySem.W.fnOf "_law_draws" "_law_draws" (defArgs s_law_draws) (defBody s_law_draws) (defScope s_law_draws) .none kV9 dc9 pm9 an9 cd9 ct9), sl9⟩) (c9 : PySem.W.codeIn K cd9 "_law_draws" = true) (k9 : PySem.W.keepIn K (.ref f9) = true)
    (a10 : PySem.W.nsIn K mainGlobals "_law_cell_at" = some (some (.ref f10))) (l10 : K.lookup f10 = some ⟨oc10, od10, .func (PySem.W.fnOf "_law_cell_at" "_law_cell_at" (defArgs s_law_cell_at) (defBody s_law_cell_at) (defScope s_law_cell_at) .none kV10 dc10 pm10 an10 cd10 ct10), sl10⟩) (c10 : PySem.W.codeIn K cd10 "_law_cell_at" = true) (k10 : PySem.W.keepIn K (.ref f10) = true)
    (a11 : PySem.W.nsIn K mainGlobals "_law_fresh" = some (some (.ref f11))) (l11 : K.lookup f11 = some ⟨oc11, od11, .func (PySem.W.fnOf "_law_fresh" "_law_fresh" (defArgs s_law_fresh) (defBody s_law_fresh) (defScope s_law_fresh) .none kV11 dc11 pm11 an11 cd11 ct11), sl11⟩) (c11 : PySem.W.codeIn K cd11 "_law_fresh" = true) (k11 : PySem.W.keepIn K (.ref f11) = true)
    (a12 : PySem.W.nsIn K mainGlobals "_law_names" = some (some (.ref f12))) (l12 : K.lookup f12 = some ⟨oc12, od12, .func (PySem.W.fnOf "_law_names" "_law_names" (defArgs s_law_names) (defBody s_law_names) (defScope s_law_names) .none kV12 dc12 pm12 an12 cd12 ct12), sl12⟩) (c12 : PySem.W.codeIn K cd12 "_law_names" = true) (k12 : PySem.W.keepIn K (.ref f12) = true)
    (a13 : PySem.W.nsIn K mainGlobals "_law_count" = some (some (.ref f13))) (l13 : K.lookup f13 = some ⟨oc13, od13, .func (PySem.W.fnOf "_law_count" "_law_count" (defArgs s_law_count) (defBody s_law_count) (defScope s_law_count) .none kV13 dc13 pm13 an13 cd13 ct13), sl13⟩) (c13 : PySem.W.codeIn K cd13 "_law_count" = true) (k13 : PySem.W.keepIn K (.ref f13) = true)
    (a14 : PySem.W.nsIn K mainGlobals "_law_people" = some (some (.ref f14))) (l14 : K.lookup f14 = some ⟨oc14, od14, .func (PySem.W.fnOf "_law_people" "_law_people" (defArgs s_law_people) (defBody s_law_people) (defScope s_law_people) .none kV14 dc14 pm14 an14 cd14 ct14), sl14⟩) (c14 : PySem.W.codeIn K cd14 "_law_people" = true) (k14 : PySem.W.keepIn K (.ref f14) = true)
    (a15 : PySem.W.nsIn K mainGlobals "_law_mixed_lines" = some (some (.ref f15))) (l15 : K.lookup f15 = some ⟨oc15, od15, .func (PySem.W.fnOf "_law_mixed_lines" "_law_mixed_lines" (defArgs s_law_mixed_lines) (defBody s_law_mixed_lines) (defScope s_law_mixed_lines) .none kV15 dc15 pm15 an15 cd15 ct15), sl15⟩) (c15 : PySem.W.codeIn K cd15 "_law_mixed_lines" = true) (k15 : PySem.W.keepIn K (.ref f15) = true)
    (a16 : PySem.W.nsIn K mainGlobals "_law_made_of" = some (some (.ref f16))) (l16 : K.lookup f16 = some ⟨oc16, od16, .func (PySem.W.fnOf "_law_made_of" "_law_made_of" (defArgs s_law_made_of) (defBody s_law_made_of) (defScope s_law_made_of) .none kV16 dc16 pm16 an16 cd16 ct16), sl16⟩) (c16 : PySem.W.codeIn K cd16 "_law_made_of" = true) (k16 : PySem.W.keepIn K (.ref f16) = true)
    (a17 : PySem.W.nsIn K mainGlobals "_law_is_line" = some (some (.ref f17))) (l17 : K.lookup f17 = some ⟨oc17, od17, .func (PySem.W.fnOf "_law_is_line" "_law_is_line" (defArgs s_law_is_line) (defBody s_law_is_line) (defScope s_law_is_line) .none kV17 dc17 pm17 an17 cd17 ct17), sl17⟩) (c17 : PySem.W.codeIn K cd17 "_law_is_line" = true) (k17 : PySem.W.keepIn K (.ref f17) = true)
    (a18 : PySem.W.nsIn K mainGlobals "_law_first" = some (some (.ref f18))) (l18 : K.lookup f18 = some ⟨oc18, od18, .func (PySem.W.fnOf "_law_first" "_law_first" (defArgs s_law_first) (defBody s_law_first) (defScope s_law_first) .none kV18 dc18 pm18 an18 cd18 ct18), sl18⟩) (c18 : PySem.W.codeIn K cd18 "_law_first" = true) (k18 : PySem.W.keepIn K (.ref f18) = true)
    (a19 : PySem.W.nsIn K mainGlobals "_law_bad_line" = some (some (.ref f19))) (l19 : K.lookup f19 = some ⟨oc19, od19, .func (PySem.W.fnOf "_law_bad_line" "_law_bad_line" (defArgs s_law_bad_line) (defBody s_law_bad_line) (defScope s_law_bad_line) .none kV19 dc19 pm19 an19 cd19 ct19), sl19⟩) (c19 : PySem.W.codeIn K cd19 "_law_bad_line" = true) (k19 : PySem.W.keepIn K (.ref f19) = true)
    (a20 : PySem.W.nsIn K mainGlobals "_law_spoilt_text" = some (some (.ref f20))) (l20 : K.lookup f20 = some ⟨oc20, od20, .func (PySem.W.fnOf "_law_spoilt_text" "_law_spoilt_text" (defArgs s_law_spoilt_text) (defBody s_law_spoilt_text) (defScope s_law_spoilt_text) .none kV20 dc20 pm20 an20 cd20 ct20), sl20⟩) (c20 : PySem.W.codeIn K cd20 "_law_spoilt_text" = true) (k20 : PySem.W.keepIn K (.ref f20) = true)
    (a21 : PySem.W.nsIn K mainGlobals "_law_right" = some (some (.ref f21))) (l21 : K.lookup f21 = some ⟨oc21, od21, .func (PySem.W.fnOf "_law_right" "_law_right" (defArgs s_law_right) (defBody s_law_right) (defScope s_law_right) .none kV21 dc21 pm21 an21 cd21 ct21), sl21⟩) (c21 : PySem.W.codeIn K cd21 "_law_right" = true) (k21 : PySem.W.keepIn K (.ref f21) = true)
    (a22 : PySem.W.nsIn K mainGlobals "law" = some (some (.ref f22))) (l22 : K.lookup f22 = some ⟨oc22, od22, .func (PySem.W.fnOf "law" "law" (defArgs s_law) (defBody s_law) (defScope s_law) .none kV22 dc22 pm22 an22 cd22 ct22), sl22⟩) (c22 : PySem.W.codeIn K cd22 "law" = true) (k22 : PySem.W.keepIn K (.ref f22) = true)
    (z0 : PySem.W.nsIn K mainGlobals "range" = some none)
    (z1 : PySem.W.nsIn K mainGlobals "len" = some none)
    (z2 : PySem.W.nsIn K mainGlobals "all" = some none)
    (z3 : PySem.W.nsIn K mainGlobals "int" = some none)
    (z4 : PySem.W.nsIn K mainGlobals "str" = some none)
    (z5 : PySem.W.nsIn K mainGlobals "set" = some none)
    (z6 : PySem.W.nsIn K mainGlobals "tuple" = some none)
    (z7 : PySem.W.nsIn K mainGlobals "list" = some none)
    (z8 : PySem.W.nsIn K mainGlobals "isinstance" = some none)
    (z9 : PySem.W.nsIn K mainGlobals "bool" = some none)
    (z10 : PySem.W.nsIn K mainGlobals "sum" = some none)
    (z11 : PySem.W.nsIn K mainGlobals "max" = some none)
    (z12 : PySem.W.nsIn K mainGlobals "enumerate" = some none)
    (z13 : PySem.W.nsIn K mainGlobals "ValueError" = some none)
    {u0 : Tok} (q0 : PySem.W.nsIn K mainGlobals "LETTERS" = some (some (.str "abcdefghijklmnopqrstuvwxyz" u0)))
    {u1 : Tok} (q1 : PySem.W.nsIn K mainGlobals "FIGURES" = some (some (.str "0123456789" u1)))
    {u2 : Tok} (q2 : PySem.W.nsIn K mainGlobals "LONGEST_NAME" = some (some (.int 12 u2)))
    {u3 : Tok} (q3 : PySem.W.nsIn K mainGlobals "LONGEST_COUNT" = some (some (.int 30 u3)))
    {u4 : Tok} (q4 : PySem.W.nsIn K mainGlobals "MOST_PEOPLE" = some (some (.int 8 u4)))
    {er0 : Addr} {er1 : Addr} {er2 : Addr} {er3 : Addr} {er4 : Addr} {er5 : Addr}
    {mf0 : Addr} {md0 mn0 : Option Addr} {ms0 : Array (Option Value)} {mo0 mk0 me0 mp0 mc0 mt0 : Value} (ma0 : PySem.W.findIn K (.ref er0) "__init__" = some (some (.ref mf0))) (ml0 : K.lookup mf0 = some ⟨mo0, md0, .func (PySem.W.fnOf "__init__" "LineError.__init__" (defArgs s_LineError___init__) (defBody s_LineError___init__) (defScope s_LineError___init__) .none mk0 me0 mp0 mn0 mc0 mt0), ms0⟩) (mq0 : PySem.W.codeIn K mc0 "LineError.__init__" = true) (mw0 : PySem.W.keepIn K (.ref mf0) = true) (mi0 : PySem.W.isFn K (.ref mf0) = true)
    (ea0 : PySem.W.nsIn K mainGlobals "LineError" = some (some (.ref er0)))
    (ea1 : PySem.W.nsIn K mainGlobals "HatError" = some (some (.ref er1)))
    (ea2 : PySem.W.nsIn K mainGlobals "NoLine" = some (some (.ref er2)))
    (ea3 : PySem.W.nsIn K mainGlobals "Twice" = some (some (.ref er3)))
    (ea4 : PySem.W.nsIn K mainGlobals "Unknown" = some (some (.ref er4)))
    (ea5 : PySem.W.nsIn K mainGlobals "TooMany" = some (some (.ref er5)))
    (eok : errOk K ERN (fun x => if x = ("LineError" : Str) then er0 else if x = ("HatError" : Str) then er1 else if x = ("NoLine" : Str) then er2 else if x = ("Twice" : Str) then er3 else if x = ("Unknown" : Str) then er4 else if x = ("TooMany" : Str) then er5 else 0) = true)
    (iok : iniOk K ERN (fun x => if x = ("LineError" : Str) then er0 else if x = ("HatError" : Str) then er1 else if x = ("NoLine" : Str) then er2 else if x = ("Twice" : Str) then er3 else if x = ("Unknown" : Str) then er4 else if x = ("TooMany" : Str) then er5 else 0) = true)
    : ∃ fd : FuncData, (∀ (s : Shared) (v : Value), BindsTo s fd ⟨[v], []⟩ [("script", v)]) ∧ ∀ base : Heap, K.In base → base.Ns mainGlobals mg → FnOk l.prog w K mg base CX0 6 fa fd ["script"] (spLaw K) := by
  have e := hfa.symm.trans (PySem.W.mg_of X G a22)
  cases e
  have D_is_name : Def K mg "is_name" s_is_name := def_mk X G a0 l0 c0 k0
  have D_is_count : Def K mg "is_count" s_is_count := def_mk X G a1 l1 c1 k1
  have D_is_hat_line : Def K mg "is_hat_line" s_is_hat_line := def_mk X G a2 l2 c2 k2
  have D_is_sees_line : Def K mg "is_sees_line" s_is_sees_line := def_mk X G a3 l3 c3 k3
  have D_read_line : DefD K mg "read_line" s_read_line 0 := defd_mk X G a4 l4 c4 k4 lt4 ld4
  have D_add_hat : Def K mg "add_hat" s_add_hat := def_mk X G a5 l5 c5 k5
  have D_add_sight : Def K mg "add_sight" s_add_sight := def_mk X G a6 l6 c6 k6
  have D_rows_of : Def K mg "rows_of" s_rows_of := def_mk X G a7 l7 c7 k7
  have D_read_book : Def K mg "read_book" s_read_book := def_mk X G a8 l8 c8 k8
  have D_law_draws : Def K mg "_law_draws" s_law_draws := def_mk X G a9 l9 c9 k9
  have D_law_cell_at : Def K mg "_law_cell_at" s_law_cell_at := def_mk X G a10 l10 c10 k10
  have D_law_fresh : Def K mg "_law_fresh" s_law_fresh := def_mk X G a11 l11 c11 k11
  have D_law_names : Def K mg "_law_names" s_law_names := def_mk X G a12 l12 c12 k12
  have D_law_count : Def K mg "_law_count" s_law_count := def_mk X G a13 l13 c13 k13
  have D_law_people : Def K mg "_law_people" s_law_people := def_mk X G a14 l14 c14 k14
  have D_law_mixed_lines : Def K mg "_law_mixed_lines" s_law_mixed_lines := def_mk X G a15 l15 c15 k15
  have D_law_made_of : Def K mg "_law_made_of" s_law_made_of := def_mk X G a16 l16 c16 k16
  have D_law_is_line : Def K mg "_law_is_line" s_law_is_line := def_mk X G a17 l17 c17 k17
  have D_law_first : Def K mg "_law_first" s_law_first := def_mk X G a18 l18 c18 k18
  have D_law_bad_line : Def K mg "_law_bad_line" s_law_bad_line := def_mk X G a19 l19 c19 k19
  have D_law_spoilt_text : Def K mg "_law_spoilt_text" s_law_spoilt_text := def_mk X G a20 l20 c20 k20
  have D_law_right : Def K mg "_law_right" s_law_right := def_mk X G a21 l21 c21 k21
  have B : Bn mg := ⟨PySem.W.mg_none_of X G z0, PySem.W.mg_none_of X G z1, PySem.W.mg_none_of X G z2, PySem.W.mg_none_of X G z3, PySem.W.mg_none_of X G z4, PySem.W.mg_none_of X G z5, PySem.W.mg_none_of X G z6, PySem.W.mg_none_of X G z7, PySem.W.mg_none_of X G z8, PySem.W.mg_none_of X G z9, PySem.W.mg_none_of X G z10, PySem.W.mg_none_of X G z11, PySem.W.mg_none_of X G z12, PySem.W.mg_none_of X G z13⟩
  have D_LineError___init__ : MDef K ((fun x => if x = ("LineError" : Str) then er0 else if x = ("HatError" : Str) then er1 else if x = ("NoLine" : Str) then er2 else if x = ("Twice" : Str) then er3 else if x = ("Unknown" : Str) then er4 else if x = ("TooMany" : Str) then er5 else 0) "LineError") "__init__" "LineError.__init__" s_LineError___init__ := by rw [show (fun x => if x = ("LineError" : Str) then er0 else if x = ("HatError" : Str) then er1 else if x = ("NoLine" : Str) then er2 else if x = ("Twice" : Str) then er3 else if x = ("Unknown" : Str) then er4 else if x = ("TooMany" : Str) then er5 else 0) "LineError" = er0 from if_pos rfl]; exact mdef_mk ma0 ml0 mq0 mw0 mi0
  have ER := errT_of X G eok
  have IT := iniT_of iok
  have KC : Cs mg := ⟨⟨_, PySem.W.mg_of X G q0⟩, ⟨_, PySem.W.mg_of X G q1⟩, ⟨_, PySem.W.mg_of X G q2⟩, ⟨_, PySem.W.mg_of X G q3⟩, ⟨_, PySem.W.mg_of X G q4⟩⟩
  refine ⟨PySem.W.fnOf "law" "law" (defArgs s_law) (defBody s_law) (defScope s_law) .none kV22 dc22 pm22 an22 cd22 ct22, fun s v => .of_eq rfl, fun base _ _ => ?_⟩
  have FL := fun_mk (st := s_law) l22 c22 k22
  have F1 := ok_isname (P := l.prog) (w := w) (base := base) B KC D_is_name
  have F2 := ok_iscount (P := l.prog) (w := w) (base := base) B KC D_is_count
  have F3 := ok_ishat B D_is_hat_line F1 F2
  have F4 := ok_issees B D_is_sees_line F1
  have F0 := ok_ini (mg := mg) (P := l.prog) (w := w) (base := base) IT D_LineError___init__
  have F5 := ok_readR B ER IT D_read_line F0 F3 F4
  have A1 := ok_addhatR B KC ER IT D_add_hat F0
  have A2 := ok_addsightR B ER IT D_add_sight F0
  have A3 := ok_rows (P := l.prog) (w := w) (base := base) B D_rows_of
  have A4 := ok_bookR B D_read_book A3 F5 A1 A2
  have F6 := ok_drawsL (P := l.prog) (w := w) (base := base) B D_law_draws
  have F7 := ok_fresh (P := l.prog) (w := w) (base := base) B D_law_fresh
  have F8 := ok_names B D_law_names F6 F7
  have F9 := ok_count B D_law_count F6
  have F10 := ok_at (P := l.prog) (w := w) (base := base) B D_law_cell_at
  have P1 := ok_people B D_law_people F10 F8 F9 F6
  have P2 := ok_mixed (P := l.prog) (w := w) (base := base) B D_law_mixed_lines
  have W3 := ok_madeOf (P := l.prog) (w := w) (base := base) B D_law_made_of
  have W4 := ok_isline B D_law_is_line W3
  have W5 := ok_first B D_law_first W4
  have W6 := ok_bad B D_law_bad_line F9 F7
  have W7 := ok_text B D_law_spoilt_text P1 F6 F10 P2 W6
  have W8 := ok_right04 B ER IT D_law_right A4
  exact ok_law B FL W7 W5 W8
theorem walk {l : PySem.W.OpenLaw} {q : Program} {loose : List Str} {XP : (Str → Option Value) → Heap → Prop} {YP : World → Heap → Prop} {d : DefRec} {K : Params → PySem.W.Frag} (hn : l.most = some 63) (hdf : d.params.defaults = [])
    (hY : ∀ (w : World) (h : Heap), YP w h → (K w.params).In h)
    (F : ∀ (w : World) (mg : Str → Option Value) (fa : Addr) (h : Heap), (K w.params).In h → h.Ns mainGlobals mg → mg d.name = some (.ref fa) →
      ∃ fd : FuncData, (∀ (s : Shared) (u : Value), BindsTo s fd ⟨[u], []⟩ [("script", u)]) ∧ ∀ base : Heap, (K w.params).In base → base.Ns mainGlobals mg → FnOk l.prog w (K w.params) mg base CX0 6 fa fd ["script"] (spLaw (K w.params))) :
    PySem.W.WalkO q loose XP YP l.row.toRowW d [] (fun f vs => PySem.call f vs) :=
  L2.walk_of (n := 63) (k := 6) (x := "script") (CX := fun _ => CX0) (sp := fun w => spLaw (K w.params)) hn (by decide) hdf ⟨rfl, by decide, by decide⟩ hY F (fun _ _ a ns hl _ hS => ⟨a, ns, rfl, hS, hl, fun _ => rfl⟩) fun _ _ _ _ _ z => z
end K04
open PySem PySem.W PyProof.Rows
set_option maxRecDepth 100000 in
set_option maxHeartbeats 0 in
theorem PySem.Challenge.cw_hatsight_k04_first_fault_holds : PySem.Challenge.rw_hatsight_k04_first_fault.Holds := by
  w_on; o_law; k_head; (case hw => w_witness2)
  k_fill
  refine K04.walk (l := PySem.Challenge.rw_hatsight_k04_first_fault) rfl rfl (fun w h Y => PySem.W.kIn_of Y) ?F
  case F =>
    intro w mg fa h KX G hmg
    refine' K04.all_mk KX G hmg ?a0 ?l0 ?c0 ?k0 ?a1 ?l1 ?c1 ?k1 ?a2 ?l2 ?c2 ?k2 ?a3 ?l3 ?c3 ?k3 ?a4 ?l4 ?c4 ?k4 ?lt4 ?ld4 ?a5 ?l5 ?c5 ?k5 ?a6 ?l6 ?c6 ?k6 ?a7 ?l7 ?c7 ?k7 ?a8 ?l8 ?c8 ?k8 ?a9 ?l9 ?c9 ?k9 ?a10 ?l10 ?c10 ?k10 ?a11 ?l11 ?c11 ?k11 ?a12 ?l12 ?c12 ?k12 ?a13 ?l13 ?c13 ?k13 ?a14 ?l14 ?c14 ?k14 ?a15 ?l15 ?c15 ?k15 ?a16 ?l16 ?c16 ?k16 ?a17 ?l17 ?c17 ?k17 ?a18 ?l18 ?c18 ?k18 ?a19 ?l19 ?c19 ?k19 ?a20 ?l20 ?c20 ?k20 ?a21 ?l21 ?c21 ?k21 ?a22 ?l22 ?c22 ?k22 ?z0 ?z1 ?z2 ?z3 ?z4 ?z5 ?z6 ?z7 ?z8 ?z9 ?z10 ?z11 ?z12 ?z13 ?q0 ?q1 ?q2 ?q3 ?q4 ?ma0 ?ml0 ?mq0 ?mw0 ?mi0 ?ea0 ?ea1 ?ea2 ?ea3 ?ea4 ?ea5 ?eok ?iok
    (case a0 => k_is); (case l0 => k_is); (case c0 => k_is); (case k0 => k_is)
    (case a1 => k_is); (case l1 => k_is); (case c1 => k_is); (case k1 => k_is)
    (case a2 => k_is); (case l2 => k_is); (case c2 => k_is); (case k2 => k_is)
    (case a3 => k_is); (case l3 => k_is); (case c3 => k_is); (case k3 => k_is)
    (case a4 => k_is); (case l4 => k_is); (case c4 => k_is); (case k4 => k_is)
    (case lt4 => k_is); (case ld4 => rfl)
    (case a5 => k_is); (case l5 => k_is); (case c5 => k_is); (case k5 => k_is)
    (case a6 => k_is); (case l6 => k_is); (case c6 => k_is); (case k6 => k_is)
    (case a7 => k_is); (case l7 => k_is); (case c7 => k_is); (case k7 => k_is)
    (case a8 => k_is); (case l8 => k_is); (case c8 => k_is); (case k8 => k_is)
    (case a9 => k_is); (case l9 => k_is); (case c9 => k_is); (case k9 => k_is)
    (case a10 => k_is); (case l10 => k_is); (case c10 => k_is); (case k10 => k_is)
    (case a11 => k_is); (case l11 => k_is); (case c11 => k_is); (case k11 => k_is)
    (case a12 => k_is); (case l12 => k_is); (case c12 => k_is); (case k12 => k_is)
    (case a13 => k_is); (case l13 => k_is); (case c13 => k_is); (case k13 => k_is)
    (case a14 => k_is); (case l14 => k_is); (case c14 => k_is); (case k14 => k_is)
    (case a15 => k_is); (case l15 => k_is); (case c15 => k_is); (case k15 => k_is)
    (case a16 => k_is); (case l16 => k_is); (case c16 => k_is); (case k16 => k_is)
    (case a17 => k_is); (case l17 => k_is); (case c17 => k_is); (case k17 => k_is)
    (case a18 => k_is); (case l18 => k_is); (case c18 => k_is); (case k18 => k_is)
    (case a19 => k_is); (case l19 => k_is); (case c19 => k_is); (case k19 => k_is)
    (case a20 => k_is); (case l20 => k_is); (case c20 => k_is); (case k20 => k_is)
    (case a21 => k_is); (case l21 => k_is); (case c21 => k_is); (case k21 => k_is)
    (case a22 => k_is); (case l22 => k_is); (case c22 => k_is); (case k22 => k_is)
    (case q0 => k_is)
    (case q1 => k_is)
    (case q2 => k_is)
    (case q3 => k_is)
    (case q4 => k_is)
    (case ea0 => k_is)
    (case ea1 => k_is)
    (case ea2 => k_is)
    (case ea3 => k_is)
    (case ea4 => k_is)
    (case ea5 => k_is)
    (case ma0 => k_is); (case ml0 => k_is); (case mq0 => k_is); (case mw0 => k_is); (case mi0 => k_is)
    (case eok => kernel_rfl)
    (case iok => kernel_rfl)
    (case z0 => k_is)
    (case z1 => k_is)
    (case z2 => k_is)
    (case z3 => k_is)
    (case z4 => k_is)
    (case z5 => k_is)
    (case z6 => k_is)
    (case z7 => k_is)
    (case z8 => k_is)
    (case z9 => k_is)
    (case z10 => k_is)
    (case z11 => k_is)
    (case z12 => k_is)
    (case z13 => k_is)
