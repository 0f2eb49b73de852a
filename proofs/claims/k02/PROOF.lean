import PyProof.Rows.All
import Wide.All
import OpenK.AllK
import Wide.FinOn
import Lean
import PyProof.EqAt
import PyProof.EqKinds
import PyProof.TupleCall
import PySem.Challenge.RW_hatsight_k02_lines_refused
set_option Elab.async false
set_option linter.all false
set_option maxRecDepth 100000
namespace L2
open PySem PySem.Spec PyProof.Rows
abbrev Key := Sum Int Str
def keyIs : Key → Value → Bool
  | .inl k, v => Value.isInt k v
  | .inr x, v => Value.isStrOf x v
def keyH (w : World) : Key → Int
  | .inl k => hashInt k
  | .inr x => hashStr w x
theorem keyIs_shape : ∀ {k : Key} {v : Value}, keyIs k v = true → (∃ i t, k = Sum.inl i ∧ v = Value.int i t) ∨ (∃ x t, k = Sum.inr x ∧ v = Value.str x t)
  | .inl i, v, h => by
    obtain ⟨t, e⟩ := Value.isInt_shape (k := i) (v := v) h
    exact .inl ⟨i, t, rfl, e⟩
  | .inr x, v, h => by
    obtain ⟨t, e⟩ := Value.isStrOf_shape (x := x) (v := v) h
    exact .inr ⟨x, t, rfl, e⟩
theorem key_ll (a b : Int) : decide ((Sum.inl a : Key) = Sum.inl b) = (a == b) := by
  by_cases e : a = b
  · subst e; simp
  · have h : ¬ (Sum.inl a : Key) = Sum.inl b := fun q => e (Sum.inl.inj q)
    rw [decide_eq_false h]
    exact (beq_eq_false_iff_ne.mpr e).symm
theorem key_rr (a b : Str) : decide ((Sum.inr a : Key) = Sum.inr b) = decide (a = b) := by
  by_cases e : a = b
  · subst e; simp
  · have h : ¬ (Sum.inr a : Key) = Sum.inr b := fun q => e (Sum.inr.inj q)
    rw [decide_eq_false h, decide_eq_false e]
theorem key_lr (a : Int) (b : Str) : decide ((Sum.inl a : Key) = Sum.inr b) = false := decide_eq_false (fun q => nomatch q)
theorem key_rl (a : Str) (b : Int) : decide ((Sum.inr a : Key) = Sum.inl b) = false := decide_eq_false (fun q => nomatch q)
def mixKind (prog : Program) (w : World) : PySem.KeyKind prog w Key where
  is := keyIs
  hash := keyH w
  inj := fun v a b ha hb => by
    rcases keyIs_shape ha with ⟨i, t, rfl, rfl⟩ | ⟨x, t, rfl, rfl⟩
    · rcases keyIs_shape hb with ⟨j, u, rfl, e⟩ | ⟨y, u, rfl, e⟩
      · injection e with e1 _; rw [e1]
      · exact nomatch e
    · rcases keyIs_shape hb with ⟨j, u, rfl, e⟩ | ⟨y, u, rfl, e⟩
      · exact nomatch e
      · injection e with e1 _; rw [e1]
  byValue := fun k v h => by
    rcases keyIs_shape h with ⟨i, t, rfl, rfl⟩ | ⟨x, t, rfl, rfl⟩ <;> rfl
  pyHash := fun hv h => by
    rcases keyIs_shape hv with ⟨i, t, rfl, rfl⟩ | ⟨x, t, rfl, rfl⟩
    · exact wpAny_pyHash_int h
    · exact wpAny_pyHash_str h
  eqBool := fun hu hv h => by
    rcases keyIs_shape hu with ⟨i, t, rfl, rfl⟩ | ⟨x, t, rfl, rfl⟩
    · rcases keyIs_shape hv with ⟨j, u, rfl, rfl⟩ | ⟨y, u, rfl, rfl⟩
      · rw [key_ll] at h; exact wpAny_eqBool_int h
      · rw [key_lr] at h; exact SeqAt.EqAt.int_str i t y u _ _ _ _ h
    · rcases keyIs_shape hv with ⟨j, u, rfl, rfl⟩ | ⟨y, u, rfl, rfl⟩
      · rw [key_rl] at h; exact SeqAt.EqAt.str_int x t j u _ _ _ _ h
      · rw [key_rr] at h; exact wpAny_eqBool_str h
  «strs» := fun k x t v h => by
    rcases keyIs_shape h with ⟨i, u, rfl, e⟩ | ⟨y, u, rfl, e⟩
    · exact nomatch e
    · injection e with e1 _
      subst e1
      cases v <;> rfl
end L2
namespace L2
open PySem PySem.Spec PyProof.Rows
inductive V where
  | non | bl (b : Bool) | int (i : Int) | str (x : Str) | byt (b : Array UInt8) | flt (b : UInt64) | ref (a : Addr) | ty (n : String)
  deriving DecidableEq
def RelV : V → Value → Prop
  | .non, u => u = Value.none
  | .bl b, u => u = Value.bool b
  | .int i, u => ∃ t, u = Value.int i t
  | .str x, u => ∃ t, u = Value.str x t
  | .byt b, u => ∃ t, u = Value.bytes b t
  | .flt b, u => ∃ t, u = Value.float b t
  | .ref a, u => u = Value.ref a
  | .ty n, u => u = Value.type n
abbrev Vals : List V → List Value → Prop := Paired RelV
theorem Vals.length {xs : List V} {us : List Value} (r : Vals xs us) : xs.length = us.length := Paired.length r
theorem Vals.get : ∀ {xs : List V} {us : List Value} {i : Nat} {x : V}, Vals xs us → xs[i]? = some x → ∃ u, us[i]? = some u ∧ RelV x u
  | _, _, _, _, .nil, e => by simp at e
  | _, _, 0, _, .cons r _, e => by simp at e; subst e; exact ⟨_, rfl, r⟩
  | _, _, i + 1, x, .cons _ t, e => by
    obtain ⟨u, h1, h2⟩ := Vals.get (i := i) (x := x) t (by simpa using e)
    exact ⟨u, by simpa using h1, h2⟩
theorem Vals.set {x : V} {u : Value} (r : RelV x u) : ∀ {xs : List V} {us : List Value} (i : Nat), Vals xs us → Vals (xs.set i x) (us.set i u)
  | _, _, _, .nil => .nil
  | _, _, 0, .cons _ t => .cons r t
  | _, _, i + 1, .cons q t => .cons q (Vals.set r i t)
theorem Vals.append : ∀ {xs ys : List V} {us ws : List Value}, Vals xs us → Vals ys ws → Vals (xs ++ ys) (us ++ ws)
  | _, _, _, _, .nil, s => s
  | _, _, _, _, .cons r t, s => .cons r (Vals.append t s)
theorem Vals.take : ∀ {xs : List V} {us : List Value} (n : Nat), Vals xs us → Vals (xs.take n) (us.take n)
  | _, _, 0, _ => .nil
  | _, _, _ + 1, .nil => .nil
  | _, _, n + 1, .cons r t => .cons r (Vals.take n t)
theorem Vals.drop : ∀ {xs : List V} {us : List Value} (n : Nat), Vals xs us → Vals (xs.drop n) (us.drop n)
  | _, _, 0, r => r
  | _, _, _ + 1, .nil => .nil
  | _, _, n + 1, .cons _ t => Vals.drop n t
def RelO : Option V → Option Value → Prop
  | some v, some u => RelV v u
  | none, none => True
  | _, _ => False
def KV {κ : Type} : List (κ × V) → List (κ × Value) → Prop := Paired fun (p : κ × V) (q : κ × Value) => p.1 = q.1 ∧ RelV p.2 q.2
def kV : Key → V
  | .inl i => .int i
  | .inr x => .str x
inductive HO where
  /-- a list -/
  | lst (xs : List V)
  /-- a tuple (never changes) -/
  | tup (xs : List V)
  /-- a dict whose keys are ints and texts; one whose keys are tuples of ints and texts (the empty one is both) -/
  | dK (kvs : List (Key × V)) | dT (kvs : List (List Key × V))
  /-- a set of ints: its members, its size -/
  | set (S : Int → Bool) (n : Nat)
  /-- an instance of the class at C, its dict at dx, its attributes -/
  | ins (C dx : Addr) (fs : List (Str × V))
  /-- the dict of the instance at x -/
  | own (x : Addr)
  /-- the dict of an exception -/
  | xd (fs : List (Str × V))
  /-- a bound method, f of x -/
  | met (f x : Addr)
  /-- a range object lo, lo + 1, .. below hi -/
  | rng (lo hi : Int)
  /-- a thing that is known to the object (the script; a dict while a loop walks it): read, never written while it is so -/
  | frz (o : Obj) (u : HO)
  /-- a code object's table -/
  | tbl (ps : Array Value)
  /-- any other thing, by what is true of its one object (a def of one's own: SetO a S n := HO.ext fun h => ..) -/
  | ext (φ : Heap → Prop)
abbrev Hp := Addr → Option HO
def upd (H : Hp) (a : Addr) (o : HO) : Hp := fun b => if b = a then some o else H b
theorem upd_same {H : Hp} {a : Addr} {o : HO} : upd H a o a = some o := by unfold upd; rw [if_pos rfl]
theorem upd_ne {H : Hp} {a b : Addr} {o : HO} (h : b ≠ a) : upd H a o b = H b := by unfold upd; rw [if_neg h]
theorem upd_upd {H : Hp} {a : Addr} {o u : HO} : upd (upd H a o) a u = upd H a u := by
  funext b; unfold upd; split <;> rfl
theorem ne_of_none {H : Hp} {a b : Addr} {o : HO} (h : H a = some o) (h' : H b = none) : a ≠ b := by
  intro e; subst e; rw [h] at h'; cases h'
section
variable (P : Program) (w : World)
def ObjOk (H : Hp) (h : Heap) (a : Addr) : HO → Prop
  | .lst xs => xs.length ≤ sizeLine ∧ ∃ (its : List Value) (n : Nat), Vals xs its ∧ h.get? a = some { cls := .type "list", data := .seq its.toArray n }
  | .tup xs => xs.length ≤ sizeLine ∧ ∃ its : List Value, Vals xs its ∧ IsTup h a its.toArray
  | .dK kvs => kvs.length ≤ sizeLine ∧ (a == sysModules) = false ∧ ∃ vs, KV kvs vs ∧ h.DictOf (mixKind P w) a vs
  | .dT kvs => kvs.length ≤ sizeLine ∧ (a == sysModules) = false ∧ ∃ xs : List (List Key × Addr × Value),
      Paired (fun (p : List Key × V) (q : List Key × Addr × Value) => p.1 = q.1 ∧ H q.2.1 = some (.tup (p.1.map kV)) ∧ RelV p.2 q.2.2) kvs xs ∧
      ∃ o es ep, h.get? a = some o ∧ o.ExactDict ∧ o.data = .dict es ep ∧ es.toList = xs.map (entryOfKey (tupleKind (mixKind P w))) ∧ (xs.map (·.1)).Nodup
  | .set S n => h.SetOf (intKind P w) a S n
  | .ins C dx fs => H dx = some (.own a) ∧ fs.length ≤ 1000 ∧ dx ≠ a ∧ h.get? a = some (PySem.W.instObj C dx) ∧
      ∃ mA, h.Ns1 dx mA ∧ (∀ f, RelO (fs.lookup f) (mA f)) ∧ PySem.Within mA (fs.map (·.1))
  | .own _ => ∃ o, h.get? a = some o
  | .xd fs => ∃ mA, h.Ns1 a mA ∧ ∀ f, RelO (fs.lookup f) (mA f)
  | .rng lo hi => ∃ t u v, h.get? a = some { cls := .type "range", data := .fields #[.int lo t, .int hi u, .int 1 v] }
  | .frz o u => h.get? a = some o ∧ ObjOk H h a u
  | .tbl ps => h.get? a = some { cls := .none, data := .fields ps }
  | .met f x => h.get? a = some (PySem.W.methodObj (.ref f) (.ref x))
  | .ext φ => φ h ∧ (∃ o, h.get? a = some o) ∧ ∀ h1 h2 : Heap, φ h1 → (∀ o, h1.get? a = some o → h2.get? a = some o) → φ h2
def HOk (H : Hp) (h : Heap) : Prop := ∀ a o, H a = some o → ObjOk P w H h a o
end
section
variable {P : Program} {w : World} {H H' : Hp} {h h' : Heap} {a : Addr} {o : HO}
theorem ObjOk.lt (x : ObjOk P w H h a o) : a < h.objs.size := by
  cases o with
  | lst xs => obtain ⟨_, _, _, _, e⟩ := x; exact Heap.lt_size e
  | tup xs => obtain ⟨_, _, _, p⟩ := x; exact p.lt
  | dK kvs => obtain ⟨_, _, _, _, o, _, _, e, _⟩ := x; exact Heap.lt_size e
  | dT kvs => obtain ⟨_, _, _, _, o, _, _, e, _⟩ := x; exact Heap.lt_size e
  | set S n => obtain ⟨o, _, _, _, e, _⟩ := x; exact Heap.lt_size e
  | ins C dx fs => obtain ⟨_, _, _, e, _⟩ := x; exact Heap.lt_size e
  | own y => obtain ⟨_, e⟩ := x; exact Heap.lt_size e
  | xd fs => obtain ⟨_, ⟨_, _, _, e, _⟩, _⟩ := x; exact Heap.lt_size e
  | rng lo hi => obtain ⟨_, _, _, e⟩ := x; exact Heap.lt_size e
  | frz ob u => obtain ⟨e, _⟩ := x; exact Heap.lt_size e
  | tbl ps => exact Heap.lt_size (show h.get? a = some _ from x)
  | met f y => exact Heap.lt_size (show h.get? a = some _ from x)
  | ext φ => obtain ⟨_, ⟨_, e⟩, _⟩ := x; exact Heap.lt_size e
theorem Paired.mapP {α β : Type} {F G : α → β → Prop} : ∀ {l₁ : List α} {l₂ : List β}, Paired F l₁ l₂ → (∀ a b, F a b → G a b) → Paired G l₁ l₂
  | _, _, .nil, _ => .nil
  | _, _, .cons r t, f => .cons (f _ _ r) (Paired.mapP t f)
theorem ObjOk.stay (x : ObjOk P w H h a o) (k : ∀ b u, (b = a ∨ H b = some (.own a)) → h.get? b = some u → h'.get? b = some u)
    (ho : ∀ b, H b = some (.own a) → H' b = some (.own a)) (ht : ∀ b xs, H b = some (.tup xs) → H' b = some (.tup xs)) : ObjOk P w H' h' a o := by
  induction o with
  | lst xs => obtain ⟨z, its, n, r, e⟩ := x; exact ⟨z, its, n, r, k _ _ (.inl rfl) e⟩
  | tup xs => obtain ⟨z, its, r, ob, e, c⟩ := x; exact ⟨z, its, r, ob, k _ _ (.inl rfl) e, c⟩
  | dK kvs => obtain ⟨z, y, vs, r, ob, es, ep, e, c⟩ := x; exact ⟨z, y, vs, r, ob, es, ep, k _ _ (.inl rfl) e, c⟩
  | dT kvs =>
    obtain ⟨z, y, xs, r, ob, es, ep, e, c⟩ := x
    exact ⟨z, y, xs, Paired.mapP r fun p q z => ⟨z.1, ht _ _ z.2.1, z.2.2⟩, ob, es, ep, k _ _ (.inl rfl) e, c⟩
  | set S n => obtain ⟨ob, es, ep, t, e, c⟩ := x; exact ⟨ob, es, ep, t, k _ _ (.inl rfl) e, c⟩
  | ins C dx fs =>
    obtain ⟨d, z, ne, e, mA, ⟨od, es, ep, e2, c⟩, r⟩ := x
    exact ⟨ho _ d, z, ne, k _ _ (.inl rfl) e, mA, ⟨od, es, ep, k _ _ (.inr d) e2, c⟩, r⟩
  | own y => obtain ⟨ob, e⟩ := x; exact ⟨ob, k _ _ (.inl rfl) e⟩
  | xd fs => obtain ⟨mA, ⟨od, es, ep, e, c⟩, r⟩ := x; exact ⟨mA, ⟨od, es, ep, k _ _ (.inl rfl) e, c⟩, r⟩
  | rng lo hi => obtain ⟨t, u, v, e⟩ := x; exact ⟨t, u, v, k _ _ (.inl rfl) e⟩
  | frz ob u ih => obtain ⟨e, q⟩ := x; exact ⟨k _ _ (.inl rfl) e, ih q⟩
  | tbl ps =>
    have e : h.get? a = some { cls := .none, data := .fields ps } := x
    show h'.get? a = some { cls := .none, data := .fields ps }
    exact k a _ (.inl rfl) e
  | met f y =>
    have e : h.get? a = some (PySem.W.methodObj (.ref f) (.ref y)) := x
    show h'.get? a = some (PySem.W.methodObj (.ref f) (.ref y))
    exact k a _ (.inl rfl) e
  | ext φ => obtain ⟨p, ⟨o, e⟩, st⟩ := x; exact ⟨st _ _ p fun o q => k _ _ (.inl rfl) q, ⟨o, k _ _ (.inl rfl) e⟩, st⟩
theorem HOk.lt (x : HOk P w H h) (e : H a = some o) : a < h.objs.size := (x a o e).lt
theorem HOk.fresh (x : HOk P w H h) (e : h.objs.size ≤ a) : H a = none := by
  cases q : H a with
  | none => rfl
  | some u => exact absurd (Nat.lt_of_lt_of_le (x.lt q) e) (Nat.lt_irrefl _)
theorem HOk.kept (x : HOk P w H h) (k : ∀ b u, h.get? b = some u → h'.get? b = some u) : HOk P w H h' := fun a o e =>
  (x a o e).stay (fun b u _ q => k b u q) (fun _ q => q) fun _ _ q => q
theorem HOk.laid (x : HOk P w H h) (k : ∀ b u, h.get? b = some u → h'.get? b = some u) (hp : h.objs.size ≤ a) (new : ObjOk P w (upd H a o) h' a o) : HOk P w (upd H a o) h' := fun b u e => by
  have hn := x.fresh hp
  by_cases hb : b = a
  · subst hb; rw [upd_same] at e; cases e; exact new
  · rw [upd_ne hb] at e
    exact (x b u e).stay (fun c v _ q => k c v q) (fun c q => by rw [upd_ne (ne_of_none q hn)]; exact q) fun c xs q => by rw [upd_ne (ne_of_none q hn)]; exact q
end
def Rd (H : Hp) (a : Addr) (u : HO) : Prop := H a = some u ∨ ∃ o, H a = some (.frz o u)
theorem Rd.ok {P : Program} {w : World} {H : Hp} {h : Heap} {a : Addr} {u : HO} (r : Rd H a u) (x : HOk P w H h) : ObjOk P w H h a u := by
  rcases r with r | ⟨o, r⟩
  · exact x a u r
  · obtain ⟨_, q⟩ := x a _ r
    exact q
def Mut : Option HO → Prop
  | some (.lst _) => True
  | some (.dK _) => True
  | some (.dT _) => True
  | some (.set _ _) => True
  | some (.ins _ _ _) => True
  | some (.ext _) => True
  | _ => False
section
variable {P : Program} {w : World} {H : Hp} {h h' : Heap} {x e : Addr} {o' : HO}
theorem HOk.write (ok : HOk P w H h) (mu : Mut (H x)) (he : e = x ∨ H e = some (.own x)) (k : ∀ b u, b ≠ e → h.get? b = some u → h'.get? b = some u) (heo : ∃ u, h'.get? e = some u)
    (new : ObjOk P w (upd H x o') h' x o') : HOk P w (upd H x o') h' := fun b u q => by
  have nown : ∀ c y, H c = some (.own y) → c ≠ x := fun c y r z => by subst z; rw [r] at mu; exact mu
  have ntup : ∀ c xs, H c = some (.tup xs) → c ≠ x := fun c xs r z => by subst z; rw [r] at mu; exact mu
  by_cases hb : b = x
  · subst hb; rw [upd_same] at q; cases q; exact new
  · rw [upd_ne hb] at q
    by_cases hbe : b = e
    · have q' : H b = some (.own x) := by
        rcases he with z | z
        · exact absurd (hbe.trans z) hb
        · rw [hbe]; exact z
      rw [q] at q'; cases q'
      obtain ⟨v, hv⟩ := heo
      exact ⟨v, by rw [hbe]; exact hv⟩
    · refine (ok b u q).stay (fun c v hc r => k c v ?_ r) (fun c r => by rw [upd_ne (nown c b r)]; exact r) fun c xs r => by rw [upd_ne (ntup c xs r)]; exact r
      rcases hc with rfl | hc
      · exact hbe
      · rintro rfl
        rcases he with z | z
        · exact nown c b hc z
        · rw [hc] at z; cases z; exact hb rfl
end
structure Un (fs ex : List Addr) (H H' : Hp) (h h' : Heap) : Prop where
  keep : ∀ b o, h.get? b = some o → H b = none → b ∉ fs → b ∉ ex → h'.get? b = some o
  slot : ∀ b o, h.get? b = some o → H b = none → b ∈ fs → b ∉ ex → ∃ sl, h'.get? b = some { o with slots := sl }
  free : ∀ b o, h.get? b = some o → H b = none → b ∉ ex → H' b = none
  there : ∀ b o, h.get? b = some o → b ∉ ex → ∃ o', h'.get? b = some o'
  tups : ∀ b xs, H b = some (.tup xs) → H' b = some (.tup xs)
  frzs : ∀ b o u, H b = some (.frz o u) → H' b = some (.frz o u)
  tbls : ∀ b ps, H b = some (.tbl ps) → ∃ more, H' b = some (.tbl (ps ++ more))
section
variable {fs fs' ex ex' : List Addr} {H H1 H2 : Hp} {h h1 h2 h' : Heap} {a x e : Addr} {o : HO}
theorem Un.any (u : Un fs ex H H1 h h1) {b : Addr} {ob : Obj} (q : h.get? b = some ob) (n : H b = none) (hx : b ∉ ex) : ∃ sl, h1.get? b = some { ob with slots := sl } := by
  by_cases hb : b ∈ fs
  · exact u.slot b ob q n hb hx
  · exact ⟨ob.slots, u.keep b ob q n hb hx⟩
theorem Un.trans (a : Un fs ex H H1 h h1) (b : Un fs ex H1 H2 h1 h2) : Un fs ex H H2 h h2 where
  keep := fun c ob q n hc hx => b.keep c ob (a.keep c ob q n hc hx) (a.free c ob q n hx) hc hx
  slot := fun c ob q n hc hx => by
    obtain ⟨sl, e1⟩ := a.slot c ob q n hc hx
    obtain ⟨sl', e2⟩ := b.slot c _ e1 (a.free c ob q n hx) hc hx
    exact ⟨sl', e2⟩
  free := fun c ob q n hx => by
    obtain ⟨o', e1⟩ := a.there c ob q hx
    exact b.free c o' e1 (a.free c ob q n hx) hx
  there := fun c ob q hx => by
    obtain ⟨o', e1⟩ := a.there c ob q hx
    exact b.there c o' e1 hx
  tups := fun c xs q => b.tups c xs (a.tups c xs q)
  frzs := fun c ob xs q => b.frzs c ob xs (a.frzs c ob xs q)
  tbls := fun c ps q => by
    obtain ⟨m1, e1⟩ := a.tbls c ps q
    obtain ⟨m2, e2⟩ := b.tbls c _ e1
    exact ⟨m1 ++ m2, by rw [e2, Array.append_assoc]⟩
theorem Un.kept (k : ∀ b u, h.get? b = some u → h'.get? b = some u) : Un fs ex H H h h' :=
  ⟨fun b ob q _ _ _ => k b ob q, fun b ob q _ _ _ => ⟨ob.slots, k b ob q⟩, fun _ _ _ n _ => n, fun b ob q _ => ⟨ob, k b ob q⟩, fun _ _ q => q, fun _ _ _ q => q, fun _ ps q => ⟨#[], by rw [q]; simp⟩⟩
theorem Un.refl : Un fs ex H H h h := Un.kept fun _ _ q => q
theorem Un.laid (k : ∀ b u, h.get? b = some u → h'.get? b = some u) (hp : h.objs.size ≤ a) (hn : H a = none) : Un fs ex H (upd H a o) h h' where
  keep := fun b u q _ _ _ => k b u q
  slot := fun b u q _ _ _ => ⟨u.slots, k b u q⟩
  free := fun b u q n _ => by rw [upd_ne (Nat.ne_of_lt (Nat.lt_of_lt_of_le (Heap.lt_size q) hp))]; exact n
  there := fun b u q _ => ⟨u, k b u q⟩
  tups := fun b xs q => by rw [upd_ne (ne_of_none q hn)]; exact q
  frzs := fun b u xs q => by rw [upd_ne (ne_of_none q hn)]; exact q
  tbls := fun b ps q => ⟨#[], by rw [upd_ne (ne_of_none q hn), q]; simp⟩
theorem Un.write (mu : Mut (H x)) (he : e = x ∨ H e = some (.own x)) (k : ∀ b u, b ≠ e → h.get? b = some u → h'.get? b = some u) (heo : ∃ u, h'.get? e = some u) : Un fs ex H (upd H x o) h h' := by
  have hx : ∀ b, H b = none → b ≠ x := fun b n z => by subst z; rw [n] at mu; exact mu
  have hb : ∀ b, H b = none → b ≠ e := fun b n z => by
    subst z
    rcases he with r | r
    · exact hx b n r
    · rw [n] at r; cases r
  have hm : ∀ b u, H b = some u → ¬ Mut (some u) → b ≠ x := fun b u q nm z => by subst z; rw [q] at mu; exact nm mu
  refine ⟨fun b u q n _ _ => k b u (hb b n) q, fun b u q n _ _ => ⟨u.slots, k b u (hb b n) q⟩, fun b u q n _ => by rw [upd_ne (hx b n)]; exact n, fun b u q _ => ?_,
    fun b xs q => by rw [upd_ne (hm b _ q fun z => z)]; exact q, fun b u xs q => by rw [upd_ne (hm b _ q fun z => z)]; exact q, fun b ps q => ⟨#[], by rw [upd_ne (hm b _ q fun z => z), q]; simp⟩⟩
  by_cases hbe : b = e
  · subst hbe; exact heo
  · exact ⟨u, k b u hbe q⟩
end
def trk (h : Heap) (H : Hp) : List Addr := (List.range h.objs.size).filter fun a => (H a).isSome
def hidT (h : Heap) (H : Hp) : Heap := PySem.W.hideAll h (trk h H)
theorem hidT_size (h : Heap) (H : Hp) : (hidT h H).objs.size = h.objs.size := PySem.W.hideAll_size _ _
theorem hidT_get {h : Heap} {H : Hp} {b : Addr} {o : Obj} (e : h.get? b = some o) (n : H b = none) : (hidT h H).get? b = some o :=
  PySem.W.hideAll_get _ e fun hm => by
    have q : (H b).isSome = true := (List.mem_filter.mp hm).2
    rw [n] at q; simp at q
theorem of_hidT {h : Heap} {H : Hp} {b : Addr} {o : Obj} (e : (hidT h H).get? b = some o) : h.get? b = some o ∧ H b = none := by
  have e' : h.get? b = some o := PySem.W.of_hideAll (trk h H) e
  refine ⟨e', ?_⟩
  cases q : H b with
  | none => rfl
  | some x =>
    have hm : b ∈ trk h H := List.mem_filter.mpr ⟨List.mem_range.mpr (Heap.lt_size e'), by simp [q]⟩
    have z : (hidT h H).get? b = none := PySem.W.hideAll_none (trk h H) hm
    rw [z] at e; cases e
end L2
namespace L2
open PySem PySem.Spec PyProof.Rows
structure Mod (K : PySem.W.Frag) (mg : Str → Option Value) (base : Heap) : Prop where
  kin : K.In base
  glob : base.Ns mainGlobals mg
  blt : ∃ mb, base.Ns builtinsNs mb ∧ ∀ x : Str, x ≠ "__name__" → mb x = bootBuiltins x
  nolimit : base.NoLimit
structure Cx where
  prog : Program
  w : World
  K : PySem.W.Frag
  mg : Str → Option Value
  base : Heap
  A : Around
  N : List Str
  s₀ : Shared
  H₀ : Hp
  env : Env
  outer : List Env
  stack : List Env
  ex : List Addr
  fn : Str → Bool
  calm : Bool
  pn : List (Addr × Obj)
  xe : Value → Shared → Prop
def frs (l : List Env) : List Addr := l.filterMap (·.frame)
abbrev Cx.fs (X : Cx) : List Addr := frs X.outer
def Vis (sc : Scope) (x : Str) : Prop := sc.names.lookup x = some .local ∨ sc.names.lookup x = some .cell ∨ sc.names.lookup x = some .free
def Loc (sc : Scope) (x : Str) : Prop := sc.names.lookup x = some .local ∨ sc.names.lookup x = some .cell
def Look (env : Env) (h : Heap) (m : Str → Option Value) (x : Str) (u : Value) : Prop :=
  (env.kindOf x = some .local ∧ m x = some u) ∨ ((env.kindOf x = some .cell ∨ env.kindOf x = some .free) ∧ ∃ c, env.cells.lookup x = some c ∧ h.IsCell c (some u))
structure Cx.Ok (X : Cx) : Prop where
  mod : Mod X.K X.mg X.base
  kind : X.env.scope.kind = .function
  glob : X.env.globals = mainGlobals
  blt : X.env.builtins = builtinsNs
  above : X.s₀.heap.objs.size ≤ X.env.locals
  inj : ∀ x y c, X.env.cells.lookup x = some c → X.env.cells.lookup y = some c → x = y
  has : ∀ x, (X.env.kindOf x = some .cell ∨ X.env.kindOf x = some .free) → ∃ c, X.env.cells.lookup x = some c
  cab : ∀ x c, X.fn x = true → X.env.cells.lookup x = some c → X.s₀.heap.objs.size ≤ c
  hd : X.calm = true → X.A.handled = none
  frames : X.A.frames = some X.stack
  stk : X.stack = X.outer ∨ (X.stack = X.env :: X.outer ∧ X.env.frame = some X.env.locals)
  exf : ∀ b ∈ X.ex, b ≠ X.env.locals ∧ ∀ x c, X.env.cells.lookup x = some c → c ≠ b
  bs : ∀ b o, X.base.get? b = some o → X.s₀.heap.get? b = some o ∧ X.H₀ b = none
  bsz : X.base.objs.size ≤ X.s₀.heap.objs.size
  noex : ∀ b o, X.base.get? b = some o → b ∉ X.ex
  exfs : ∀ b ∈ X.ex, b ∉ X.fs
  funs : X.s₀.heap.FunFrames X.base X.outer
  frf : ∀ b ∈ X.fs, X.H₀ b = none
structure Inv (X : Cx) (pins : List (Addr × Obj)) (σ : List (Option V)) (H : Hp) (s : Shared) : Prop where
  ok : X.Ok
  os : s.os = X.s₀.os
  bare : AllBare s.gens
  base : Un X.fs X.ex X.H₀ H X.s₀.heap s.heap
  loc : ∃ m, s.heap.Ns X.env.locals m ∧ ∀ (i : Nat) (x : Str) (v : V), X.N[i]? = some x → σ[i]? = some (some v) → Vis X.env.scope x → ∃ u, RelV v u ∧ Look X.env s.heap m x u
  cell : ∀ x c, X.env.cells.lookup x = some c → ∃ v, s.heap.IsCell c v
  free : H X.env.locals = none
  freeC : ∀ x c, X.env.cells.lookup x = some c → H c = none
  pin : ∀ p ∈ X.pn ++ pins, s.heap.get? p.1 = some p.2 ∧ H p.1 = none ∧ p.1 ≠ X.env.locals ∧ p.1 ∉ X.fs ∧ ∀ v, p.2.data ≠ .cell v
  hok : HOk X.prog X.w H s.heap
  len : σ.length = X.N.length
section
variable {X : Cx} {pins : List (Addr × Obj)} {σ : List (Option V)} {H H' : Hp} {s : Shared} {h' : Heap}
theorem Cx.Ok.nofr (ok : X.Ok) {b : Addr} {o : Obj} (e : X.base.get? b = some o) : b ∉ X.fs := fun hb => by
  have := (ok.funs.mem hb).1
  rw [e] at this; cases this
theorem Inv.bs (I : Inv X pins σ H s) : ∀ b o, X.base.get? b = some o → s.heap.get? b = some o ∧ H b = none := fun b o e =>
  ⟨I.base.keep b o (I.ok.bs b o e).1 (I.ok.bs b o e).2 (I.ok.nofr e) (I.ok.noex b o e), I.base.free b o (I.ok.bs b o e).1 (I.ok.bs b o e).2 (I.ok.noex b o e)⟩
theorem Inv.bk (I : Inv X pins σ H s) : ∀ b o, X.base.get? b = some o → s.heap.get? b = some o := fun b o e => (I.bs b o e).1
theorem Inv.mod (I : Inv X pins σ H s) : Mod X.K X.mg X.base := I.ok.mod
theorem Inv.kIn (I : Inv X pins σ H s) : X.K.In s.heap := I.ok.mod.kin.keeps I.bk
theorem Inv.lt (I : Inv X pins σ H s) : X.env.locals < s.heap.objs.size := let ⟨_, hn, _⟩ := I.loc; hn.lt
theorem Inv.sz (I : Inv X pins σ H s) : X.s₀.heap.objs.size ≤ s.heap.objs.size := Nat.le_trans I.ok.above (Nat.le_of_lt I.lt)
theorem Inv.nofs (I : Inv X pins σ H s) {a : Addr} (h : s.heap.objs.size ≤ a) : a ∉ X.fs := fun hb => by
  obtain ⟨_, o, ho, _⟩ := I.ok.funs.mem hb
  exact absurd (Nat.lt_of_lt_of_le (Heap.lt_size ho) (Nat.le_trans I.sz h)) (Nat.lt_irrefl _)
theorem Inv.cne (I : Inv X pins σ H s) : ∀ x c, X.env.cells.lookup x = some c → c ≠ X.env.locals := fun x c e z => by
  obtain ⟨v, o, ho, hd⟩ := I.cell x c e
  obtain ⟨m, ⟨o', es, ep, ho', hd', _⟩, _⟩ := I.loc
  rw [z, ho'] at ho; cases ho; rw [hd'] at hd; cases hd
theorem Inv.funs (I : Inv X pins σ H s) : s.heap.FunFrames X.base X.outer := by
  have all : ∀ (l : List Env), (∀ b ∈ frs l, b ∈ X.fs) → X.s₀.heap.FunFrames X.base l → s.heap.FunFrames X.base l := by
    intro l
    induction l with
    | nil => intro _ _; trivial
    | cons env r ih =>
      intro hs hl
      obtain ⟨hk, ⟨L, o, hf, hn, ho, hd⟩, hr⟩ := hl
      have hL : L ∈ X.fs := hs L (by unfold frs; rw [List.filterMap_cons, hf]; exact List.mem_cons_self)
      obtain ⟨sl, e⟩ := I.base.slot L o ho (I.ok.frf L hL) hL fun z => I.ok.exfs L z hL
      exact ⟨hk, ⟨L, _, hf, hn, e, hd⟩, ih (fun b hb => hs b (by unfold frs; rw [List.filterMap_cons, hf]; exact List.mem_cons_of_mem _ hb)) hr⟩
  exact all X.outer (fun _ hb => hb) I.ok.funs
theorem Inv.stack (I : Inv X pins σ H s) : s.heap.FunFrames X.base X.stack := by
  rcases I.ok.stk with e | ⟨e, hf⟩
  · rw [e]; exact I.funs
  · rw [e]
    obtain ⟨m, hn, _⟩ := I.loc
    refine .cons (by rw [I.ok.kind]; decide) hf hn ?_ I.funs
    exact Heap.get?_none_of_le (Nat.le_trans I.ok.bsz I.ok.above)
theorem Inv.stkSub (I : Inv X pins σ H s) : ∀ b ∈ frs X.stack, b ∈ X.env.locals :: X.fs := fun b hb => by
  rcases I.ok.stk with e | ⟨e, hf⟩
  · rw [e] at hb; exact List.mem_cons_of_mem _ hb
  · rw [e] at hb
    unfold frs at hb
    rw [List.filterMap_cons, hf] at hb
    exact hb
theorem Inv.stkFree (I : Inv X pins σ H s) : ∀ b ∈ frs X.stack, H b = none := fun b hb => by
  rcases List.mem_cons.mp (I.stkSub b hb) with e | hb
  · rw [e]; exact I.free
  · obtain ⟨_, o, ho, _⟩ := I.ok.funs.mem hb
    exact I.base.free b o ho (I.ok.frf b hb) fun z => I.ok.exfs b z hb
theorem Inv.step {g' : Array GenState} {t' : Nat} {d' : Drawn} {ch : List Addr} (I : Inv X pins σ H s)
    (hch : ∀ b ∈ ch, (b ∈ X.ex ∨ X.s₀.heap.objs.size ≤ b) ∧ b ≠ X.env.locals ∧ (∀ x c, X.env.cells.lookup x = some c → c ≠ b) ∧ ∀ p ∈ X.pn ++ pins, p.1 ≠ b)
    (keep : ∀ b o, b ≠ X.env.locals → b ∉ X.fs → b ∉ ch → s.heap.get? b = some o → H b = none → h'.get? b = some o)
    (slot : ∀ b o, b ≠ X.env.locals → b ∈ X.fs → b ∉ ch → s.heap.get? b = some o → H b = none → ∃ sl, h'.get? b = some { o with slots := sl }) (free : ∀ b o, b ∉ ch → s.heap.get? b = some o → H b = none → H' b = none)
    (there : ∀ b o, b ∉ ch → s.heap.get? b = some o → ∃ o', h'.get? b = some o')
    (tups : ∀ b xs, H b = some (.tup xs) → H' b = some (.tup xs)) (frzs : ∀ b o u, H b = some (.frz o u) → H' b = some (.frz o u)) (tbls : ∀ b ps, H b = some (.tbl ps) → ∃ more, H' b = some (.tbl (ps ++ more)))
    (ns : ∀ m, s.heap.Ns X.env.locals m → h'.Ns X.env.locals m) (hok : HOk X.prog X.w H' h') (hg : AllBare g') :
    Inv X pins σ H' { s with heap := h', gens := g', drawn := d', toks := t' } := by
  have neL : ∀ b o, X.s₀.heap.get? b = some o → b ≠ X.env.locals := fun b o e => Nat.ne_of_lt (Nat.lt_of_lt_of_le (Heap.lt_size e) I.ok.above)
  have neC : ∀ b o, X.s₀.heap.get? b = some o → b ∉ X.ex → b ∉ ch := fun b o e hx hb => by
    rcases (hch b hb).1 with z | z
    · exact hx z
    · exact absurd (Nat.lt_of_lt_of_le (Heap.lt_size e) z) (Nat.lt_irrefl _)
  have cellK : ∀ x c, X.env.cells.lookup x = some c → ∀ v, s.heap.IsCell c v → h'.IsCell c v := fun x c e v ⟨o, ho, hd⟩ => by
    have nch : c ∉ ch := fun z => (hch c z).2.2.1 x c e rfl
    by_cases hc : c ∈ X.fs
    · obtain ⟨sl, q⟩ := slot c o (I.cne x c e) hc nch ho (I.freeC x c e)
      exact ⟨_, q, hd⟩
    · exact ⟨o, keep c o (I.cne x c e) hc nch ho (I.freeC x c e), hd⟩
  refine ⟨I.ok, I.os, hg, ⟨fun b o e n hb hx => ?_, fun b o e n hb hx => ?_, fun b o e n hx => ?_, fun b o e hx => ?_, fun b xs e => tups b xs (I.base.tups b xs e), fun b o xs e => frzs b o xs (I.base.frzs b o xs e), fun b ps e => ?_⟩, ?_, fun x c e => ?_, ?_, fun x c e => ?_, fun p hp => ?_, hok, I.len⟩
  · exact keep b o (neL b o e) hb (neC b o e hx) (I.base.keep b o e n hb hx) (I.base.free b o e n hx)
  · obtain ⟨sl, e1⟩ := I.base.slot b o e n hb hx
    obtain ⟨sl', e2⟩ := slot b _ (neL b o e) hb (neC b o e hx) e1 (I.base.free b o e n hx)
    exact ⟨sl', e2⟩
  · obtain ⟨o', e1⟩ := I.base.there b o e hx
    exact free b o' (neC b o e hx) e1 (I.base.free b o e n hx)
  · obtain ⟨o', e1⟩ := I.base.there b o e hx
    exact there b o' (neC b o e hx) e1
  · obtain ⟨m1, e1⟩ := I.base.tbls b ps e
    obtain ⟨m2, e2⟩ := tbls b _ e1
    exact ⟨m1 ++ m2, by rw [e2, Array.append_assoc]⟩
  · obtain ⟨m, hn, hl⟩ := I.loc
    refine ⟨m, ns m hn, fun i x v e1 e2 e3 => ?_⟩
    obtain ⟨u, r, l⟩ := hl i x v e1 e2 e3
    refine ⟨u, r, ?_⟩
    rcases l with l | ⟨k, c, e, z⟩
    · exact .inl l
    · exact .inr ⟨k, c, e, cellK x c e _ z⟩
  · obtain ⟨v, z⟩ := I.cell x c e
    exact ⟨v, cellK x c e v z⟩
  · obtain ⟨m, ⟨o, _, _, ho, _⟩, _⟩ := I.loc
    exact free _ o (fun z => (hch _ z).2.1 rfl) ho I.free
  · obtain ⟨v, o, ho, hd⟩ := I.cell x c e
    exact free c o (fun z => (hch c z).2.2.1 x c e rfl) ho (I.freeC x c e)
  · obtain ⟨e, n, ne, nf, d⟩ := I.pin p hp
    have nch : p.1 ∉ ch := fun z => (hch p.1 z).2.2.2 p hp rfl
    exact ⟨keep p.1 p.2 ne nf nch e n, free p.1 p.2 nch e n, ne, nf, d⟩
theorem Inv.un {t' : Nat} (I : Inv X pins σ H s) (u : Un X.fs [] H H' s.heap h') (hok : HOk X.prog X.w H' h') : Inv X pins σ H' { s with heap := h', toks := t' } := by
  obtain ⟨m, ⟨o, es, ep, ho, r⟩, _⟩ := id I.loc
  obtain ⟨sl, hL⟩ := u.any ho I.free (by simp)
  exact I.step (g' := s.gens) (d' := s.drawn) (ch := []) (fun _ z => nomatch z) (fun b o _ hb _ e n => u.keep b o e n hb (by simp)) (fun b o _ hb _ e n => u.slot b o e n hb (by simp)) (fun b o _ e n => u.free b o e n (by simp)) (fun b o _ e => u.there b o e (by simp)) u.tups u.frzs u.tbls (fun m' hm => by
    obtain ⟨o', es', ep', ho', r'⟩ := hm
    rw [ho] at ho'; cases ho'
    exact ⟨_, es', ep', hL, r'⟩) hok I.bare
theorem Inv.call {g' : Array GenState} {t' : Nat} {d' : Drawn} {ch : List Addr} (I : Inv X pins σ H s) (u : Un (frs X.stack) ch H H' s.heap h') (hok : HOk X.prog X.w H' h') (hg : AllBare g')
    (hch : ∀ b ∈ ch, (b ∈ X.ex ∨ X.s₀.heap.objs.size ≤ b) ∧ b ≠ X.env.locals ∧ (∀ x c, X.env.cells.lookup x = some c → c ≠ b) ∧ ∀ p ∈ X.pn ++ pins, p.1 ≠ b) :
    Inv X pins σ H' { s with heap := h', gens := g', drawn := d', toks := t' } := by
  obtain ⟨m, ⟨o, es, ep, ho, r⟩, _⟩ := id I.loc
  obtain ⟨sl, hL⟩ := u.any ho I.free fun z => (hch _ z).2.1 rfl
  exact I.step (ch := ch) hch (fun b o hL hb hc e n => u.keep b o e n (fun z => (List.mem_cons.mp (I.stkSub b z)).elim hL hb) hc) (fun b o _ _ hc e n => u.any e n hc) (fun b o hc e n => u.free b o e n hc) (fun b o hc e => u.there b o e hc) u.tups u.frzs u.tbls (fun m' hm => by
    obtain ⟨o', es', ep', ho', r'⟩ := hm
    rw [ho] at ho'; cases ho'
    exact ⟨_, es', ep', hL, r'⟩) hok hg
theorem Inv.turned {t' : Nat} {it : Addr} (I : Inv X pins σ H s) (k : ∀ b o, b ≠ it → s.heap.get? b = some o → h'.get? b = some o) (hn : H it = none) (hL : it ≠ X.env.locals)
    (h1 : it ∈ X.ex ∨ X.s₀.heap.objs.size ≤ it) (h2 : ∀ x c, X.env.cells.lookup x = some c → c ≠ it) (h3 : ∀ p ∈ X.pn ++ pins, p.1 ≠ it) : Inv X pins σ H { s with heap := h', toks := t' } := by
  have nit : ∀ b u, H b = some u → b ≠ it := fun b u e z => by rw [z, hn] at e; cases e
  refine I.step (g' := s.gens) (d' := s.drawn) (ch := [it]) (fun b hb => ?_) (fun b o _ _ hc e _ => k b o (fun z => hc (by simp [z])) e) (fun b o _ _ hc e _ => ⟨o.slots, k b o (fun z => hc (by simp [z])) e⟩) (fun _ _ _ _ n => n)
    (fun b o hc e => ⟨o, k b o (fun z => hc (by simp [z])) e⟩) (fun _ _ e => e) (fun _ _ _ e => e) (fun b ps e => ⟨#[], by rw [e]; simp⟩) (fun m hm => ?_) (fun b u e => ?_) I.bare
  · have e : b = it := by simpa using hb
    subst e
    exact ⟨h1, hL, h2, h3⟩
  · obtain ⟨o, es, ep, ho, r⟩ := hm
    exact ⟨o, es, ep, k _ o (Ne.symm hL) ho, r⟩
  · refine (I.hok b u e).stay (fun c v hc q => k c v ?_ q) (fun _ q => q) fun _ _ q => q
    rcases hc with z | z
    · rw [z]; exact nit b u e
    · exact nit c _ z
theorem Inv.tok (I : Inv X pins σ H s) (t : Nat) : Inv X pins σ H { s with toks := t } := I.un (h' := s.heap) (t' := t) Un.refl I.hok
theorem Inv.kept {t' : Nat} (I : Inv X pins σ H s) (k : ∀ b u, s.heap.get? b = some u → h'.get? b = some u) : Inv X pins σ H { s with heap := h', toks := t' } := I.un (Un.kept k) (I.hok.kept k)
theorem Inv.laid {a : Addr} {o : HO} {t' : Nat} (I : Inv X pins σ H s) (k : ∀ b u, s.heap.get? b = some u → h'.get? b = some u) (hp : s.heap.objs.size ≤ a) (new : ObjOk X.prog X.w (upd H a o) h' a o) :
    Inv X pins σ (upd H a o) { s with heap := h', toks := t' } := I.un (Un.laid k hp (I.hok.fresh hp)) (I.hok.laid k hp new)
theorem Inv.write {x e : Addr} {o : HO} {t' : Nat} (I : Inv X pins σ H s) (mu : Mut (H x)) (he : e = x ∨ H e = some (.own x)) (k : ∀ b u, b ≠ e → s.heap.get? b = some u → h'.get? b = some u) (heo : ∃ u, h'.get? e = some u)
    (new : ObjOk X.prog X.w (upd H x o) h' x o) : Inv X pins σ (upd H x o) { s with heap := h', toks := t' } := I.un (Un.write mu he k heo) (I.hok.write mu he k heo new)
theorem Inv.pins_of {pins' : List (Addr × Obj)} (I : Inv X pins σ H s) (h : ∀ p ∈ pins', s.heap.get? p.1 = some p.2 ∧ H p.1 = none ∧ p.1 ≠ X.env.locals ∧ p.1 ∉ X.fs ∧ ∀ v, p.2.data ≠ .cell v) : Inv X pins' σ H s :=
  ⟨I.ok, I.os, I.bare, I.base, I.loc, I.cell, I.free, I.freeC, fun p hp => (List.mem_append.mp hp).elim (fun z => I.pin p (List.mem_append_left _ z)) (h p), I.hok, I.len⟩
theorem nodup_ix {N : List Str} (hN : N.Nodup) {i j : Nat} {x : Str} (a : N[i]? = some x) (b : N[j]? = some x) : i = j := by
  obtain ⟨h1, e1⟩ := List.getElem?_eq_some_iff.mp a
  obtain ⟨h2, e2⟩ := List.getElem?_eq_some_iff.mp b
  exact (List.getElem_inj hN).mp (e1.trans e2.symm)
theorem store_ok2 {M : Model} {A : Around} {E : Value → Shared → Prop} {i : Nat} {x : Str} {v : V} {u : Value} {Q : Unit → Shared → Prop} (I : Inv X pins σ H s) (hN : X.N.Nodup) (hi : X.N[i]? = some x) (hx : Loc X.env.scope x) (r : RelV v u)
    (h : ∀ s', Inv X pins (σ.set i (some v)) H s' → (∃ a, Heap.SameBut a s.heap s'.heap ∧ (a = X.env.locals ∨ X.env.cells.lookup x = some a)) → Q () s') (hf : X.fn x = true ∨ X.env.scope.names.lookup x = some .local := by first | exact .inl rfl | exact .inr rfl | assumption) : wpAny M A (storeName X.env x u) Q E s := by
  obtain ⟨m, hn, hl⟩ := id I.loc
  have hcls : (X.env.scope.kind == .class || (X.env.scope.kind == .module && X.env.locals != X.env.globals)) = false := by rw [I.ok.kind]; rfl
  have hiσ : i < σ.length := by rw [I.len]; exact (List.getElem?_eq_some_iff.mp hi).1
  have cne := I.cne
  have tracked : ∀ {a : Addr} {h' : Heap}, (∃ o, s.heap.get? a = some o ∧ H a = none) → Heap.SameBut a s.heap h' → HOk X.prog X.w H h' := fun {a h'} ha hs b ob e => by
    obtain ⟨_, _, hfree⟩ := ha
    refine (I.hok b ob e).stay (fun c w' hc q => (hs.2 c ?_).trans q) (fun _ q => q) fun _ _ q => q
    rintro rfl
    rcases hc with rfl | hc
    · rw [hfree] at e; cases e
    · rw [hfree] at hc; cases hc
  rcases hx with hk | hk
  · refine wpAny_storeName_local hk hn (fun h' hn' hs => ?_) hcls
    obtain ⟨oL, _, _, hoL, _⟩ := id hn
    refine h _ ⟨I.ok, I.os, I.bare, ⟨fun b o e n hb hx => ?_, fun b o e n hb hx => ?_, I.base.free, fun b o e hx => ?_, I.base.tups, I.base.frzs, I.base.tbls⟩, ⟨_, hn', fun j y v' e1 e2 e3 => ?_⟩, fun y c e => ?_, I.free, I.freeC, fun p hp => ?_, tracked ⟨oL, hoL, I.free⟩ hs, by simpa using I.len⟩ ⟨_, hs, .inl rfl⟩
    · exact (hs.2 b (Nat.ne_of_lt (Nat.lt_of_lt_of_le (Heap.lt_size e) I.ok.above))).trans (I.base.keep b o e n hb hx)
    · obtain ⟨sl, e1⟩ := I.base.slot b o e n hb hx
      exact ⟨sl, (hs.2 b (Nat.ne_of_lt (Nat.lt_of_lt_of_le (Heap.lt_size e) I.ok.above))).trans e1⟩
    · obtain ⟨o', e1⟩ := I.base.there b o e hx
      exact ⟨o', (hs.2 b (Nat.ne_of_lt (Nat.lt_of_lt_of_le (Heap.lt_size e) I.ok.above))).trans e1⟩
    · by_cases hj : j = i
      · subst hj
        rw [hi] at e1; cases e1
        rw [List.getElem?_set_self hiσ] at e2
        cases e2
        exact ⟨u, r, .inl ⟨hk, by simp⟩⟩
      · rw [List.getElem?_set_ne (Ne.symm hj)] at e2
        obtain ⟨u', r', q⟩ := hl j y v' e1 e2 e3
        refine ⟨u', r', ?_⟩
        rcases q with ⟨k, e⟩ | ⟨k, c, e, z⟩
        · refine .inl ⟨k, ?_⟩
          have : y ≠ x := fun e => hj (nodup_ix hN e1 (e ▸ hi))
          simp [this, e]
        · exact .inr ⟨k, c, e, z.sameBut hs (cne y c e)⟩
    · obtain ⟨w', z⟩ := I.cell y c e
      exact ⟨w', z.sameBut hs (cne y c e)⟩
    · obtain ⟨e, n, ne, nf, d⟩ := I.pin p hp
      exact ⟨(hs.2 p.1 ne).trans e, n, ne, nf, d⟩
  · have hfn : X.fn x = true := by
      rcases hf with z | z
      · exact z
      · rw [z] at hk; cases hk
    obtain ⟨c, hc⟩ := I.ok.has x (.inl hk)
    obtain ⟨w', z⟩ := I.cell x c hc
    refine wpAny_storeName_cell I.ok.kind hk hc z (fun h' hc' hs => ?_)
    obtain ⟨oc, hoc, hocd⟩ := id z
    refine h { s with heap := h' } ⟨I.ok, I.os, I.bare, ⟨fun b o e n hb hx => ?_, fun b o e n hb hx => ?_, I.base.free, fun b o e hx => ?_, I.base.tups, I.base.frzs, I.base.tbls⟩, ⟨m, hn.sameBut hs (Ne.symm (cne x c hc)), fun j y v' e1 e2 e3 => ?_⟩, fun y c' e => ?_, I.free, I.freeC, fun p hp => ?_, tracked ⟨oc, hoc, I.freeC x c hc⟩ hs, by simpa using I.len⟩ ⟨c, hs, .inr hc⟩
    · exact (hs.2 b (Nat.ne_of_lt (Nat.lt_of_lt_of_le (Heap.lt_size e) (I.ok.cab x c hfn hc)))).trans (I.base.keep b o e n hb hx)
    · obtain ⟨sl, e1⟩ := I.base.slot b o e n hb hx
      exact ⟨sl, (hs.2 b (Nat.ne_of_lt (Nat.lt_of_lt_of_le (Heap.lt_size e) (I.ok.cab x c hfn hc)))).trans e1⟩
    · obtain ⟨o', e1⟩ := I.base.there b o e hx
      exact ⟨o', (hs.2 b (Nat.ne_of_lt (Nat.lt_of_lt_of_le (Heap.lt_size e) (I.ok.cab x c hfn hc)))).trans e1⟩
    · by_cases hj : j = i
      · subst hj
        rw [hi] at e1; cases e1
        rw [List.getElem?_set_self hiσ] at e2
        cases e2
        exact ⟨u, r, .inr ⟨.inl hk, c, hc, hc'⟩⟩
      · rw [List.getElem?_set_ne (Ne.symm hj)] at e2
        obtain ⟨u', r', q⟩ := hl j y v' e1 e2 e3
        refine ⟨u', r', ?_⟩
        rcases q with q | ⟨k, c', e, z'⟩
        · exact .inl q
        · refine .inr ⟨k, c', e, z'.sameBut hs ?_⟩
          rintro rfl
          exact hj (nodup_ix hN e1 (I.ok.inj _ _ _ e hc ▸ hi))
    · by_cases hcc : c' = c
      · subst hcc; exact ⟨_, hc'⟩
      · obtain ⟨w2, z2⟩ := I.cell y c' e
        exact ⟨w2, z2.sameBut hs hcc⟩
    · obtain ⟨e, n, ne, nf, d⟩ := I.pin p hp
      refine ⟨(hs.2 p.1 ?_).trans e, n, ne, nf, d⟩
      intro q
      rw [q, hoc] at e
      have q' : oc = p.2 := Option.some.inj e
      exact d w' (by rw [← q']; exact hocd)
theorem store_ok {M : Model} {A : Around} {E : Value → Shared → Prop} {i : Nat} {x : Str} {v : V} {u : Value} {Q : Unit → Shared → Prop} (I : Inv X pins σ H s) (hN : X.N.Nodup) (hi : X.N[i]? = some x) (hx : Loc X.env.scope x) (r : RelV v u)
    (h : ∀ s', Inv X pins (σ.set i (some v)) H s' → Q () s') (hf : X.fn x = true ∨ X.env.scope.names.lookup x = some .local := by first | exact .inl rfl | exact .inr rfl | assumption) : wpAny M A (storeName X.env x u) Q E s :=
  store_ok2 I hN hi hx r (fun s' I' _ => h s' I') hf
theorem Inv.call' {s' : Shared} {ch : List Addr} (I : Inv X pins σ H s) (ho : s'.os = s.os) (u : Un (frs X.stack) ch H H' s.heap s'.heap) (hok : HOk X.prog X.w H' s'.heap) (hg : AllBare s'.gens)
    (hch : ∀ b ∈ ch, (b ∈ X.ex ∨ X.s₀.heap.objs.size ≤ b) ∧ b ≠ X.env.locals ∧ (∀ x c, X.env.cells.lookup x = some c → c ≠ b) ∧ ∀ p ∈ X.pn ++ pins, p.1 ≠ b) : Inv X pins σ H' s' := by
  obtain ⟨h', g', d', t', o'⟩ := s'
  have e : o' = s.os := ho
  subst e
  exact I.call (g' := g') (t' := t') (d' := d') u hok hg hch
end
abbrev XK := Value → Option Addr → Hp → Prop
abbrev St := List (Option V)
abbrev VK := V → Hp → Prop
abbrev TE := St → Hp → VK → Prop
abbrev TT := St → Hp → (Bool → Hp → Prop) → Prop
abbrev TA := St → Hp → (List V → Hp → Prop) → Prop
structure Ends where
  nx : St → Hp → Prop
  rt : VK
  bk : St → Hp → Prop := fun _ _ => False
  ct : St → Hp → Prop := fun _ _ => False
abbrev TS := Ends → St → Hp → Prop
def EP (X : Cx) (pins : List (Addr × Obj)) (σ : St) (Q : VK) (u : Value) (s' : Shared) : Prop := ∃ v H', Inv X pins σ H' s' ∧ RelV v u ∧ Q v H'
def TP (X : Cx) (pins : List (Addr × Obj)) (σ : St) (Q : Bool → Hp → Prop) (b : Bool) (s' : Shared) : Prop := ∃ H', Inv X pins σ H' s' ∧ Q b H'
def AP (X : Cx) (pins : List (Addr × Obj)) (σ : St) (Q : List V → Hp → Prop) (us : List Value) (s' : Shared) : Prop := ∃ vs H', Inv X pins σ H' s' ∧ Vals vs us ∧ Q vs H'
def SP (X : Cx) (pins : List (Addr × Obj)) (D : Ends) (f : Flow) (s' : Shared) : Prop :=
  match f with
  | .next => ∃ σ' H', Inv X pins σ' H' s' ∧ D.nx σ' H'
  | .brk => ∃ σ' H', Inv X pins σ' H' s' ∧ D.bk σ' H'
  | .cont => ∃ σ' H', Inv X pins σ' H' s' ∧ D.ct σ' H'
  | .ret u => ∃ v σ' H', Inv X pins σ' H' s' ∧ RelV v u ∧ D.rt v H'
def PE (X : Cx) (e : Expr) (t : TE) : Prop :=
  ∀ (pins : List (Addr × Obj)) (s : Shared) (σ : St) (H : Hp) (Q : VK), Inv X pins σ H s → t σ H Q → wpAny (model X.prog X.w) X.A (eval e X.env) (EP X pins σ Q) X.xe s
def PT (X : Cx) (e : Expr) (t : TT) : Prop :=
  ∀ (pins : List (Addr × Obj)) (s : Shared) (σ : St) (H : Hp) (Q : Bool → Hp → Prop), Inv X pins σ H s → t σ H Q → wpAny (model X.prog X.w) X.A (isTrue e X.env (eval e X.env)) (TP X pins σ Q) X.xe s
def PW (X : Cx) (e : Expr) (t : TT) : Prop :=
  ∀ (whole : Sem Value) (pins : List (Addr × Obj)) (s : Shared) (σ : St) (H : Hp) (Q : Bool → Hp → Prop), Inv X pins σ H s → t σ H Q → wpAny (model X.prog X.w) X.A (isTrue e X.env whole) (TP X pins σ Q) X.xe s
theorem PW.pt {X : Cx} {e : Expr} {t : TT} (h : PW X e t) : PT X e t := h _
def PA (X : Cx) (es : List Expr) (t : TA) : Prop :=
  ∀ (pos : Pos) (pins : List (Addr × Obj)) (s : Shared) (σ : St) (H : Hp) (Q : List V → Hp → Prop), Inv X pins σ H s → t σ H Q → wpAny (model X.prog X.w) X.A (spliced (backTo pos (starEach es X.env))) (AP X pins σ Q) X.xe s
def PS (X : Cx) (st : Stmt) (t : TS) : Prop :=
  ∀ (pins : List (Addr × Obj)) (s : Shared) (σ : St) (H : Hp) (D : Ends), Inv X pins σ H s → t D σ H → wpAny (model X.prog X.w) X.A (exec st X.env) (SP X pins D) X.xe s
def PSs (X : Cx) (st : List Stmt) (t : TS) : Prop :=
  ∀ (pins : List (Addr × Obj)) (s : Shared) (σ : St) (H : Hp) (D : Ends), Inv X pins σ H s → t D σ H → wpAny (model X.prog X.w) X.A (execs st X.env) (SP X pins D) X.xe s
theorem thn {α : Type} {t : Sem α} {Q Q' : α → Shared → Prop} {M : Model} {A : Around} {E : Value → Shared → Prop} {s : Shared} (h : wpAny M A t Q E s) (hQ : ∀ a s, Q a s → Q' a s) : wpAny M A t Q' E s := wpAny_mono h hQ fun _ _ x => x
end L2
namespace L2
open PySem PySem.Spec PyProof.Rows
section
variable {X : Cx}
def tVar (i : Nat) : TE := fun σ H Q => ∃ v, σ[i]? = some (some v) ∧ Q v H
def tC (v : V) : TE := fun _ H Q => Q v H
theorem pe_var {i : Nat} {x : Str} {pos : Pos} (hN : X.N[i]? = some x) (hv : Vis X.env.scope x) (hd : (x == ("__debug__" : Str)) = false := by decide) (hcd : (x == ("__classdict__" : Str)) = false := by decide) : PE X (.Name x pos) (tVar i) := by
  intro pins s σ H Q I h
  obtain ⟨v, e, h⟩ := h
  obtain ⟨m, hn, hl⟩ := I.loc
  obtain ⟨u, r, l⟩ := hl i x v hN e hv
  have fin : EP X pins σ Q u s := ⟨v, H, I, r, h⟩
  rcases l with ⟨hk, hm⟩ | ⟨hk, c, hc, hcell⟩
  · exact wpAny_Name (wpAny_loadName_local I.ok.kind hk hn hm fin) hd
  · rcases hk with hk | hk
    · exact wpAny_Name (wpAny_loadName_cell I.ok.kind hk hc hcell fin) hd
    · exact wpAny_Name (wpAny_loadName_free I.ok.kind hk hc hcell fin hcd) hd
theorem pe_int {i j pos} : PE X (.Constant (.int i) j pos) (tC (.int i)) := fun _ _ _ H _ I h => wpAny_Constant_int ⟨.int i, H, I.tok _, ⟨_, rfl⟩, h⟩
theorem pe_bl {b j pos} : PE X (.Constant (.bool b) j pos) (tC (.bl b)) := fun _ _ _ H _ I h => Constant_bool ⟨.bl b, H, I, rfl, h⟩
theorem pe_non {j pos} : PE X (.Constant .none j pos) (tC .non) := fun _ _ _ H _ I h => Constant_none ⟨.non, H, I, rfl, h⟩
theorem pe_str {x j pos} : PE X (.Constant (.str x) j pos) (tC (.str x)) := fun _ _ _ H _ I h => Calls.Constant_str ⟨.str x, H, I.tok _, ⟨_, rfl⟩, h⟩
def Gl (X : Cx) (x : Str) : Prop := X.env.kindOf x = some .globalImplicit
theorem ld_glob {E : Value → Shared → Prop} {pins : List (Addr × Obj)} {s : Shared} {σ : St} {H : Hp} {x : Str} {u : Value} {pos : Pos} {Q : Value → Shared → Prop} (I : Inv X pins σ H s) (hg : Gl X x) (hm : X.mg x = some u) (h : Q u s)
    (hd : (x == ("__debug__" : Str)) = false := by decide) : wpAny (model X.prog X.w) X.A (eval (.Name x pos) X.env) Q E s :=
  Calls.Name_function_global I.ok.kind hg (Calls.loadGlobal_global (by rw [I.ok.glob]; exact I.mod.glob.keeps I.bk) hm h) hd
theorem ld_blt {E : Value → Shared → Prop} {pins : List (Addr × Obj)} {s : Shared} {σ : St} {H : Hp} {x : Str} {u : Value} {pos : Pos} {Q : Value → Shared → Prop} (I : Inv X pins σ H s) (hg : Gl X x) (hm : X.mg x = none) (hv : bootBuiltins x = some u) (h : Q u s)
    (hn : x ≠ "__name__" := by decide) (hd : (x == ("__debug__" : Str)) = false := by decide) : wpAny (model X.prog X.w) X.A (eval (.Name x pos) X.env) Q E s := by
  obtain ⟨mb, h1, h2⟩ := I.mod.blt
  exact Calls.Name_function_global I.ok.kind hg (Calls.loadGlobal_builtin (by rw [I.ok.glob]; exact I.mod.glob.keeps I.bk) hm (by rw [I.ok.blt]; exact h1.keeps I.bk) ((h2 x hn).trans hv) h) hd
theorem pe_glob {x : Str} {v : V} {u : Value} {pos : Pos} (hg : Gl X x) (hm : X.mg x = some u) (r : RelV v u) (hd : (x == ("__debug__" : Str)) = false := by decide) : PE X (.Name x pos) (tC v) :=
  fun _ _ _ H _ I h => ld_glob I hg hm ⟨v, H, I, r, h⟩ hd
theorem pe_bltn {x : Str} {v : V} {u : Value} {pos : Pos} (hg : Gl X x) (hm : X.mg x = none) (hv : bootBuiltins x = some u) (r : RelV v u) (hn : x ≠ "__name__" := by decide) (hd : (x == ("__debug__" : Str)) = false := by decide) : PE X (.Name x pos) (tC v) :=
  fun _ _ _ H _ I h => ld_blt I hg hm hv ⟨v, H, I, r, h⟩ hn hd
variable {a b : Expr} {ta tb : TE} {pos : Pos}
def tB (t : TE) : TT := fun σ H Q => t σ H fun x H1 => ∃ c, x = .bl c ∧ Q c H1
theorem pt_val {e : Expr} {t : TE} (h : PE X e t) (he : ∀ whole, isTrue e X.env whole = (do let v ← whole; standAt e.pos; holding [v] (truthy v)) := by intro _; rfl) : PT X e (tB t) := by
  intro pins s σ H Q I hw
  refine isTrue_plain (thn (h pins s σ H _ I hw) fun v s1 ⟨x, H1, I1, r1, q1⟩ => ?_) (he _)
  obtain ⟨d, rfl, q⟩ := q1
  cases r1
  exact wpAny_truthy_bool ⟨H1, I1, q⟩
variable {tA tB' : TT} {rest : List Expr}
def tAnd (t u : TT) : TT := fun σ H Q => t σ H fun c H1 => if c = true then u σ H1 Q else Q false H1
def tOr (t u : TT) : TT := fun σ H Q => t σ H fun c H1 => if c = true then Q true H1 else u σ H1 Q
def tNot (t : TT) : TT := fun σ H Q => t σ H fun c H1 => Q (!c) H1
theorem pw_and1 (ha : PT X a tA) : PW X (.BoolOp .And [a] pos) tA := by
  intro wh pins s σ H Q I h
  refine isTrue_and (thn (ha pins s σ H Q I h) fun c s1 e => ?_)
  cases c with
  | true => exact isTrue_and_nil e
  | false => exact e
theorem pw_or1 (ha : PT X a tA) : PW X (.BoolOp .Or [a] pos) tA := by
  intro wh pins s σ H Q I h
  refine isTrue_or (thn (ha pins s σ H Q I h) fun c s1 e => ?_)
  cases c with
  | false => exact isTrue_or_nil e
  | true => exact e
theorem pw_and (ha : PT X a tA) (hb : PW X (.BoolOp .And (b :: rest) pos) tB') : PW X (.BoolOp .And (a :: b :: rest) pos) (tAnd tA tB') := by
  intro wh pins s σ H Q I h
  refine isTrue_and (thn (ha pins s σ H _ I h) fun c s1 ⟨H1, I1, q1⟩ => ?_)
  cases c with
  | true => exact hb wh pins s1 σ H1 Q I1 q1
  | false => exact ⟨H1, I1, q1⟩
theorem pw_or (ha : PT X a tA) (hb : PW X (.BoolOp .Or (b :: rest) pos) tB') : PW X (.BoolOp .Or (a :: b :: rest) pos) (tOr tA tB') := by
  intro wh pins s σ H Q I h
  refine isTrue_or (thn (ha pins s σ H _ I h) fun c s1 ⟨H1, I1, q1⟩ => ?_)
  cases c with
  | true => exact ⟨H1, I1, q1⟩
  | false => exact hb wh pins s1 σ H1 Q I1 q1
theorem pt_not (ha : PT X a tA) : PT X (.UnaryOp .Not a pos) (tNot tA) := by
  intro pins s σ H Q I h
  exact isTrue_not (ha pins s σ H (fun c H1 => Q (!c) H1) I h)
def tAndV (ta tb : TE) : TE := fun σ H Q => ta σ H fun x H1 => ∃ c, x = .bl c ∧ if c = true then tb σ H1 Q else Q (.bl false) H1
def tNotV (ta : TE) : TE := fun σ H Q => ta σ H fun x H1 => ∃ c, x = .bl c ∧ Q (.bl (!c)) H1
theorem pe_one {op} {t : TE} (h : PE X a t) : PE X (.BoolOp op [a] pos) t := fun pins s σ H Q I hw => BoolOp_one (h pins s σ H Q I hw)
theorem pe_and (ha : PE X a ta) (hb : PE X (.BoolOp .And (b :: rest) pos) tb) : PE X (.BoolOp .And (a :: b :: rest) pos) (tAndV ta tb) := by
  intro pins s σ H Q I h
  refine BoolOp_and (thn (ha pins s σ H _ I h) fun v s1 ⟨x, H1, I1, r1, q1⟩ => ?_)
  obtain ⟨c, rfl, q1⟩ := q1
  cases r1
  refine wpAny_truthy_bool ?_
  cases c with
  | true => exact hb pins s1 σ H1 Q I1 q1
  | false => exact ⟨.bl false, H1, I1, rfl, q1⟩
theorem pe_not (ha : PE X a ta) : PE X (.UnaryOp .Not a pos) (tNotV ta) := by
  intro pins s σ H Q I h
  refine UnaryOp_ (thn (ha pins s σ H _ I h) fun v s1 ⟨x, H1, I1, r1, q1⟩ => ?_)
  obtain ⟨c, rfl, q1⟩ := q1
  cases r1
  exact not_of (wpAny_truthy_bool ⟨.bl (!c), H1, I1, rfl, q1⟩)
end
end L2
namespace L2
open PySem PySem.Spec PyProof.Rows
def SqL (K : PySem.W.Frag) (H : Hp) (a : Addr) (xs : List V) : Prop :=
  Rd H a (.lst xs) ∨
    ∃ (o : Obj) (its : Array Value) (n : Nat), K.lookup a = some o ∧ o.cls = .type "list" ∧ o.dict = none ∧ o.data = .seq its n ∧ its.size ≤ sizeLine ∧ Vals xs its.toList
def SqT (K : PySem.W.Frag) (H : Hp) (a : Addr) (xs : List V) : Prop :=
  Rd H a (.tup xs) ∨
    ∃ (o : Obj) (its : Array Value) (n : Nat), K.lookup a = some o ∧ o.cls = .type "tuple" ∧ o.data = .seq its n ∧ its.size ≤ sizeLine ∧ Vals xs its.toList
def absV : Value → Option V
  | .none => some .non
  | .bool b => some (.bl b)
  | .int i _ => some (.int i)
  | .str x _ => some (.str x)
  | .bytes b _ => some (.byt b)
  | .float b _ => some (.flt b)
  | .ref a => some (.ref a)
  | .type n => some (.ty n)
  | _ => none
theorem RelV.abs {x : V} {u : Value} (r : RelV x u) : absV u = some x := by
  cases x with
  | non => cases r; rfl
  | bl _ => cases r; rfl
  | int _ => obtain ⟨t, rfl⟩ := r; rfl
  | str _ => obtain ⟨t, rfl⟩ := r; rfl
  | byt _ => obtain ⟨t, rfl⟩ := r; rfl
  | flt _ => obtain ⟨t, rfl⟩ := r; rfl
  | ref _ => cases r; rfl
  | ty _ => cases r; rfl
theorem RelV.inj {x y : V} {u : Value} (r : RelV x u) (q : RelV y u) : x = y := Option.some.inj (r.abs.symm.trans q.abs)
theorem Vals.inj : ∀ {xs ys : List V} {us : List Value}, Vals xs us → Vals ys us → xs = ys
  | _, _, _, .nil, .nil => rfl
  | _, _, _, .cons r t, .cons r' t' => by rw [r.inj r', Vals.inj t t']
section
variable {X : Cx} {pins : List (Addr × Obj)} {σ : St} {H : Hp} {s : Shared} {a : Addr} {xs ys : List V}
theorem SqL.of {K : PySem.W.Frag} (h : H a = some (.lst xs)) : SqL K H a xs := .inl (.inl h)
theorem SqT.of {K : PySem.W.Frag} (h : H a = some (.tup xs)) : SqT K H a xs := .inl (.inl h)
theorem Inv.list (I : Inv X pins σ H s) (h : SqL X.K H a xs) : ∃ its : List Value, Vals xs its ∧ PlainL s.heap a its.toArray ∧ xs.length ≤ sizeLine := by
  rcases h with h | ⟨o, its, n, hk, hc, hd, hs, hz, r⟩
  · obtain ⟨z, its, n, r, e⟩ := h.ok I.hok
    exact ⟨its, r, ⟨_, n, e, rfl, rfl, rfl⟩, z⟩
  · refine ⟨its.toList, r, ⟨o, n, I.kIn a o hk, hc, hd, by simpa using hs⟩, ?_⟩
    have e := r.length
    simp only [Array.length_toList] at e
    omega
theorem Inv.tuple (I : Inv X pins σ H s) (h : SqT X.K H a xs) : ∃ its : List Value, Vals xs its ∧ IsTup s.heap a its.toArray ∧ xs.length ≤ sizeLine := by
  rcases h with h | ⟨o, its, n, hk, hc, hs, hz, r⟩
  · obtain ⟨z, its, r, p⟩ := h.ok I.hok
    exact ⟨its, r, p, z⟩
  · refine ⟨its.toList, r, ⟨o, I.kIn a o hk, hc, n, by simpa using hs⟩, ?_⟩
    have e := r.length
    simp only [Array.length_toList] at e
    omega
theorem Inv.list_inj (I : Inv X pins σ H s) (h : SqL X.K H a xs) (h' : SqL X.K H a ys) : xs = ys := by
  obtain ⟨its, r, ⟨o, n, e, _, _, d⟩, _⟩ := I.list h
  obtain ⟨its', r', ⟨o', n', e', _, _, d'⟩, _⟩ := I.list h'
  rw [e] at e'; cases e'
  rw [d] at d'
  injection d' with d1 _
  have : its = its' := by simpa using congrArg Array.toList d1
  subst this
  exact r.inj r'
end
abbrev Cx.wish (X : Cx) (E : Value → Shared → Prop) : Cx := { X with xe := E }
abbrev Cx.nox (X : Cx) : Cx := X.wish fun _ _ => False
theorem Cx.Ok.wish {X : Cx} (ok : X.Ok) (E : Value → Shared → Prop) : (X.wish E).Ok :=
  ⟨ok.mod, ok.kind, ok.glob, ok.blt, ok.above, ok.inj, ok.has, ok.cab, ok.hd, ok.frames, ok.stk, ok.exf, ok.bs, ok.bsz, ok.noex, ok.exfs, ok.funs, ok.frf⟩
theorem Cx.Ok.unwish {X : Cx} {E : Value → Shared → Prop} (ok : (X.wish E).Ok) : X.Ok :=
  ⟨ok.mod, ok.kind, ok.glob, ok.blt, ok.above, ok.inj, ok.has, ok.cab, ok.hd, ok.frames, ok.stk, ok.exf, ok.bs, ok.bsz, ok.noex, ok.exfs, ok.funs, ok.frf⟩
section
variable {X : Cx} {pins : List (Addr × Obj)} {σ : St} {H : Hp} {s : Shared} {E : Value → Shared → Prop}
theorem Inv.wish (I : Inv X pins σ H s) (E : Value → Shared → Prop) : Inv (X.wish E) pins σ H s := ⟨I.ok.wish E, I.os, I.bare, I.base, I.loc, I.cell, I.free, I.freeC, I.pin, I.hok, I.len⟩
theorem Inv.unwish (I : Inv (X.wish E) pins σ H s) : Inv X pins σ H s := ⟨I.ok.unwish, I.os, I.bare, I.base, I.loc, I.cell, I.free, I.freeC, I.pin, I.hok, I.len⟩
theorem SP.unwish {D : Ends} {f : Flow} {s' : Shared} (h : SP (X.wish E) pins D f s') : SP X pins D f s' := by
  cases f with
  | next => obtain ⟨σ', H', I, q⟩ := h; exact ⟨σ', H', I.unwish, q⟩
  | brk => obtain ⟨σ', H', I, q⟩ := h; exact ⟨σ', H', I.unwish, q⟩
  | cont => obtain ⟨σ', H', I, q⟩ := h; exact ⟨σ', H', I.unwish, q⟩
  | ret u => obtain ⟨v, σ', H', I, r, q⟩ := h; exact ⟨v, σ', H', I.unwish, r, q⟩
theorem PSs.nox {st : List Stmt} {t : TS} (h : PSs X.nox st t) : PSs X st t := fun pins s σ H D I hw =>
  wpAny_mono (h pins s σ H D (I.wish _) hw) (fun _ _ q => q.unwish) fun _ _ z => False.elim z
end
section
variable {X : Cx} {st : Stmt} {rest : List Stmt} {t u : TS} {e : Expr} {te : TE} {pos : Pos}
def tNext : TS := fun D σ H => D.nx σ H
def tSeq (t u : TS) : TS := fun D σ H => t { D with nx := u D } σ H
theorem pss_nil : PSs X [] tNext := fun _ _ σ H _ I h => wpAny_execs_nil ⟨σ, H, I, h⟩
theorem pss_cons (h1 : PS X st t) (h2 : PSs X rest u) : PSs X (st :: rest) (tSeq t u) := by
  intro pins s σ H D I h
  refine wpAny_execs_cons (thn (h1 pins s σ H { D with nx := u D } I h) fun f s1 q => ?_)
  cases f with
  | next =>
    obtain ⟨σ', H', I', q⟩ := q
    exact h2 pins s1 σ' H' D I' q
  | ret v => exact q
  | brk => exact q
  | cont => exact q
theorem pss_one (h1 : PS X st t) : PSs X [st] t := by
  intro pins s σ H D I h
  refine wpAny_execs_cons (thn (h1 pins s σ H D I h) fun f s1 q => ?_)
  cases f with
  | next => exact wpAny_execs_nil q
  | ret v => exact q
  | brk => exact q
  | cont => exact q
theorem Inv.quiet {pins : List (Addr × Obj)} {σ : St} {H : Hp} {s : Shared} (I : Inv X pins σ H s) : interactive X.env = false := by simp [interactive, I.ok.kind]
def tDrop (te : TE) : TS := fun D σ H => te σ H fun _ H1 => D.nx σ H1
theorem ps_expr (he : PE X e te) (hs : swapsWith e none pos.line X.env = pure false := by rfl) : PS X (.Expr e pos) (tDrop te) := by
  intro pins s σ H D I h
  exact wpAny_Expr_any (thn (he pins s σ H _ I h) fun v s1 ⟨x, H1, I1, r1, q1⟩ => ⟨σ, H1, I1, q1⟩) I.quiet hs
def tRet (te : TE) : TS := fun D σ H => te σ H D.rt
theorem ps_ret (he : PE X e te) : PS X (.Return (some e) pos) (tRet te) := by
  intro pins s σ H D I h
  exact wpAny_Return_some (thn (he pins s σ H _ I h) fun v s1 ⟨x, H1, I1, r1, q1⟩ => ⟨x, σ, H1, I1, r1, q1⟩)
def tIfS (c : TT) (t u : TS) : TS := fun D σ H => c σ H fun b H1 => if b = true then t D σ H1 else u D σ H1
theorem ps_if {c : Expr} {a b : List Stmt} {tc : TT} (hc : PT X c tc) (ha : PSs X a t) (hb : PSs X b u) : PS X (.If c a b pos) (tIfS tc t u) := by
  intro pins s σ H D I h
  refine wpAny_If (thn (hc pins s σ H _ I h) fun d s1 ⟨H1, I1, q1⟩ => ?_)
  cases d with
  | true => exact ha pins s1 σ H1 D I1 q1
  | false => exact hb pins s1 σ H1 D I1 q1
end
abbrev TG := V → St → Hp → (St → Hp → Prop) → Prop
abbrev TGs := List V → St → Hp → (St → Hp → Prop) → Prop
def PG (X : Cx) (target : Expr) (t : TG) : Prop :=
  ∀ (pins : List (Addr × Obj)) (s : Shared) (σ : St) (H : Hp) (v : V) (u : Value) (Q : St → Hp → Prop), Inv X pins σ H s → RelV v u → t v σ H Q →
    wpAny (model X.prog X.w) X.A (assign target X.env u) (fun _ s' => ∃ σ' H', Inv X pins σ' H' s' ∧ Q σ' H') X.xe s
def PGs (X : Cx) (ts : List Expr) (t : TGs) : Prop :=
  ∀ (pins : List (Addr × Obj)) (s : Shared) (σ : St) (H : Hp) (vs : List V) (us : List Value) (Q : St → Hp → Prop), Inv X pins σ H s → Vals vs us → t vs σ H Q →
    wpAny (model X.prog X.w) X.A (assignInOrder ((assignEach ts X.env).map (·.2)) us) (fun _ s' => ∃ σ' H', Inv X pins σ' H' s' ∧ Q σ' H') X.xe s
section
variable {X : Cx} {pos : Pos}
def gName (i : Nat) : TG := fun v σ H Q => Q (σ.set i (some v)) H
theorem pg_name {i : Nat} {x : Str} (hN : X.N.Nodup) (hi : X.N[i]? = some x) (hx : Loc X.env.scope x) (hf : X.fn x = true ∨ X.env.scope.names.lookup x = some .local := by first | exact .inl rfl | exact .inr rfl | assumption) : PG X (.Name x pos) (gName i) := by
  intro pins s σ H v u Q I r h
  exact wpAny_assign_Name (store_ok I hN hi hx r (fun s' I' => ⟨_, H, I', h⟩) hf)
def gNil : TGs := fun vs σ H Q => vs = [] ∧ Q σ H
def gCons (t : TG) (u : TGs) : TGs := fun vs σ H Q => ∃ v r, vs = v :: r ∧ t v σ H fun σ' H' => u r σ' H' Q
theorem pgs_nil : PGs X [] gNil := by
  intro pins s σ H vs us Q I r h
  obtain ⟨e, h⟩ := h
  subst e
  cases r
  exact assignInOrder_nil ⟨σ, H, I, h⟩
theorem pgs_cons {e : Expr} {es : List Expr} {t : TG} {u : TGs} (h1 : PG X e t) (h2 : PGs X es u)
    (hs : (assignEach (e :: es) X.env).map (·.2) = assign e X.env :: (assignEach es X.env).map (·.2) := by rfl) : PGs X (e :: es) (gCons t u) := by
  intro pins s σ H vs us Q I r h
  obtain ⟨v, vr, e1, h⟩ := h
  subst e1
  cases r with
  | cons r rr =>
    rw [hs]
    refine assignInOrder_cons (thn (h1 pins s σ H _ _ _ I r h) fun _ s1 ⟨σ1, H1, I1, q1⟩ => ?_)
    exact h2 pins s1 σ1 H1 _ _ Q I1 rr q1
def gTup (K : PySem.W.Frag) (n : Nat) (t : TGs) : TG := fun v σ H Q => ∃ a xs, v = .ref a ∧ SqT K H a xs ∧ xs.length = n ∧ t xs σ H Q
theorem pg_tup {es : List Expr} {k : Nat} {t : TGs} {n : Nat} (hc : X.calm = true) (h : PGs X es t)
    (hn : (assignEach es X.env).length = n := by rfl) (hst : (assignEach es X.env).findIdx? (·.1) = none := by rfl) : PG X (.Tuple es k pos) (gTup X.K n t) := by
  intro pins s σ H v u Q I r hw
  obtain ⟨a, xs, e1, hq, hl, hw⟩ := hw
  subst e1
  cases r
  obtain ⟨its, rv, ht, hz⟩ := I.tuple hq
  refine assign_Tuple_tuple (I.ok.hd hc) ht (by simp [hn, ← hl, rv.length]) hst fun h' hx => ?_
  have I1 : Inv X pins σ H { s with heap := h' } := I.kept (t' := s.toks) fun b o e => hx b o (Nat.ne_of_lt (Heap.lt_size e)) e
  exact h pins _ σ H xs _ Q I1 (by simpa using rv) hw
def tAsg (te : TE) (g : TG) : TS := fun D σ H => te σ H fun x H1 => g x σ H1 D.nx
theorem ps_asg {tg e : Expr} {te : TE} {g : TG} (he : PE X e te) (hg : PG X tg g) (hs : swapsWithSole [tg] e pos.line X.env = pure false := by rfl) (hw : swappedStores [tg] e X.env = pure none := by rfl)
    (h1 : (assignEach [tg] X.env).map (·.2) = [assign tg X.env] := by rfl) : PS X (.Assign [tg] e pos) (tAsg te g) := by
  intro pins s σ H D I h
  refine wpAny_Assign_stores (thn (he pins s σ H _ I h) fun v s1 ⟨x, H1, I1, r1, q1⟩ => ?_) hs hw
  rw [h1]
  exact thn (hg pins s1 σ H1 x v _ I1 r1 q1) fun _ s2 q => q
theorem ps_set {i : Nat} {x : Str} {e : Expr} {te : TE} {pos' : Pos} (hN : X.N.Nodup) (hi : X.N[i]? = some x) (hx : Loc X.env.scope x) (he : PE X e te) (hs : swapsWith e (some (.Name x pos')) pos.line X.env = pure false := by rfl) (hf : X.fn x = true ∨ X.env.scope.names.lookup x = some .local := by first | exact .inl rfl | exact .inr rfl | assumption) :
    PS X (.Assign [.Name x pos'] e pos) (tAsg te (gName i)) := by
  intro pins s σ H D I h
  refine wpAny_Assign_Name (thn (he pins s σ H _ I h) fun v s1 ⟨y, H1, I1, r1, q1⟩ => ?_) hs
  exact store_ok I1 hN hi hx r1 (fun s2 I2 => ⟨_, H1, I2, q1⟩) hf
end
section
variable {X : Cx} {pos : Pos}
end
structure It where
  go : Nat → Hp → Prop
  yld : Nat → Hp → V → Hp → Prop
  stop : Nat → Hp → Prop
def FpOk (X : Cx) (pins : List (Addr × Obj)) (H : Hp) (b : Addr) : Prop :=
  H b = none ∧ b ≠ X.env.locals ∧ b ∉ X.fs ∧ (b ∈ X.ex ∨ X.s₀.heap.objs.size ≤ b) ∧ (∀ x c, X.env.cells.lookup x = some c → c ≠ b) ∧ ∀ p ∈ X.pn ++ pins, p.1 ≠ b
theorem Inv.fpOk {X : Cx} {pins : List (Addr × Obj)} {σ : St} {H H' : Hp} {s : Shared} {b : Addr} (I : Inv X pins σ H s) (hb : s.heap.objs.size ≤ b) (hn : H' b = none) : FpOk X pins H' b := by
  refine ⟨hn, Nat.ne_of_gt (Nat.lt_of_lt_of_le I.lt hb), I.nofs hb, .inr (Nat.le_trans I.sz hb), fun x c e z => ?_, fun p hp z => ?_⟩
  · obtain ⟨v, q⟩ := I.cell x c e
    exact absurd (Nat.lt_of_lt_of_le q.lt (by rw [z]; exact hb)) (Nat.lt_irrefl _)
  · exact absurd (Nat.lt_of_lt_of_le (Heap.lt_size (I.pin p hp).1) (by rw [z]; exact hb)) (Nat.lt_irrefl _)
structure Turn (P : Program) (w : World) (K : PySem.W.Frag) (tg : Expr) (J : It) (fp : List Addr) (it : Addr) (tn : Nat → Heap → Prop) : Prop where
  mem : it ∈ fp
  obj : ∀ i h, tn i h → ∀ b ∈ fp, ∃ o, h.get? b = some o ∧ ∀ v, o.data ≠ .cell v
  keep : ∀ i h h', tn i h → (∀ b ∈ fp, ∀ o, h.get? b = some o → h'.get? b = some o) → tn i h'
  item : ∀ (X : Cx), X.prog = P → X.w = w → X.K = K → X.calm = true → ∀ (i : Nat) (pins : List (Addr × Obj)) (s : Shared) (σ : St) (H : Hp) (E : Value → Shared → Prop), Inv X pins σ H s → (∀ b ∈ fp, FpOk X pins H b) → tn i s.heap → J.go i H →
    wpAny (model P w) X.A (pyNext (.ref it)) (fun r s1 => ∃ u, r = some u ∧
      wpAny (model P w) X.A (letOwnedTupleGo tg (.ref it) u) (fun _ s2 => ∃ x H', Inv X pins σ H' s2 ∧ RelV x u ∧ J.yld i H x H' ∧ tn (i + 1) s2.heap ∧ ∀ b ∈ fp, H' b = none) E s1) E s
  done : ∀ (X : Cx), X.prog = P → X.w = w → X.K = K → X.calm = true → ∀ (i : Nat) (pins : List (Addr × Obj)) (s : Shared) (σ : St) (H : Hp) (E : Value → Shared → Prop), Inv X pins σ H s → (∀ b ∈ fp, FpOk X pins H b) → tn i s.heap → J.stop i H →
    wpAny (model P w) X.A (pyNext (.ref it)) (fun r s1 => r = none ∧ Inv X pins σ H s1) E s
  self : ∀ (A : Around) (i : Nat) (s : Shared) (Q : Value → Shared → Prop) (E : Value → Shared → Prop), tn i s.heap → Q (.ref it) s → wpAny (model P w) A (pyIter (.ref it)) Q E s
abbrev TI := St → Hp → (It → Hp → Prop) → Prop
def PIE (X : Cx) (pins : List (Addr × Obj)) (σ : St) (tg : Expr) (R : It → Hp → Prop) (itv : Value) (s2 : Shared) : Prop :=
  ∃ (it : Addr) (fp : List Addr) (tn : Nat → Heap → Prop) (J : It) (H' : Hp), itv = .ref it ∧ Inv X pins σ H' s2 ∧ Turn X.prog X.w X.K tg J fp it tn ∧ tn 0 s2.heap ∧ (∀ b ∈ fp, FpOk X pins H' b) ∧ R J H'
def PI (X : Cx) (tg iter : Expr) (wi : TI) : Prop :=
  ∀ (pins : List (Addr × Obj)) (s : Shared) (σ : St) (H : Hp) (R : It → Hp → Prop), Inv X pins σ H s → wi σ H R →
    wpAny (model X.prog X.w) X.A (eval iter X.env) (fun v s1 => wpAny (model X.prog X.w) X.A (pyIter v) (PIE X pins σ tg R) X.xe s1) X.xe s
theorem go_of {M : Model} {A : Around} {E : Value → Shared → Prop} {s : Shared} {tg : Expr} {it : Addr} {u : Value} {o : Obj} {n : String} {vs : Array Value} {Q : Unit → Shared → Prop} (ho : s.heap.get? it = some o) (hc : o.cls = .type n) (hd : o.data = .fields vs)
    (hn : ["enumerate", "zip", "dict_itemiterator", "dict_reverseitemiterator", "odict_iterator", "itertools.zip_longest", "itertools.pairwise"].contains n = false) (hQ : Q () s) : wpAny M A (letOwnedTupleGo tg (.ref it) u) Q E s := by
  unfold letOwnedTupleGo
  cases tg <;> first
    | exact wpAny_pure hQ
    | (cases u <;> first
        | exact wpAny_pure hQ
        | (refine wpAny_bind (wpAny_load ho ?_)
           rw [hc, hd]
           show wpAny M A (if (["enumerate", "zip", "dict_itemiterator", "dict_reverseitemiterator", "odict_iterator", "itertools.zip_longest", "itertools.pairwise"].contains n && vs[0]? == some (rawInt _)) = true then _ else _) Q E s
           rw [if_neg (by intro h; rw [hn, Bool.false_and] at h; cases h)]
           exact wpAny_pure hQ))
def Itl (K : PySem.W.Frag) (a : Addr) : It :=
  ⟨fun i H => ∃ xs x, SqL K H a xs ∧ xs[i]? = some x, fun i H x H' => H' = H ∧ ∀ xs, SqL K H a xs → xs[i]? = some x, fun i H => ∃ xs, SqL K H a xs ∧ xs.length ≤ i⟩
def Itr (lo : Int) (n : Nat) : It := ⟨fun i _ => i < n, fun i H x H' => H' = H ∧ x = .int (lo + i), fun i _ => n ≤ i⟩
theorem turn_list {P : Program} {w : World} {K : PySem.W.Frag} {tg : Expr} (a it : Addr) : Turn P w K tg (Itl K a) [it] it (fun i h => h.IsListIter it a i) where
  mem := by simp
  obj := fun i h st b hb => by
    have e : b = it := by simpa using hb
    subst e
    obtain ⟨o, e, c, d⟩ := st
    exact ⟨o, e, fun v z => by rw [d] at z; cases z⟩
  keep := fun i h h' st k => st.at fun o e => k it (by simp) o e
  item := by
    intro X hP hw hK hc i pins s σ H E I hf st hg
    subst hP hw hK
    obtain ⟨xs, x, hq, hx⟩ := hg
    obtain ⟨its, rv, p, hz⟩ := I.list hq
    obtain ⟨u, hu, ru⟩ := rv.get hx
    obtain ⟨f0, f1, f2, f3, f4, f5⟩ := hf it (by simp)
    refine wpAny_pyNext_list_item st p.isList (x := u) (by simpa using hu) fun h' st' sb => ?_
    have I1 : Inv X pins σ H { s with heap := h' } := I.turned (t' := s.toks) (fun b o hb e => (sb.2 b hb).trans e) f0 f1 f3 f4 f5
    obtain ⟨o, e, c, d⟩ := id st'
    exact ⟨u, rfl, go_of (s := { s with heap := h' }) e c d (by decide) ⟨x, H, I1, ru, ⟨rfl, fun ys hy => by rw [I.list_inj hy hq]; exact hx⟩, st', fun b hb => (hf b hb).1⟩⟩
  done := by
    intro X hP hw hK hc i pins s σ H E I hf st hg
    subst hP hw hK
    obtain ⟨xs, hq, hx⟩ := hg
    obtain ⟨its, rv, p, hz⟩ := I.list hq
    obtain ⟨f0, f1, f2, f3, f4, f5⟩ := hf it (by simp)
    have hl := rv.length
    exact wpAny_pyNext_list_end (I.ok.hd hc) st p.isList (by simp; omega) fun h' eb => ⟨rfl, I.turned (t' := s.toks) (fun b o hb e => eb b o hb e) f0 f1 f3 f4 f5⟩
  self := fun _ _ _ _ _ st h => wpAny_pyIter_listiter st h
theorem turn_range {P : Program} {w : World} {K : PySem.W.Frag} {tg : Expr} (it : Addr) (lo : Int) (n : Nat) : Turn P w K tg (Itr lo n) [it] it (fun i h => IsRangeIter h it (lo + (i : Nat) * 1) ((n : Int) - (i : Nat)) 1) where
  mem := by simp
  obj := fun i h st b hb => by
    have e : b = it := by simpa using hb
    subst e
    exact ⟨_, st, fun v z => by
      have z' : Data.fields _ = Data.cell v := z
      cases z'⟩
  keep := fun i h h' st k => k it (by simp) _ st
  item := by
    intro X hP hw hK hc i pins s σ H E I hf st hg
    subst hP hw hK
    obtain ⟨f0, f1, f2, f3, f4, f5⟩ := hf it (by simp)
    have W := Walks.range (prog := X.prog) (w := X.w) (I.ok.hd hc) it lo 1 n
    refine W.item i s _ _ hg st fun v h' tk hv st' kk => ?_
    obtain ⟨t, rfl⟩ := hv
    have I1 : Inv X pins σ H { s with heap := h', toks := tk } := I.turned (fun b o hb e => kk b o (by simpa using hb) e) f0 f1 f3 f4 f5
    refine ⟨_, rfl, go_of (s := { s with heap := h', toks := tk }) (n := "range_iterator") st' rfl rfl (by decide) ⟨.int (lo + i), H, I1, ⟨t, ?_⟩, ⟨rfl, rfl⟩, st', fun b hb => (hf b hb).1⟩⟩
    rw [Int.mul_one]
  done := by
    intro X hP hw hK hc i pins s σ H E I hf st hg
    subst hP hw hK
    obtain ⟨f0, f1, f2, f3, f4, f5⟩ := hf it (by simp)
    exact wpAny_pyNext_range_end (I.ok.hd hc) st (by have : n ≤ i := hg; omega) fun h' eb => ⟨rfl, I.turned (t' := s.toks) (fun b o hb e => eb b o hb e) f0 f1 f3 f4 f5⟩
  self := fun _ _ _ _ _ st h => wpAny_pyIter_rangeiter st h
end L2
namespace L2
open PySem PySem.Spec PyProof.Rows
section
variable {X : Cx} {tg : Expr}
def iList (K : PySem.W.Frag) (tl : TE) : TI := fun σ H R => tl σ H fun x H1 => ∃ a, x = .ref a ∧ (∃ xs, SqL K H1 a xs) ∧ R (Itl K a) H1
theorem pi_list {l : Expr} {tl : TE} (hl : PE X l tl) : PI X tg l (iList X.K tl) := by
  intro pins s σ H R I h
  refine thn (hl pins s σ H _ I h) fun v s1 ⟨x, H1, I1, r1, q1⟩ => ?_
  obtain ⟨a, e, ⟨xs, hq⟩, q⟩ := q1
  subst e
  cases r1
  obtain ⟨its, rv, p, hz⟩ := I1.list hq
  refine wpAny_pyIter_list p.isList ?_
  refine ⟨s1.heap.objs.size, [s1.heap.objs.size], _, _, H1, rfl, I1.kept (t' := s1.toks) fun b o e => Heap.get?_push_of_some _ e, turn_list a _, ⟨_, Heap.get?_push_size _ rfl, rfl, rfl⟩, fun b hb => ?_, q⟩
  have e : b = s1.heap.objs.size := by simpa using hb
  subst e
  exact I1.fpOk (Nat.le_refl _) (I1.hok.fresh (Nat.le_refl _))
theorem range_it {pins : List (Addr × Obj)} {σ : St} {H : Hp} {s : Shared} {R : It → Hp → Prop} {E : Value → Shared → Prop} {lo hi : Int} {t u v : Tok} {tk : Nat} (I : Inv X pins σ H s) (h1 : -(2 ^ 62) ≤ lo) (h2 : lo < 2 ^ 62) (h3 : -(2 ^ 62) ≤ hi) (h4 : hi < 2 ^ 62)
    (q : R (Itr lo (hi - lo).toNat) H) : wpAny (model X.prog X.w) X.A (pyIter (.ref s.heap.objs.size)) (PIE X pins σ tg R) E { s with heap := s.heap.push { cls := .type "range", data := .fields #[.int lo t, .int hi u, .int 1 v] }, toks := tk } := by
  refine wpAny_pyIter_range (IsRange.new ..) (small_one h1 h2 h3 h4) ?_
  have I1 : Inv X pins σ H { s with heap := s.heap.push { cls := .type "range", data := .fields #[.int lo t, .int hi u, .int 1 v] }, toks := tk } := I.kept fun b o e => Heap.get?_push_of_some _ e
  refine ⟨(s.heap.push { cls := .type "range", data := .fields #[.int lo t, .int hi u, .int 1 v] }).objs.size, [(s.heap.push { cls := .type "range", data := .fields #[.int lo t, .int hi u, .int 1 v] }).objs.size], _, _, H, rfl,
    I1.kept (t' := tk) fun b o e => Heap.get?_push_of_some _ e, turn_range _ lo (hi - lo).toNat, ?_, fun b hb => ?_, q⟩
  · have e1 : lo + ((0 : Nat) : Int) * 1 = lo := by simp
    have e2 : (((hi - lo).toNat : Nat) : Int) - ((0 : Nat) : Int) = Builtin.Range.rangeSize lo hi 1 := by rw [rangeSize_one]; split <;> omega
    show IsRangeIter _ _ (lo + ((0 : Nat) : Int) * 1) ((((hi - lo).toNat : Nat) : Int) - ((0 : Nat) : Int)) 1
    rw [e1, e2]
    exact Heap.get?_push_size _ rfl
  · have e : b = (s.heap.push { cls := .type "range", data := .fields #[.int lo t, .int hi u, .int 1 v] }).objs.size := by simpa using hb
    subst e
    exact I1.fpOk (Nat.le_refl _) (I1.hok.fresh (Nat.le_refl _))
def iRng1 (ta : TA) : TI := fun σ H R => ta σ H fun vs H1 => ∃ j : Int, vs = [.int j] ∧ -(2 ^ 62) ≤ j ∧ j < 2 ^ 62 ∧ R (Itr 0 j.toNat) H1
theorem pi_range1 {a : Expr} {ta : TA} {p pos : Pos} (hg : Gl X "range") (hm : X.mg "range" = none) (ha : PA X [a] ta) (hs : starEach [a] X.env = [(false, eval a X.env)] := by rfl) : PI X tg (.Call (.Name "range" p) [a] [] pos) (iRng1 ta) := by
  intro pins s σ H R I h
  refine Call_ (ld_blt I hg hm boot_range (PyProof.Rows.callWith_type1 (thn (ha pos pins s σ H _ I h) fun us s1 ⟨vs, H1, I1, r1, q1⟩ => ?_) hs rfl))
  obtain ⟨j, e, q1, q2, q⟩ := q1
  subst e
  cases r1 with
  | cons r rr =>
    cases rr
    obtain ⟨t, rfl⟩ := r
    exact call_range_1 (range_it I1 (by omega) (by omega) q1 q2 (by simpa using q))
def tFor (wi : TI) (g : TG) (tb : TS) : TS := fun D σ H => wi σ H fun J H1 => ∃ W : Nat → Nat → St → Hp → Prop, (∃ m, W 0 m σ H1) ∧ ∀ i m σ H, W i m σ H →
  (J.stop i H ∧ D.nx σ H) ∨ (J.go i H ∧ ∃ N : St → Hp → Prop, (∀ σ' H', N σ' H' → ∃ m', m' < m ∧ W (i + 1) m' σ' H') ∧ ∀ x H', J.yld i H x H' → g x σ H' fun σ2 H2 => tb { D with nx := N, ct := N, bk := D.nx } σ2 H2)
def pinsAt (fp : List Addr) (h : Heap) : List (Addr × Obj) := fp.filterMap fun b => (h.get? b).map fun o => (b, o)
theorem mem_pinsAt {fp : List Addr} {h : Heap} {b : Addr} {o : Obj} (hb : b ∈ fp) (e : h.get? b = some o) : (b, o) ∈ pinsAt fp h := List.mem_filterMap.mpr ⟨b, hb, by rw [e]; rfl⟩
theorem of_pinsAt {fp : List Addr} {h : Heap} {p : Addr × Obj} (hp : p ∈ pinsAt fp h) : p.1 ∈ fp ∧ h.get? p.1 = some p.2 := by
  obtain ⟨b, hb, e⟩ := List.mem_filterMap.mp hp
  cases q : h.get? b with
  | none => rw [q] at e; cases e
  | some o =>
    rw [q] at e
    have e' : (b, o) = p := Option.some.inj e
    subst e'
    exact ⟨hb, q⟩
theorem Inv.pinned {pins : List (Addr × Obj)} {σ : St} {H : Hp} {s : Shared} {fp : List Addr} (I : Inv X pins σ H s) (hf : ∀ b ∈ fp, FpOk X pins H b) (ho : ∀ b ∈ fp, ∃ o, s.heap.get? b = some o ∧ ∀ v, o.data ≠ .cell v) : Inv X (pins ++ pinsAt fp s.heap) σ H s :=
  I.pins_of fun p hp => (List.mem_append.mp hp).elim (fun z => I.pin p (List.mem_append_right _ z)) fun z => by
    obtain ⟨hb, e⟩ := of_pinsAt z
    obtain ⟨f0, f1, f2, _⟩ := hf p.1 hb
    obtain ⟨o, e', d⟩ := ho p.1 hb
    rw [e] at e'; cases e'
    exact ⟨e, f0, f1, f2, d⟩
theorem Inv.unpinned {pins pl : List (Addr × Obj)} {σ : St} {H : Hp} {s : Shared} (I : Inv X (pins ++ pl) σ H s) : Inv X pins σ H s := I.pins_of fun p hp => I.pin p (List.mem_append_right _ (List.mem_append_left _ hp))
theorem ps_for {iter : Expr} {body : List Stmt} {wi : TI} {g : TG} {tb : TS} {pos : Pos} (hp : PassesOwn (model X.prog X.w) X.A X.env X.xe) (hc : X.calm = true) (hi : PI X tg iter wi) (hg : PG X tg g) (hb : PSs X body tb)
    (hs : ∀ x, foldedSetIterable iter X.env x = pure x := by intro _; rfl) : PS X (.For tg iter body [] pos) (tFor wi g tb) := by
  intro pins s σ H D I h
  refine wpAny_For (thn (hi pins s σ H _ I h) fun v s1 h1 => thn h1 fun itv s2 h2 => ?_) hs
  obtain ⟨it, fp, tn, J, H2, e, I2, T, st2, f2, W, ⟨m0, w0⟩, turn⟩ := h2
  subst e
  -- what stays true of the iterator's objects through the loop
  have stat : ∀ {H' : Hp}, (∀ b ∈ fp, H' b = none) → ∀ b ∈ fp, FpOk X pins H' b := fun hn b hb => ⟨hn b hb, (f2 b hb).2⟩
  refine codeAny_forLoop_any (fun n s' => ∃ i σ' H', Inv X pins σ' H' s' ∧ tn i s'.heap ∧ (∀ b ∈ fp, H' b = none) ∧ W i n σ' H') ?_ m0 ⟨0, σ, H2, I2, st2, fun b hb => (f2 b hb).1, w0⟩
  rintro n s3 ⟨i, σ3, H3, I3, st3, fr3, w3⟩
  rcases turn i n σ3 H3 w3 with ⟨stop, qn⟩ | ⟨go, N, hN, step⟩
  · refine wpAny_passesOwn hp (thn (T.done X rfl rfl rfl hc i pins s3 σ3 H3 X.xe I3 (stat fr3) st3 stop) fun r s4 ⟨hr, I4⟩ => ?_)
    subst hr
    exact wpAny_execs_nil ⟨σ3, H3, I4, qn⟩
  · refine wpAny_passesOwn hp (thn (T.item X rfl rfl rfl hc i pins s3 σ3 H3 X.xe I3 (stat fr3) st3 go) fun r s4 ⟨u, hr, h4⟩ => ?_)
    subst hr
    refine wpAny_passesOwn hp (thn h4 fun _ s5 ⟨x, H5, I5, r5, y5, st5, fr5⟩ => ?_)
    have I5' := I5.pinned (stat fr5) (T.obj _ _ st5)
    refine wpAny_passesOwn hp (thn (hg _ s5 σ3 H5 x u _ I5' r5 (step x H5 y5)) fun _ s6 ⟨σ6, H6, I6, q6⟩ => ?_)
    refine wpAny_passesOwn hp (thn (hb _ s6 σ6 H6 _ I6 q6) fun f s7 q7 => ?_)
    have again : ∀ {σ7 : St} {H7 : Hp}, Inv X (pins ++ pinsAt fp s5.heap) σ7 H7 s7 → N σ7 H7 → ∃ m, m < n ∧ ∃ i σ' H', Inv X pins σ' H' s7 ∧ tn i s7.heap ∧ (∀ b ∈ fp, H' b = none) ∧ W i m σ' H' := fun {σ7 H7} I7 n7 => by
      obtain ⟨m', hm, w7⟩ := hN σ7 H7 n7
      refine ⟨m', hm, i + 1, σ7, H7, I7.unpinned, T.keep _ _ _ st5 fun b hb o e => (I7.pin (b, o) (List.mem_append_right _ (List.mem_append_right _ (mem_pinsAt hb e)))).1, fun b hb => ?_, w7⟩
      obtain ⟨o, e, d⟩ := T.obj _ _ st5 b hb
      exact (I7.pin (b, o) (List.mem_append_right _ (List.mem_append_right _ (mem_pinsAt hb e)))).2.1
    cases f with
    | next => obtain ⟨σ7, H7, I7, n7⟩ := q7; exact again I7 n7
    | cont => obtain ⟨σ7, H7, I7, n7⟩ := q7; exact again I7 n7
    | brk => obtain ⟨σ7, H7, I7, q7⟩ := q7; exact ⟨σ7, H7, I7.unpinned, q7⟩
    | ret v => obtain ⟨x7, σ7, H7, I7, r7, q7⟩ := q7; exact ⟨x7, σ7, H7, I7.unpinned, r7, q7⟩
end
theorem for_list {K : PySem.W.Frag} {a : Addr} {xs : List V} {g : TG} {tb : TS} {D : Ends} {σ : St} {H : Hp} (Pv : Nat → St → Hp → Prop) (h0 : Pv 0 σ H) (hl : ∀ i σ H, i ≤ xs.length → Pv i σ H → SqL K H a xs)
    (hs : ∀ i x σ H, xs[i]? = some x → Pv i σ H → g x σ H fun σ2 H2 => tb { D with nx := Pv (i + 1), ct := Pv (i + 1), bk := D.nx } σ2 H2) (hd : ∀ σ H, Pv xs.length σ H → D.nx σ H) :
    ∃ W : Nat → Nat → St → Hp → Prop, (∃ m, W 0 m σ H) ∧ ∀ i m σ H, W i m σ H →
      ((Itl K a).stop i H ∧ D.nx σ H) ∨ ((Itl K a).go i H ∧ ∃ N : St → Hp → Prop, (∀ σ' H', N σ' H' → ∃ m', m' < m ∧ W (i + 1) m' σ' H') ∧ ∀ x H', (Itl K a).yld i H x H' → g x σ H' fun σ2 H2 => tb { D with nx := N, ct := N, bk := D.nx } σ2 H2) := by
  refine ⟨fun i m σ H => m = xs.length - i ∧ i ≤ xs.length ∧ Pv i σ H, ⟨xs.length, by simp, Nat.zero_le _, h0⟩, ?_⟩
  rintro i m σ H ⟨rfl, hi, p⟩
  have q := hl i σ H hi p
  by_cases hlt : i < xs.length
  · refine .inr ⟨⟨xs, xs[i], q, by simp [hlt]⟩, Pv (i + 1), fun σ' H' p' => ⟨xs.length - (i + 1), by omega, rfl, hlt, p'⟩, fun x H' y => ?_⟩
    obtain ⟨e, y⟩ := y
    subst e
    exact hs i x σ _ (y xs q) p
  · have e : i = xs.length := by omega
    subst e
    exact .inl ⟨⟨xs, q, Nat.le_refl _⟩, hd σ H p⟩
theorem for_range {lo : Int} {n : Nat} {g : TG} {tb : TS} {D : Ends} {σ : St} {H : Hp} (Pv : Nat → St → Hp → Prop) (h0 : Pv 0 σ H)
    (hs : ∀ i σ H, i < n → Pv i σ H → g (.int (lo + i)) σ H fun σ2 H2 => tb { D with nx := Pv (i + 1), ct := Pv (i + 1), bk := D.nx } σ2 H2) (hd : ∀ σ H, Pv n σ H → D.nx σ H) :
    ∃ W : Nat → Nat → St → Hp → Prop, (∃ m, W 0 m σ H) ∧ ∀ i m σ H, W i m σ H →
      ((Itr lo n).stop i H ∧ D.nx σ H) ∨ ((Itr lo n).go i H ∧ ∃ N : St → Hp → Prop, (∀ σ' H', N σ' H' → ∃ m', m' < m ∧ W (i + 1) m' σ' H') ∧ ∀ x H', (Itr lo n).yld i H x H' → g x σ H' fun σ2 H2 => tb { D with nx := N, ct := N, bk := D.nx } σ2 H2) := by
  refine ⟨fun i m σ H => m = n - i ∧ i ≤ n ∧ Pv i σ H, ⟨n, by simp, Nat.zero_le _, h0⟩, ?_⟩
  rintro i m σ H ⟨rfl, hi, p⟩
  by_cases hlt : i < n
  · refine .inr ⟨hlt, Pv (i + 1), fun σ' H' p' => ⟨n - (i + 1), by omega, rfl, hlt, p'⟩, fun x H' y => ?_⟩
    obtain ⟨e, y⟩ := y
    subst e y
    exact hs i σ _ hlt p
  · have e : i = n := by omega
    subst e
    exact .inl ⟨Nat.le_refl _, hd σ H p⟩
end L2
namespace L2
open PySem PySem.Spec PyProof.Rows
abbrev R2 := V → V → Hp → VK → Prop
def OpR (X : Cx) (f : Value → Value → Sem Value) (r : R2) : Prop :=
  ∀ (pins : List (Addr × Obj)) (s : Shared) (σ : St) (H : Hp) (x y : V) (v u : Value) (Q : VK), Inv X pins σ H s → RelV x v → RelV y u → r x y H Q →
    wpAny (model X.prog X.w) X.A (f v u) (EP X pins σ Q) X.xe s
def UnR (X : Cx) (f : Value → Sem Value) (r : V → Hp → VK → Prop) : Prop :=
  ∀ (pins : List (Addr × Obj)) (s : Shared) (σ : St) (H : Hp) (x : V) (v : Value) (Q : VK), Inv X pins σ H s → RelV x v → r x H Q →
    wpAny (model X.prog X.w) X.A (f v) (EP X pins σ Q) X.xe s
def CallR (X : Cx) (f : Value) (r : List V → Hp → VK → Prop) : Prop :=
  ∀ (pins : List (Addr × Obj)) (s : Shared) (σ : St) (H : Hp) (xs : List V) (us : List Value) (Q : VK), Inv X pins σ H s → Vals xs us → r xs H Q →
    wpAny (model X.prog X.w) X.A (call f us) (EP X pins σ Q) X.xe s
def tOp (r : R2) (ta tb : TE) : TE := fun σ H Q => ta σ H fun x H1 => tb σ H1 fun y H2 => r x y H2 Q
def tUn (r : V → Hp → VK → Prop) (ta : TE) : TE := fun σ H Q => ta σ H fun x H1 => r x H1 Q
def rI (C : Int → Int → Prop) (g : Int → Int → V) : R2 := fun x y H Q => ∃ i j, x = .int i ∧ y = .int j ∧ C i j ∧ Q (g i j) H
def rI0 (g : Int → Int → V) : R2 := fun x y H Q => ∃ i j, x = .int i ∧ y = .int j ∧ Q (g i j) H
def rU (g : Int → V) : V → Hp → VK → Prop := fun x H Q => ∃ i, x = .int i ∧ Q (g i) H
section
variable {X : Cx} {a b c : Expr} {ta tb tc : TE} {pos : Pos}
theorem binT (ha : PE X a ta) (hb : PE X b tb) {pins : List (Addr × Obj)} {s : Shared} {σ : St} {H : Hp} {R : V → V → Hp → Prop} (I : Inv X pins σ H s)
    (h : ta σ H fun x H1 => tb σ H1 fun y H2 => R x y H2) {Q : Value → Shared → Prop} {f : Value → Value → Sem Value}
    (hf : ∀ v u s2 x y H2, Inv X pins σ H2 s2 → RelV x v → RelV y u → R x y H2 → wpAny (model X.prog X.w) X.A (f v u) Q X.xe s2) :
    wpAny (model X.prog X.w) X.A (eval a X.env) (fun v s₁ => wpAny (model X.prog X.w) X.A (eval b X.env) (fun u s₂ => wpAny (model X.prog X.w) X.A (f v u) Q X.xe s₂) X.xe s₁) X.xe s := by
  refine thn (ha pins s σ H _ I h) fun v s1 ⟨x, H1, I1, r1, q1⟩ => ?_
  refine thn (hb pins s1 σ H1 _ I1 q1) fun u s2 ⟨y, H2, I2, r2, q2⟩ => ?_
  exact hf v u s2 x y H2 I2 r1 r2 q2
theorem pe_op {op : Operator} {r : R2} (ho : OpR X (binaryOp op) r) (ha : PE X a ta) (hb : PE X b tb) : PE X (.BinOp a op b pos) (tOp r ta tb) := by
  intro pins s σ H Q I h
  exact wpAny_BinOp (binT ha hb I h fun v u s2 x y H2 I2 rx ry q => ho pins s2 σ H2 x y v u Q I2 rx ry q)
theorem pe_un {op : UnaryOp} {r : V → Hp → VK → Prop} (ho : UnR X (unaryOp op) r) (ha : PE X a ta) : PE X (.UnaryOp op a pos) (tUn r ta) := by
  intro pins s σ H Q I h
  exact UnaryOp_ (thn (ha pins s σ H _ I h) fun v s1 ⟨x, H1, I1, r1, q1⟩ => ho pins s1 σ H1 x v Q I1 r1 q1)
theorem opI {f : Value → Value → Sem Value} {C : Int → Int → Prop} {g : Int → Int → Int}
    (rule : ∀ (i j : Int) (t u : Tok) (s : Shared) (Q : Value → Shared → Prop) (E : Value → Shared → Prop), C i j → Q (.int (g i j) s.toks) { s with toks := s.toks + 1 } → wpAny (model X.prog X.w) X.A (f (.int i t) (.int j u)) Q E s) :
    OpR X f (rI C fun i j => .int (g i j)) := by
  intro pins s σ H x y v u Q I rx ry h
  obtain ⟨i, j, rfl, rfl, hc, q⟩ := h
  obtain ⟨t, rfl⟩ := rx
  obtain ⟨t', rfl⟩ := ry
  exact rule i j t t' s _ _ hc ⟨.int (g i j), H, I.tok _, ⟨_, rfl⟩, q⟩
theorem opI0 {f : Value → Value → Sem Value} {g : Int → Int → Int}
    (rule : ∀ (i j : Int) (t u : Tok) (s : Shared) (Q : Value → Shared → Prop) (E : Value → Shared → Prop), Q (.int (g i j) s.toks) { s with toks := s.toks + 1 } → wpAny (model X.prog X.w) X.A (f (.int i t) (.int j u)) Q E s) :
    OpR X f (rI0 fun i j => .int (g i j)) := by
  intro pins s σ H x y v u Q I rx ry h
  obtain ⟨i, j, rfl, rfl, q⟩ := h
  obtain ⟨t, rfl⟩ := rx
  obtain ⟨t', rfl⟩ := ry
  exact rule i j t t' s _ _ ⟨.int (g i j), H, I.tok _, ⟨_, rfl⟩, q⟩
theorem opB0 {f : Value → Value → Sem Value} {g : Int → Int → Bool}
    (rule : ∀ (i j : Int) (t u : Tok) (s : Shared) (Q : Value → Shared → Prop) (E : Value → Shared → Prop), Q (.bool (g i j)) s → wpAny (model X.prog X.w) X.A (f (.int i t) (.int j u)) Q E s) :
    OpR X f (rI0 fun i j => .bl (g i j)) := by
  intro pins s σ H x y v u Q I rx ry h
  obtain ⟨i, j, rfl, rfl, q⟩ := h
  obtain ⟨t, rfl⟩ := rx
  obtain ⟨t', rfl⟩ := ry
  exact rule i j t t' s _ _ ⟨.bl (g i j), H, I, rfl, q⟩
def CDiv (i j : Int) : Prop := 0 < j ∧ j < 1073741824
def CPow (i j : Int) : Prop := 0 ≤ j ∧ j ≤ 1000000 ∧ i.natAbs < 2 ^ 64
theorem op_add : OpR X (binaryOp .Add) (rI0 fun i j => .int (i + j)) := opI0 fun _ _ _ _ _ _ _ q => add_int q
theorem op_sub : OpR X (binaryOp .Sub) (rI0 fun i j => .int (i - j)) := opI0 fun _ _ _ _ _ _ _ q => sub_int q
theorem op_fdiv : OpR X (binaryOp .FloorDiv) (rI CDiv fun i j => .int (i / j)) := opI fun i j _ _ _ _ _ hc q => by
  have h1 : (0 : Int) < j := hc.1
  have h2 : j < 1073741824 := hc.2
  exact floordiv_int (by omega) (by rw [Int.fdiv_eq_ediv_of_nonneg i (by omega)]; exact q) (.inl (PyProof.noPylong_small (by omega)))
theorem op_mod : OpR X (binaryOp .Mod) (rI (fun _ j => 0 < j) fun i j => .int (i % j)) := opI fun i j _ _ _ _ _ hc q => by
  have h1 : (0 : Int) < j := hc
  exact mod_int' (by omega) (by rw [Int.fmod_eq_emod_of_nonneg i (by omega)]; exact q)
theorem op_pow : OpR X (binaryOp .Pow) (rI CPow fun i j => .int (i ^ j.toNat)) := opI fun _ _ _ _ _ _ _ hc q => pow_int_small hc.1 hc.2.1 hc.2.2 q
theorem unI {f : Value → Sem Value} {g : Int → Int}
    (rule : ∀ (i : Int) (t : Tok) (s : Shared) (Q : Value → Shared → Prop) (E : Value → Shared → Prop), Q (.int (g i) s.toks) { s with toks := s.toks + 1 } → wpAny (model X.prog X.w) X.A (f (.int i t)) Q E s) :
    UnR X f (rU fun i => .int (g i)) := by
  intro pins s σ H x v Q I rx h
  obtain ⟨i, rfl, q⟩ := h
  obtain ⟨t, rfl⟩ := rx
  exact rule i t s _ _ ⟨.int (g i), H, I.tok _, ⟨_, rfl⟩, q⟩
theorem un_neg : UnR X (unaryOp .USub) (rU fun i => .int (-i)) := unI fun _ _ _ _ _ q => neg_int q
end
def scal : V → V → Bool
  | .non, .non => true | .non, .int _ => true | .int _, .non => true | .non, .bl _ => true | .bl _, .non => true | .non, .str _ => true | .str _, .non => true
  | .int _, .int _ => true | .bl _, .bl _ => true | .str _, .str _ => true | .byt _, .byt _ => true
  | .int _, .str _ => true | .str _, .int _ => true | .bl _, .str _ => true | .str _, .bl _ => true
  | _, _ => false
def rEq : R2 := fun x y H Q => scal x y = true ∧ Q (.bl (decide (x = y))) H
def rNe : R2 := fun x y H Q => scal x y = true ∧ Q (.bl (!decide (x = y))) H
theorem dec_int {i j : Int} : decide (V.int i = V.int j) = (i == j) := by
  rw [Bool.eq_iff_iff]
  simp
theorem dec_bl {i j : Bool} : decide (V.bl i = V.bl j) = (i == j) := by
  rw [Bool.eq_iff_iff]
  simp
theorem dec_str {i j : Str} : decide (V.str i = V.str j) = (i == j) := by
  rw [Bool.eq_iff_iff]
  simp
theorem dec_byt {i j : Array UInt8} : decide (V.byt i = V.byt j) = (i.toList == j.toList) := by
  rw [Bool.eq_iff_iff]
  cases i
  cases j
  simp
section
variable {X : Cx} {a b c : Expr} {ta tb tc : TE} {pos : Pos}
theorem fin_bl {pins : List (Addr × Obj)} {σ : St} {H : Hp} {s : Shared} {Q : VK} {k k' : Bool} (I : Inv X pins σ H s) (q : Q (.bl k) H) (e : k = k') : EP X pins σ Q (.bool k') s := by
  subst e
  exact ⟨.bl k, H, I, rfl, q⟩
theorem op_eq : OpR X (compareOp .Eq) rEq := by
  intro pins s σ H x y v u Q I rx ry h
  obtain ⟨hs, q⟩ := h
  cases x with
  | non =>
    cases rx
    cases y with
    | non => cases ry; exact PySem.EqNone.eq_none_none (fin_bl I q (by simp))
    | bl j => cases ry; exact PySem.EqNone.eq_none_bool (fin_bl I q (by simp))
    | int j => obtain ⟨t', rfl⟩ := ry; exact PySem.EqNone.eq_none_int (fin_bl I q (by simp))
    | str j => obtain ⟨t', rfl⟩ := ry; exact PySem.EqNone.eq_none_str (fin_bl I q (by simp))
    | _ => exact absurd (show false = true from hs) Bool.false_ne_true
  | bl i =>
    cases rx
    cases y with
    | non => cases ry; exact PySem.EqNone.eq_bool_none (fin_bl I q (by simp))
    | bl j => cases ry; exact eq_bool (fin_bl I q dec_bl)
    | str j => obtain ⟨t', rfl⟩ := ry; exact PySem.EqMixed.eq_bool_str (fin_bl I q (by simp))
    | _ => exact absurd (show false = true from hs) Bool.false_ne_true
  | int i =>
    obtain ⟨t, rfl⟩ := rx
    cases y with
    | non => cases ry; exact PySem.EqNone.eq_int_none (fin_bl I q (by simp))
    | int j => obtain ⟨t', rfl⟩ := ry; exact eq_int (fin_bl I q dec_int)
    | str j => obtain ⟨t', rfl⟩ := ry; exact PySem.EqMixed.eq_int_str (fin_bl I q (by simp))
    | _ => exact absurd (show false = true from hs) Bool.false_ne_true
  | str i =>
    obtain ⟨t, rfl⟩ := rx
    cases y with
    | non => cases ry; exact PySem.EqNone.eq_str_none (fin_bl I q (by simp))
    | bl j => cases ry; exact PySem.EqMixed.eq_str_bool (fin_bl I q (by simp))
    | int j => obtain ⟨t', rfl⟩ := ry; exact PySem.EqMixed.eq_str_int (fin_bl I q (by simp))
    | str j => obtain ⟨t', rfl⟩ := ry; exact eq_str (fin_bl I q dec_str)
    | _ => exact absurd (show false = true from hs) Bool.false_ne_true
  | byt i =>
    obtain ⟨t, rfl⟩ := rx
    cases y with
    | byt j => obtain ⟨t', rfl⟩ := ry; exact PySem.W.eq_bytes (fin_bl I q dec_byt)
    | _ => exact absurd (show false = true from hs) Bool.false_ne_true
  | _ => cases y <;> exact absurd (show false = true from hs) Bool.false_ne_true
theorem op_ne : OpR X (compareOp .NotEq) rNe := by
  intro pins s σ H x y v u Q I rx ry h
  obtain ⟨hs, q⟩ := h
  cases x with
  | non =>
    cases rx
    cases y with
    | non => cases ry; exact PySem.EqNone.ne_none_none (fin_bl I q (by simp))
    | bl j => cases ry; exact PySem.EqNone.ne_none_bool (fin_bl I q (by simp))
    | int j => obtain ⟨t', rfl⟩ := ry; exact PySem.EqNone.ne_none_int (fin_bl I q (by simp))
    | str j => obtain ⟨t', rfl⟩ := ry; exact PySem.EqNone.ne_none_str (fin_bl I q (by simp))
    | _ => exact absurd (show false = true from hs) Bool.false_ne_true
  | bl i =>
    cases rx
    cases y with
    | non => cases ry; exact PySem.EqNone.ne_bool_none (fin_bl I q (by simp))
    | bl j => cases ry; exact ne_bool (fin_bl I q (congrArg not dec_bl))
    | str j => obtain ⟨t', rfl⟩ := ry; exact PySem.EqMixed.ne_bool_str (fin_bl I q (by simp))
    | _ => exact absurd (show false = true from hs) Bool.false_ne_true
  | int i =>
    obtain ⟨t, rfl⟩ := rx
    cases y with
    | non => cases ry; exact PySem.EqNone.ne_int_none (fin_bl I q (by simp))
    | int j => obtain ⟨t', rfl⟩ := ry; exact ne_int (fin_bl I q (congrArg not dec_int))
    | str j => obtain ⟨t', rfl⟩ := ry; exact PySem.EqMixed.ne_int_str (fin_bl I q (by simp))
    | _ => exact absurd (show false = true from hs) Bool.false_ne_true
  | str i =>
    obtain ⟨t, rfl⟩ := rx
    cases y with
    | non => cases ry; exact PySem.EqNone.ne_str_none (fin_bl I q (by simp))
    | bl j => cases ry; exact PySem.EqMixed.ne_str_bool (fin_bl I q (by simp))
    | int j => obtain ⟨t', rfl⟩ := ry; exact PySem.EqMixed.ne_str_int (fin_bl I q (by simp))
    | str j => obtain ⟨t', rfl⟩ := ry; exact ne_str (fin_bl I q (congrArg not dec_str))
    | _ => exact absurd (show false = true from hs) Bool.false_ne_true
  | byt i =>
    obtain ⟨t, rfl⟩ := rx
    cases y with
    | byt j => obtain ⟨t', rfl⟩ := ry; exact PySem.W.ne_bytes (fin_bl I q (congrArg not dec_byt))
    | _ => exact absurd (show false = true from hs) Bool.false_ne_true
  | _ => cases y <;> exact absurd (show false = true from hs) Bool.false_ne_true
theorem op_lt : OpR X (compareOp .Lt) (rI0 fun i j => .bl (decide (i < j))) := opB0 fun _ _ _ _ _ _ _ q => lt_int q
theorem op_le : OpR X (compareOp .LtE) (rI0 fun i j => .bl (decide (i ≤ j))) := opB0 fun _ _ _ _ _ _ _ q => le_int q
theorem op_gt : OpR X (compareOp .Gt) (rI0 fun i j => .bl (decide (j < i))) := opB0 fun _ _ _ _ _ _ _ q => gt_int q
theorem op_ge : OpR X (compareOp .GtE) (rI0 fun i j => .bl (decide (j ≤ i))) := opB0 fun _ _ _ _ _ _ _ q => ge_int q
theorem op_in_str : OpR X (compareOp .In) (fun x y H Q => ∃ i j, x = .str i ∧ y = .str j ∧ Q (.bl (!(Builtin.Str.occurrences j i 0 j.length 1).isEmpty)) H) := by
  intro pins s σ H x y v u Q I rx ry h
  obtain ⟨i, j, rfl, rfl, q⟩ := h
  obtain ⟨t, rfl⟩ := rx
  obtain ⟨t', rfl⟩ := ry
  exact in_str (fin_bl I q rfl)
theorem nomark (b : Expr) {op : CmpOp} (h : op ≠ .In := by decide) (h2 : op ≠ .NotIn := by decide) : behindInMarks op b = false := by
  have e1 : (op == CmpOp.In) = false := by cases op <;> first | rfl | exact absurd rfl h
  have e2 : (op == CmpOp.NotIn) = false := by cases op <;> first | rfl | exact absurd rfl h2
  cases b <;> simp [behindInMarks, e1, e2]
theorem pe_cmpR {op : CmpOp} {r : R2} (ho : OpR X (compareOp op) r) (ha : PE X a ta) (hb : PE X b tb) (hm : behindInMarks op b = false) : PE X (.Compare a [op] [b] pos) (tOp r ta tb) := by
  intro pins s σ H Q I h
  exact wpAny_Compare1 (binT ha hb I h fun v u s2 x y H2 I2 rx ry q => ho pins s2 σ H2 x y v u Q I2 rx ry q) hm
def tTest (t : TE) : TT := fun σ H Q => t σ H fun x H' => ∃ k, x = .bl k ∧ Q k H'
theorem pt_cmpR {op : CmpOp} {r : R2} (ho : OpR X (compareOp op) r) (ha : PE X a ta) (hb : PE X b tb) (hm : behindInMarks op b = false) : PT X (.Compare a [op] [b] pos) (tTest (tOp r ta tb)) := by
  intro pins s σ H Q I h
  refine wpAny_isTrue_Compare1 (thn (ha pins s σ H _ I h) fun v s1 ⟨x, H1, I1, r1, q1⟩ => thn (hb pins s1 σ H1 _ I1 q1) fun u s2 ⟨y, H2, I2, r2, q2⟩ =>
    thn (ho pins s2 σ H2 x y v u _ I2 r1 r2 q2) fun c s3 ⟨z, H3, I3, r3, k, e, q3⟩ => ?_) hm
  subst e
  cases r3
  exact wpAny_truthy_bool ⟨H3, I3, q3⟩
def tChain (r r' : R2) (ta tb tc : TE) : TE := fun σ H Q => ta σ H fun x H1 => tb σ H1 fun y H2 => r x y H2 fun z H3 => ∃ k, z = .bl k ∧
  (if k = true then tc σ H3 fun w' H4 => r' y w' H4 Q else Q (.bl false) H3)
theorem pe_chain {op op' : CmpOp} {r r' : R2} (ho : OpR X (compareOp op) r) (ho' : OpR X (compareOp op') r') (ha : PE X a ta) (hb : PE X b tb) (hc : PE X c tc)
    (hm : lastMarks [op, op'] [b, c] = false := by with_unfolding_all rfl) : PE X (.Compare a [op, op'] [b, c] pos) (tChain r r' ta tb tc) := by
  intro pins s σ H Q I h
  refine Compare_chain (thn (ha pins s σ H _ I h) fun v s1 ⟨x, H1, I1, r1, q1⟩ => chain_link (thn (hb pins s1 σ H1 _ I1 q1) fun u s2 ⟨y, H2, I2, r2, q2⟩ =>
    thn (ho pins s2 σ H2 x y v u _ I2 r1 r2 q2) fun d s3 ⟨z, H3, I3, r3, k, e, q3⟩ => ?_)) hm
  subst e
  cases r3
  refine wpAny_truthy_bool ?_
  cases k with
  | false => exact ite_ff ⟨.bl false, H3, I3, rfl, q3⟩
  | true => exact ite_tt (chain_last (thn (hc pins s3 σ H3 _ I3 q3) fun w' s4 ⟨z', H4, I4, r4, q4⟩ => ho' pins s4 σ H4 y z' u w' Q I4 r2 r4 q4))
theorem pt_chain {op op' : CmpOp} {r r' : R2} (ho : OpR X (compareOp op) r) (ho' : OpR X (compareOp op') r') (ha : PE X a ta) (hb : PE X b tb) (hc : PE X c tc)
    (hm : lastMarks [op, op'] [b, c] = false := by with_unfolding_all rfl) : PT X (.Compare a [op, op'] [b, c] pos) (tTest (tChain r r' ta tb tc)) := by
  intro pins s σ H Q I h
  refine isTrue_chain (thn (ha pins s σ H _ I h) fun v s1 ⟨x, H1, I1, r1, q1⟩ => test_link (thn (hb pins s1 σ H1 _ I1 q1) fun u s2 ⟨y, H2, I2, r2, q2⟩ =>
    thn (ho pins s2 σ H2 x y v u _ I2 r1 r2 q2) fun d s3 ⟨z, H3, I3, r3, k, e, q3⟩ => ?_)) hm
  subst e
  cases r3
  refine wpAny_truthy_bool ?_
  cases k with
  | false =>
    obtain ⟨k', e', q'⟩ := q3
    cases e'
    exact ite_ff ⟨H3, I3, q'⟩
  | true =>
    refine ite_tt (test_last (thn (hc pins s3 σ H3 _ I3 q3) fun w' s4 ⟨z', H4, I4, r4, q4⟩ => thn (ho' pins s4 σ H4 y z' u w' _ I4 r2 r4 q4) fun d' s5 ⟨z2, H5, I5, r5, k2, e2, q5⟩ => ?_))
    subst e2
    cases r5
    exact wpAny_truthy_bool ⟨H5, I5, q5⟩
theorem line63 : (sizeLine : Nat) < 2 ^ 63 := by rw [sizeLine_eq]; decide
theorem op_add_str : OpR X (binaryOp .Add) (fun x y H Q => ∃ i j, x = .str i ∧ y = .str j ∧ i.length + j.length ≤ sizeLine ∧ Q (.str (i ++ j)) H) := by
  intro pins s σ H x y v u Q I rx ry h
  obtain ⟨i, j, rfl, rfl, hz, q⟩ := h
  obtain ⟨t, rfl⟩ := rx
  obtain ⟨t', rfl⟩ := ry
  exact add_str (fun t' tk => ⟨.str (i ++ j), H, I.tok _, ⟨_, rfl⟩, q⟩) hz
theorem vals1 {x : V} {us : List Value} (r : Vals [x] us) : ∃ u, us = [u] ∧ RelV x u := by
  cases r with
  | cons r1 r2 => cases r2; exact ⟨_, rfl, r1⟩
theorem call_str_int : CallR X (.type "str") (fun xs H Q => ∃ i, xs = [.int i] ∧ i.natAbs.log2 < 1920 ∧ Q (.str (toString i)) H) := by
  intro pins s σ H xs us Q I r h
  obtain ⟨i, rfl, hz, q⟩ := h
  obtain ⟨u, rfl, t, rfl⟩ := vals1 r
  exact PySem.P.str_of_int hz ⟨.str _, H, I.tok _, ⟨_, rfl⟩, q⟩
end
end L2
namespace L2
open PySem PySem.Spec PyProof.Rows
structure ObjM (h : Heap) (x dx C : Addr) (mA : Str → Option Value) : Prop where
  obj : h.get? x = some (PySem.W.instObj C dx)
  ns : h.Ns1 dx mA
  ne : dx ≠ x
theorem lookIn_ns {h : Heap} {dx : Addr} {mA : Str → Option Value} (n : h.Ns1 dx mA) : ∃ od, h.get? dx = some od ∧ ∀ name, PySem.W.lookIn name od = some (mA name) := by
  obtain ⟨o, es, ep, ho, hd, hk, _, hm⟩ := n
  refine ⟨o, ho, fun name => ?_⟩
  have e := hm name
  unfold nsFind findBy at e
  rw [← Array.find?_toList] at e
  unfold PySem.W.lookIn
  rw [hd]
  dsimp only
  split
  · rename_i y q
    rw [q] at e
    exact congrArg some e
  · rename_i q
    rw [q] at e
    have a : es.toList.any (·.refKey) = false := by
      rw [List.any_eq_false]
      intro y hy
      obtain ⟨z, t, hkey⟩ := hk y (Array.mem_toList_iff.mp hy)
      simp [DictEntry.refKey, hkey]
    have a' : ¬ es.toList.any (·.refKey) = true := by rw [a]; exact Bool.false_ne_true
    rw [if_neg a']
    exact congrArg some e
theorem ObjM.look {h : Heap} {x dx C : Addr} {mA : Str → Option Value} (I : ObjM h x dx C mA) : ∃ od, PySem.W.InstAt h x (PySem.W.instObj C dx) C (some od) ∧ ∀ name, PySem.W.lookIn name od = some (mA name) :=
  let ⟨od, ho, hl⟩ := lookIn_ns I.ns
  ⟨od, ⟨I.obj, rfl, rfl, ho⟩, hl⟩
section
variable {prog : Program} {w : World} {A : Around} {E : Value → Shared → Prop} {s : Shared} {K : PySem.W.Frag} {x dx C f : Addr} {mA : Str → Option Value} {name : Str} {v : Value}
end
theorem RelO.some_of {v : V} {o : Option Value} (r : RelO (some v) o) : ∃ u, o = some u ∧ RelV v u := by
  cases o with
  | none => exact (show False from r).elim
  | some u => exact ⟨u, rfl, r⟩
theorem handed_of {v : V} {u : Value} (r : RelV v u) : PySem.W.handedIn u = true := by
  cases v with
  | non => cases (show u = Value.none from r); rfl
  | bl b => cases (show u = Value.bool b from r); rfl
  | int i => obtain ⟨t, e⟩ := (show ∃ t, u = Value.int i t from r); cases e; rfl
  | str x => obtain ⟨t, e⟩ := (show ∃ t, u = Value.str x t from r); cases e; rfl
  | byt b => obtain ⟨t, e⟩ := (show ∃ t, u = Value.bytes b t from r); cases e; rfl
  | flt b => obtain ⟨t, e⟩ := (show ∃ t, u = Value.float b t from r); cases e; rfl
  | ref a => cases (show u = Value.ref a from r); rfl
  | ty n => cases (show u = Value.type n from r); rfl
section
variable {P : Program} {w : World} {H H' : Hp} {h h' : Heap} {a C dx : Addr} {fs fs' : List (Str × V)}
theorem ins_get (hok : HOk P w H h) (e : H a = some (.ins C dx fs)) : ∃ mA, ObjM h a dx C mA ∧ (∀ f, RelO (fs.lookup f) (mA f)) ∧ PySem.Within mA (fs.map (·.1)) ∧ fs.length ≤ 1000 ∧ H dx = some (.own a) := by
  obtain ⟨d, z, ne, ob, mA, n, r, q⟩ := (show ObjOk P w H h a (.ins C dx fs) from hok a _ e)
  exact ⟨mA, ⟨ob, n, ne⟩, r, q, z, d⟩
end
structure Cls (K : PySem.W.Frag) (C : Addr) : Prop where
  pg : PySem.W.plainGet K C Str.empty = true
  hd : PySem.W.hasDictIn K C = true
  po : PySem.W.plainOver K C = true
  sa : PySem.W.findIn K (.ref C) "__setattr__" = some (some (.builtin "object.__setattr__"))
theorem Cls.get {K : PySem.W.Frag} {C : Addr} (c : Cls K C) (f : Str) : PySem.W.plainGet K C f = true := c.pg
structure Meth (K : PySem.W.Frag) (C : Addr) (m : Str) (f : Addr) : Prop where
  at_ : PySem.W.findIn K (.ref C) m = some (some (.ref f))
  fn : PySem.W.isFn K (.ref f) = true
  kp : PySem.W.keepIn K (.ref f) = true
section
variable {X : Cx} {pins : List (Addr × Obj)} {σ : St} {H : Hp} {s : Shared} {a C dx : Addr} {fs : List (Str × V)} {f : Str} {v : V} {A : Around} {E : Value → Shared → Prop}
theorem attr_of {prog : Program} {w : World} {env : Env} {e : Expr} {f : Str} {pos : Pos} {s : Shared} {Q : Value → Shared → Prop} (hb : attributeBase e f env (eval e env) = eval e env)
    (h : wpAny (model prog w) A (eval e env) (fun o s₁ => wpAny (model prog w) A (getAttr o f true) Q E s₁) E s) : wpAny (model prog w) A (eval (.Attribute e f pos) env) Q E s :=
  Attribute_any_ h (by rw [arm_eval_Attribute, hb])
end
section
variable {X : Cx} {o e value : Expr} {f : Str} {pos pos' tpos : Pos} {ta tv : TE}
end
section
variable {X : Cx} {pins : List (Addr × Obj)} {σ : St} {H : Hp} {s : Shared} {A : Around} {E : Value → Shared → Prop} {Q : Value → Shared → Prop} {c : Value} {b : Bool}
inductive TyOf (K : PySem.W.Frag) (H : Hp) : V → Value → Prop where
  | non : TyOf K H .non (.type "NoneType")
  | bl (x : Bool) : TyOf K H (.bl x) (.type "bool")
  | int (i : Int) : TyOf K H (.int i) (.type "int")
  | str (x : Str) : TyOf K H (.str x) (.type "str")
  | flt (x : UInt64) : TyOf K H (.flt x) (.type "float")
  | lst {a : Addr} {xs : List V} (e : H a = some (.lst xs)) : TyOf K H (.ref a) (.type "list")
  | frz {a : Addr} {o : Obj} {xs : List V} (e : H a = some (.frz o (.lst xs))) : TyOf K H (.ref a) (.type "list")
  | tup {a : Addr} {xs : List V} (e : H a = some (.tup xs)) : TyOf K H (.ref a) (.type "tuple")
  | dK {a : Addr} {kvs : List (Key × V)} (e : H a = some (.dK kvs)) : TyOf K H (.ref a) (.type "dict")
  | dT {a : Addr} {kvs : List (List Key × V)} (e : H a = some (.dT kvs)) : TyOf K H (.ref a) (.type "dict")
  | ins {a C dx : Addr} {fs : List (Str × V)} (e : H a = some (.ins C dx fs)) (cl : Cls K C) (ha : PySem.W.findIn K (.ref C) "__class__" = some (some (.builtin "object.__class__")))
      (hn : PySem.W.specialIn K (.builtin "object.__class__") "__get__" = some (some (.builtin "getset_descriptor.__get__"))) (htk : PySem.W.takesIn K (.builtin "object.__class__") = some true)
      (hm : PySem.W.mroIn K C (.type "object") = some true) : TyOf K H (.ref a) (.ref C)
theorem isinst_ok {x : V} {u t : Value} (I : Inv X pins σ H s) (rx : RelV x u) (ty : TyOf X.K H x t) (e : PySem.W.kitOne X.K t c = some b) (h : ∀ tk, Q (.bool b) { s with toks := tk }) :
    wpAny (model X.prog X.w) A (call (.builtin "isinstance") [u, c]) Q E s := by
  cases ty with
  | non => cases (show u = Value.none from rx); exact PySem.W.kia_one PySem.W.kitx_none I.kIn True.intro e (fun z => nomatch z) h
  | bl y => cases (show u = Value.bool y from rx); exact PySem.W.kia_one PySem.W.kitx_bool I.kIn True.intro e (fun z => nomatch z) h
  | int i => obtain ⟨t, q⟩ := (show ∃ t, u = Value.int i t from rx); cases q; exact PySem.W.kia_one PySem.W.kitx_int I.kIn True.intro e (fun z => nomatch z) h
  | str y => obtain ⟨t, q⟩ := (show ∃ t, u = Value.str y t from rx); cases q; exact PySem.W.kia_one PySem.W.kitx_str I.kIn True.intro e (fun z => nomatch z) h
  | flt y => obtain ⟨t, q⟩ := (show ∃ t, u = Value.float y t from rx); cases q; exact PySem.W.kia_one PySem.W.kitx_float I.kIn True.intro e (fun z => nomatch z) h
  | @lst a xs ea =>
    cases (show u = Value.ref a from rx)
    obtain ⟨_, _, n, _, h1⟩ := (show ObjOk X.prog X.w H s.heap a (.lst xs) from I.hok a _ ea)
    exact PySem.W.kia_one PySem.W.kitx_list I.kIn ⟨_, h1, rfl⟩ e (fun z => nomatch z) h
  | @frz a ob xs ea =>
    cases (show u = Value.ref a from rx)
    obtain ⟨_, _, _, n, _, h1⟩ := (show ObjOk X.prog X.w H s.heap a (.frz ob (.lst xs)) from I.hok a _ ea)
    exact PySem.W.kia_one PySem.W.kitx_list I.kIn ⟨_, h1, rfl⟩ e (fun z => nomatch z) h
  | @tup a xs ea =>
    cases (show u = Value.ref a from rx)
    obtain ⟨_, _, _, p⟩ := (show ObjOk X.prog X.w H s.heap a (.tup xs) from I.hok a _ ea)
    obtain ⟨o, h1, h2, _⟩ := p
    exact PySem.W.kia_one PySem.W.kitx_tuple I.kIn ⟨o, h1, h2⟩ e (fun z => nomatch z) h
  | @dK a kvs ea =>
    cases (show u = Value.ref a from rx)
    obtain ⟨_, _, vs, _, p⟩ := (show ObjOk X.prog X.w H s.heap a (.dK kvs) from I.hok a _ ea)
    obtain ⟨o, es, ep, h1, h2, _⟩ := p
    exact PySem.W.kia_one PySem.W.kitx_dict I.kIn ⟨o, h1, h2.1⟩ e (fun z => nomatch z) h
  | @dT a kvs ea =>
    cases (show u = Value.ref a from rx)
    obtain ⟨_, _, xs, _, o, es, ep, h1, h2, _⟩ := (show ObjOk X.prog X.w H s.heap a (.dT kvs) from I.hok a _ ea)
    exact PySem.W.kia_one PySem.W.kitx_dict I.kIn ⟨o, h1, h2.1⟩ e (fun z => nomatch z) h
  | @ins a C dx fs ea cl ha hn htk hm =>
    cases (show u = Value.ref a from rx)
    obtain ⟨mA, O, _⟩ := ins_get I.hok ea
    obtain ⟨od, J, _⟩ := O.look
    exact PySem.W.kia_one (PySem.W.kitx_own (cl.get _) cl.hd ha hn htk hm) I.kIn J e (fun z => nomatch z) h
end
end L2
namespace L2
open PySem PySem.Spec PyProof.Rows
structure Room (k : Nat) (A : Around) : Prop where
  hd : A.handled = none
  dp : A.depth + 3 * k + 5 < recursionLimit
  un : A.units + 16 * k + 200 < cLine
theorem Room.mono {j k : Nat} {A : Around} (r : Room k A) (h : j ≤ k) : Room j A := ⟨r.hd, by have := r.dp; omega, by have := r.un; omega⟩
theorem Room.deeper {k : Nat} {A : Around} (r : Room (k + 1) A) (env : Env) : Room k (A.deeper env) :=
  ⟨r.hd, by have := r.dp; show A.depth + 1 + 3 * k + 5 < _; omega, by have := r.un; show A.units + 3 + 16 * k + 200 < _; omega⟩
theorem make_depth {A : Around} {C : Addr} {us : List Value} {kw : List (Str × Value)} : (A.under (.builtin "type.__call__" ⟨.ref C :: us, kw⟩)).depth = A.depth + 1 := by
  first | rfl | simp [Around.under, Code.weight, Code.isCreation, Code.isGuard, Code.isCaller, Code.frames, Code.isFrame, guardIds]
theorem make_units {A : Around} {C : Addr} {us : List Value} {kw : List (Str × Value)} : (A.under (.builtin "type.__call__" ⟨.ref C :: us, kw⟩)).units = A.units + 1 := by
  first | rfl | simp [Around.under, Code.cUnits, Code.frames, Code.isFrame]
theorem Room.make {k : Nat} {A : Around} (r : Room (k + 1) A) (C : Addr) (us : List Value) (kw : List (Str × Value)) : Room k (A.under (.builtin "type.__call__" ⟨.ref C :: us, kw⟩)) :=
  ⟨r.hd, by have := r.dp; rw [make_depth]; omega, by have := r.un; rw [make_units]; omega⟩
theorem Room.depth {k : Nat} {A : Around} (r : Room k A) : A.depth < recursionLimit := by have := r.dp; omega
theorem Room.units {k : Nat} {A : Around} (r : Room k A) : A.units + 64 < cLine := by have := r.un; omega
def tNil : TA := fun _ H Q => Q [] H
def tCons (ta : TE) (tr : TA) : TA := fun σ H Q => ta σ H fun x H1 => tr σ H1 fun xs H2 => Q (x :: xs) H2
section
variable {X : Cx} {e : Expr} {es : List Expr} {te : TE} {t : TA} {pos : Pos}
theorem pa_nil : PA X [] tNil := fun _ _ _ _ H Q I h => Calls.spliced_nil ⟨[], H, I, .nil, h⟩
theorem pa_cons (ha : PE X e te) (hr : PA X es t) (hs : starEach (e :: es) X.env = (false, eval e X.env) :: starEach es X.env := by rfl) : PA X (e :: es) (tCons te t) := by
  intro pos pins s σ H Q I h
  rw [hs]
  show wpAny _ _ (spliced ((false, eval e X.env) :: backTo pos (starEach es X.env))) _ _ s
  refine Calls.spliced_cons (thn (ha pins s σ H _ I h) fun u s1 ⟨x, H1, I1, r1, q1⟩ => ?_)
  exact thn (hr pos pins s1 σ H1 _ I1 q1) fun us s2 ⟨xs, H2, I2, r2, q2⟩ => ⟨x :: xs, H2, I2, .cons r1 r2, q2⟩
def tTup (t : TA) : TE := fun σ H Q => t σ H fun xs H1 => xs.length ≤ sizeLine ∧ ∀ p, H1 p = none → Q (.ref p) (upd H1 p (.tup xs))
def tLst (t : TA) : TE := fun σ H Q => t σ H fun xs H1 => xs.length ≤ sizeLine ∧ ∀ p, H1 p = none → Q (.ref p) (upd H1 p (.lst xs))
theorem pe_tup {x1} (h : PA X es t) : PE X (.Tuple es x1 pos) (tTup t) := by
  intro pins s σ H Q I hq
  refine wpAny_Tuple_spliced (thn (h pos pins s σ H _ I hq) fun us s1 ⟨xs, H1, I1, r, z, q⟩ => ⟨by rw [← r.length]; exact z, ?_⟩)
  have hf : H1 s1.heap.objs.size = none := I1.hok.fresh (Nat.le_refl _)
  refine ⟨.ref s1.heap.objs.size, upd H1 s1.heap.objs.size (.tup xs), I1.laid (t' := s1.toks) (fun b u e => Heap.get?_push_of_some _ e) (Nat.le_refl _) ?_, rfl, q _ hf⟩
  exact ⟨z, us, r, ⟨_, Heap.get?_push_size _ rfl, rfl, _, rfl⟩⟩
theorem pe_lst (h : PA X es t) : PE X (.List es pos) (tLst t) := by
  intro pins s σ H Q I hq
  refine wpAny_List_spliced (thn (h pos pins s σ H _ I hq) fun us s1 ⟨xs, H1, I1, r, z, q⟩ => ⟨by rw [← r.length]; exact z, ?_⟩)
  have hf : H1 s1.heap.objs.size = none := I1.hok.fresh (Nat.le_refl _)
  refine ⟨.ref s1.heap.objs.size, upd H1 s1.heap.objs.size (.lst xs), I1.laid (t' := s1.toks) (fun b u e => Heap.get?_push_of_some _ e) (Nat.le_refl _) ?_, rfl, q _ hf⟩
  exact ⟨z, us, 0, r, Heap.get?_push_size _ rfl⟩
end
abbrev Sp := List V → Hp → VK → XK → Prop
abbrev CXT := List Env → Hp → Shared → XK → Value → Shared → Prop
structure Env0 (P : Program) (w : World) (K : PySem.W.Frag) (mg : Str → Option Value) (base : Heap) (A : Around) (outer : List Env) (s : Shared) (H : Hp) : Prop where
  frames : A.frames = some outer
  mod : Mod K mg base
  bs : ∀ b o, base.get? b = some o → s.heap.get? b = some o ∧ H b = none
  bsz : base.objs.size ≤ s.heap.objs.size
  funs : s.heap.FunFrames base outer
  frf : ∀ b ∈ frs outer, H b = none
  hok : HOk P w H s.heap
  bare : AllBare s.gens
def CE (outer : List Env) (P : Program) (w : World) (H : Hp) (s : Shared) (Q : VK) (u : Value) (s' : Shared) : Prop :=
  ∃ v H', s'.os = s.os ∧ AllBare s'.gens ∧ Un (frs outer) [] H H' s.heap s'.heap ∧ HOk P w H' s'.heap ∧ RelV v u ∧ Q v H'
def CR (CX : CXT) (outer : List Env) (P : Program) (w : World) (H : Hp) (s : Shared) (Q : VK) (E : XK) (r : Result) (s' : Shared) : Prop :=
  match r with
  | .ok (.ret u) => CE outer P w H s Q u s'
  | .ok _ => False
  | .error e => CX outer H s E e s'
structure FnOk (P : Program) (w : World) (K : PySem.W.Frag) (mg : Str → Option Value) (base : Heap) (CX : CXT) (k : Nat) (f : Addr) (fd : FuncData) (ps : List Str) (sp : Sp) : Prop where
  len : ∀ vs H Q E, sp vs H Q E → vs.length = ps.length
  run : ∀ (A : Around) (outer : List Env) (s : Shared) (H : Hp) (args : Args) (us : List Value) (vs : List V) (Q : VK) (E : XK), Room k A → Env0 P w K mg base A outer s H → BindsTo s fd args (ps.zip us) → Vals vs us → sp vs H Q E →
    codeAny (model P w) A (.call (.ref f) args) (CR CX outer P w H s Q E) s
theorem Env0.make {P : Program} {w : World} {K : PySem.W.Frag} {mg : Str → Option Value} {base : Heap} {A : Around} {outer : List Env} {s : Shared} {H : Hp} (e : Env0 P w K mg base A outer s H) (C : Addr) (us : List Value) (kw : List (Str × Value)) :
    Env0 P w K mg base (A.under (.builtin "type.__call__" ⟨.ref C :: us, kw⟩)) outer s H := ⟨by first | exact e.frames | (simpa [Around.under, Code.envs, Code.isFrame, pushEnvs] using e.frames), e.mod, e.bs, e.bsz, e.funs, e.frf, e.hok, e.bare⟩
section
variable {X : Cx} {pins : List (Addr × Obj)} {σ : St} {H : Hp} {s s' : Shared}
theorem Inv.env0 (I : Inv X pins σ H s) : Env0 X.prog X.w X.K X.mg X.base X.A X.stack s H :=
  ⟨I.ok.frames, I.ok.mod, I.bs, Nat.le_trans I.ok.bsz I.sz, I.stack, I.stkFree, I.hok, I.bare⟩
theorem Inv.after {Q : VK} {u : Value} (I : Inv X pins σ H s) (h : CE X.stack X.prog X.w H s Q u s') : EP X pins σ Q u s' := by
  obtain ⟨v, H', os, bare, un, hok, r, q⟩ := h
  obtain ⟨hh, g, d, t, os'⟩ := s'
  obtain rfl : os' = s.os := os
  exact ⟨v, H', I.call (h' := hh) (g' := g) (d' := d) (t' := t) (ch := []) un hok bare (fun b z => absurd z (by simp)), r, q⟩
end
def tCall (sp : Sp) (dvs : List V) (E : XK) (t : TA) : TE := fun σ H Q => t σ H fun vs H1 => sp (vs ++ dvs) H1 Q E
def Binds (K : PySem.W.Frag) (fd : FuncData) (ps : List Str) (ds : List Value) : Prop :=
  ∀ (s : Shared) (us : List Value), K.In s.heap → (us ++ ds).length = ps.length → BindsTo s fd ⟨us, []⟩ (ps.zip (us ++ ds))
theorem Binds.all {K : PySem.W.Frag} {fd : FuncData} {ps : List Str} (h : ∀ us : List Value, us.length = ps.length → bindArgs fd ⟨us, []⟩ = pure (ps.zip us)) : Binds K fd ps [] := fun s us _ hl => by
  rw [List.append_nil] at hl ⊢
  exact .of_eq (h us hl)
def Passes (CX : CXT) (X : Cx) (E : XK) : Prop := ∀ (pins : List (Addr × Obj)) (σ : St) (H : Hp) (s : Shared) (e : Value) (s' : Shared), Inv X pins σ H s → CX X.stack H s E e s' → X.xe e s'
section
variable {X : Cx} {CX : CXT} {k : Nat} {f C : Addr} {fd : FuncData} {ps : List Str} {sp : Sp} {dvs : List V} {ds : List Value} {E : XK} {x m : Str} {p pos apos : Pos} {e o : Expr} {es : List Expr} {ta : TE} {t : TA}
theorem run_fn {pins : List (Addr × Obj)} {σ : St} {H : Hp} {s : Shared} {Q : VK} {us : List Value} {vs : List V} (F : FnOk X.prog X.w X.K X.mg X.base CX k f fd ps sp) (hr : Room k X.A) (hb : Binds X.K fd ps ds) (hd : Vals dvs ds) (hx : Passes CX X E)
    (I : Inv X pins σ H s) (r : Vals vs us) (h : sp (vs ++ dvs) H Q E) : wpAny (model X.prog X.w) X.A (call (.ref f) us) (EP X pins σ Q) X.xe s := by
  have r2 : Vals (vs ++ dvs) (us ++ ds) := r.append hd
  have hl : (us ++ ds).length = ps.length := by rw [← r2.length]; exact F.len _ _ _ _ h
  refine wpAny_call (codeAny_mono (F.run X.A X.stack s H ⟨us, []⟩ (us ++ ds) (vs ++ dvs) Q E hr I.env0 (hb s us I.kIn hl) r2 h) fun r s' hq => ?_)
  cases r with
  | error e => exact hx pins σ H s e s' I hq
  | ok fl =>
    cases fl with
    | ret u => exact I.after hq
    | next => exact False.elim hq
    | brk => exact False.elim hq
    | cont => exact False.elim hq
theorem pe_call (F : FnOk X.prog X.w X.K X.mg X.base CX k f fd ps sp) (hr : Room k X.A) (hg : Gl X x) (hm : X.mg x = some (.ref f)) (hk : PySem.W.keepIn X.K (.ref f) = true) (hb : Binds X.K fd ps ds) (hd : Vals dvs ds) (hx : Passes CX X E)
    (ha : PA X (e :: es) t) (hdb : (x == ("__debug__" : Str)) = false := by decide) (he : starEach (e :: es) X.env = (false, eval e X.env) :: starEach es X.env := by rfl) (hpl : (backTo pos (starEach es X.env)).any (·.1) = false := by rfl) :
    PE X (.Call (.Name x p) (e :: es) [] pos) (tCall sp dvs E t) := by
  intro pins s σ H Q I h
  refine wpAny_Call_Name_kw (ld_glob I hg hm ?_ hdb)
  refine PySem.W.callWith_K (h₀ := X.base) I.ok.mod.kin hk (thn (ha pos pins s σ H _ I h) fun us s1 ⟨vs, H1, I1, r, q⟩ => ⟨I1.kIn, ?_⟩) he hpl
  exact run_fn F hr hb hd hx I1 r q
end
def PK (X : Cx) (kws : List Keyword) (t : TA) : Prop :=
  ∀ (pos : Pos) (pins : List (Addr × Obj)) (s : Shared) (σ : St) (H : Hp) (Q : List V → Hp → Prop), Inv X pins σ H s → t σ H Q → wpAny (model X.prog X.w) X.A (evalAll ((backToKw pos (keywordEach kws X.env)).map (·.2))) (AP X pins σ Q) X.xe s
section
variable {X : Cx} {CX : CXT} {k : Nat} {f C : Addr} {fd : FuncData} {ps ks : List Str} {sp : Sp} {E : XK} {x m : Str} {p pos apos kpos : Pos} {e o : Expr} {es : List Expr} {kws : List Keyword} {te ta : TE} {t tk : TA} {nm : Option Str}
theorem pk_nil : PK X [] tNil := fun _ _ _ _ H Q I h => wpAny_evalAll_nil ⟨[], H, I, .nil, h⟩
theorem pk_cons (ha : PE X e te) (hr : PK X kws t) : PK X (⟨nm, e, kpos⟩ :: kws) (tCons te t) := by
  intro pos pins s σ H Q I h
  show wpAny _ _ (evalAll ((do let v ← eval e X.env; standAt pos; pure v) :: (backToKw pos (keywordEach kws X.env)).map (·.2))) _ _ s
  refine wpAny_evalAll_cons (wpAny_bind (thn (ha pins s σ H _ I h) fun u s1 ⟨x, H1, I1, r1, q1⟩ => wpAny_bind (wpAny_standAt (wpAny_pure ?_))))
  exact thn (hr pos pins s1 σ H1 _ I1 q1) fun us s2 ⟨xs, H2, I2, r2, q2⟩ => ⟨x :: xs, H2, I2, .cons r1 r2, q2⟩
structure KBinds (K : PySem.W.Frag) (fd : FuncData) (ps ks : List Str) (g : List Value → List Value → List Value) (gV : List V → List V → List V) : Prop where
  to : ∀ (s : Shared) (us ws : List Value), K.In s.heap → (g us ws).length = ps.length → BindsTo s fd ⟨us, ks.zip ws⟩ (ps.zip (g us ws))
  rel : ∀ {vs : List V} {us : List Value} {zs : List V} {ws : List Value}, Vals vs us → Vals zs ws → Vals (gV vs zs) (g us ws)
variable {g : List Value → List Value → List Value} {gV : List V → List V → List V}
end
structure FnScope (N P : List Str) (sc : Scope) : Prop where
  kind : sc.kind = .function
  co : sc.isCoroutine = false
  gen : sc.isGenerator = false
  nd : N.Nodup
  pre : N.take P.length = P
  par : ∀ x ∈ P, sc.names.lookup x = some .local ∨ sc.names.lookup x = some .cell
  nofree : ∀ y ∈ sc.names, y.2 ≠ .free
theorem bindL_out {kindOf : Str → Option NameKind} {x : Str} : ∀ {binds : List (Str × Value)} {m : Str → Option Value}, (∀ v, (x, v) ∉ binds) → bindL kindOf binds m x = m x
  | [], _, _ => rfl
  | (n, v) :: r, m, h => by
    unfold bindL
    rw [bindL_out fun w hw => h w (List.mem_cons_of_mem _ hw)]
    split
    · have : x ≠ n := by rintro rfl; exact h v List.mem_cons_self
      simp [this]
    · rfl
theorem bindC_out {kindOf : Str → Option NameKind} {x : Str} : ∀ {binds : List (Str × Value)} {m : Str → Option Value}, (∀ v, (x, v) ∉ binds) → bindC kindOf binds m x = m x
  | [], _, _ => rfl
  | (n, v) :: r, m, h => by
    unfold bindC
    rw [bindC_out fun w hw => h w (List.mem_cons_of_mem _ hw)]
    split
    · rfl
    · have : x ≠ n := by rintro rfl; exact h v List.mem_cons_self
      simp [this]
theorem bindL_get {kindOf : Str → Option NameKind} {x : Str} {v : Value} : ∀ {P : List Str} {vs : List Value} {i : Nat} {m : Str → Option Value}, P.Nodup → P[i]? = some x → vs[i]? = some v → kindOf x = some .local →
    bindL kindOf (P.zip vs) m x = some v
  | [], _, _, _, _, h, _, _ => by simp at h
  | _ :: _, [], _, _, _, _, h, _ => by simp at h
  | p :: P, w :: vs, 0, m, nd, h1, h2, hk => by
    simp at h1 h2; subst h1; subst h2
    show bindL kindOf ((p, w) :: P.zip vs) m p = _
    unfold bindL
    rw [bindL_out fun v hv => (List.nodup_cons.mp nd).1 (List.of_mem_zip hv).1, if_pos hk]
    simp
  | p :: P, w :: vs, i + 1, m, nd, h1, h2, hk => by
    show bindL kindOf ((p, w) :: P.zip vs) m x = _
    unfold bindL
    exact bindL_get (i := i) (List.nodup_cons.mp nd).2 (by simpa using h1) (by simpa using h2) hk
theorem bindC_get {kindOf : Str → Option NameKind} {x : Str} {v : Value} : ∀ {P : List Str} {vs : List Value} {i : Nat} {m : Str → Option Value}, P.Nodup → P[i]? = some x → vs[i]? = some v → kindOf x ≠ some .local →
    bindC kindOf (P.zip vs) m x = some v
  | [], _, _, _, _, h, _, _ => by simp at h
  | _ :: _, [], _, _, _, _, h, _ => by simp at h
  | p :: P, w :: vs, 0, m, nd, h1, h2, hk => by
    simp at h1 h2; subst h1; subst h2
    show bindC kindOf ((p, w) :: P.zip vs) m p = _
    unfold bindC
    rw [bindC_out fun v hv => (List.nodup_cons.mp nd).1 (List.of_mem_zip hv).1, if_neg hk]
    simp
  | p :: P, w :: vs, i + 1, m, nd, h1, h2, hk => by
    show bindC kindOf ((p, w) :: P.zip vs) m x = _
    unfold bindC
    exact bindC_get (i := i) (List.nodup_cons.mp nd).2 (by simpa using h1) (by simpa using h2) hk
def start (N : List Str) (vs : List V) : St := vs.map some ++ List.replicate (N.length - vs.length) none
def cxOf (CX : CXT) (P : Program) (w : World) (K : PySem.W.Frag) (mg : Str → Option Value) (base : Heap) (N : List Str) (qual : Str) (scope : Scope) (f : Addr) (cd : Value) (A : Around) (outer : List Env) (s : Shared) (H : Hp) (E : XK) : Cx where
  prog := P
  w := w
  K := K
  mg := mg
  base := base
  A := A.deeper (envOfC qual scope s.heap.objs.size f cd)
  N := N
  s₀ := s
  H₀ := H
  env := envOfC qual scope s.heap.objs.size f cd
  outer := outer
  stack := envOfC qual scope s.heap.objs.size f cd :: outer
  ex := []
  calm := true
  fn := fun _ => true
  pn := []
  xe := fun e s' => wpAny (model P w) (A.deeper (envOfC qual scope s.heap.objs.size f cd)) (leaving (envOfC qual scope s.heap.objs.size f cd) e) (fun _ s'' => CX outer H s E e s'') (fun e' s'' => CX outer H s E e' s'') s'
theorem cell_has {sc : Scope} {n : Nat} {x : Str} (h : sc.names.lookup x = some .cell) : ∃ c, (cellsFrom n sc.names []).lookup x = some c := by
  have q := PySem.W.cellsFrom_some sc.names n [] (.inl h)
  exact Option.isSome_iff_exists.mp q
theorem inv_start {CX : CXT} {P : Program} {w : World} {K : PySem.W.Frag} {mg : Str → Option Value} {base : Heap} {N ps : List Str} {qual : Str} {scope : Scope} {f : Addr} {cd : Value} {A : Around} {outer : List Env} {s s1 : Shared} {H : Hp} {E : XK} {us : List Value} {vs : List V}
    (S : FnScope N ps scope) (hd : A.handled = none) (e0 : Env0 P w K mg base A outer s H) (hl : vs.length = ps.length) (r : Vals vs us)
    (x : InCallC s s.heap.objs.size (bindL (envOfC qual scope s.heap.objs.size f cd).kindOf (ps.zip us) fun _ => none) (cellsFrom (s.heap.objs.size + 1) scope.names []) (bindC (envOfC qual scope s.heap.objs.size f cd).kindOf (ps.zip us) fun _ => none) s1) :
    Inv (cxOf CX P w K mg base N qual scope f cd A outer s H E) [] (start N vs) H s1 := by
  have hpl : ps.length ≤ N.length := by have := congrArg List.length S.pre; rw [List.length_take] at this; omega
  obtain ⟨h1, tk, rfl, hk⟩ := x.done
  have noA : ∀ b : Addr, b ∉ (cxOf CX P w K mg base N qual scope f cd A outer s H E).ex := fun b z => absurd (show b ∈ ([] : List Addr) from z) (by simp)
  refine ⟨⟨e0.mod, S.kind, rfl, rfl, Nat.le_refl _, fun y z c h1 h2 => ?_, fun y hy => ?_, fun y c _ h => ?_, fun _ => hd, Around.frames_deeper e0.frames, .inr ⟨rfl, rfl⟩, fun b z => absurd z (noA b), e0.bs, e0.bsz, fun b _ _ => noA b, fun b z => absurd z (noA b), e0.funs, e0.frf⟩,
    rfl, e0.bare, Un.kept hk, ⟨_, x.toInCall.ns, fun i y v h1 h2 h3 => ?_⟩, fun y c h => ⟨_, x.cell y c h⟩, e0.hok.fresh (Nat.le_refl _), fun y c h => ?_, fun p hp => absurd (show p ∈ ([] : List (Addr × Obj)) from hp) (by simp), e0.hok.kept hk, ?_⟩
  · exact name_of_addr x.apart (PySem.mem_of_lookup h1) (PySem.mem_of_lookup h2)
  · have hy : scope.names.lookup y = some .cell ∨ scope.names.lookup y = some .free := hy
    rcases hy with hy | hy
    · exact cell_has hy
    · exact absurd rfl (S.nofree _ (PySem.mem_of_lookup hy))
  · exact Nat.le_of_lt (x.above y c (PySem.mem_of_lookup h))
  · have hi : i < vs.length := by
      unfold start at h2
      by_cases hi : i < vs.length
      · exact hi
      · rw [List.getElem?_append_right (by simpa using hi)] at h2
        rw [List.getElem?_replicate] at h2
        split at h2 <;> cases h2
    have ha : vs[i]? = some v := by
      unfold start at h2
      rw [List.getElem?_append_left (by simpa using hi), List.getElem?_map] at h2
      cases e : vs[i]? with
      | none => rw [e] at h2; cases h2
      | some a => rw [e] at h2; cases h2; rfl
    obtain ⟨u, hu, rv⟩ := r.get ha
    have hp : ps[i]? = some y := by
      rw [← S.pre, List.getElem?_take_of_lt (by omega)]; exact h1
    have ndP : ps.Nodup := by rw [← S.pre]; exact S.nd.sublist (List.take_sublist _ _)
    refine ⟨u, rv, ?_⟩
    rcases S.par y (List.mem_of_getElem? hp) with k | k
    · exact .inl ⟨k, bindL_get ndP hp hu k⟩
    · obtain ⟨c, e⟩ := cell_has (n := s.heap.objs.size + 1) k
      refine .inr ⟨.inl k, c, e, ?_⟩
      have q := x.cell y c e
      rw [bindC_get ndP hp hu (by show scope.names.lookup y ≠ _; rw [k]; decide)] at q
      exact q
  · exact e0.hok.fresh (Nat.le_of_lt (x.above y c (PySem.mem_of_lookup h)))
  · unfold start
    show _ = N.length
    rw [List.length_append, List.length_map, List.length_replicate]
    omega
theorem fn_of {CX : CXT} {P : Program} {w : World} {K : PySem.W.Frag} {mg : Str → Option Value} {base : Heap} {k : Nat} {f : Addr} {name qual : Str} {params : Arguments} {body : List Stmt} {scope : Scope} {dV kV doc pm cdv ct oc : Value} {an od : Option Addr}
    {osl : Array (Option Value)} {N ps : List Str} {sp : Sp} (lk : K.lookup f = some ⟨oc, od, .func (PySem.W.fnOf name qual params body scope dV kV doc pm an cdv ct), osl⟩) (hcd : PySem.W.codeIn K cdv qual = true) (S : FnScope N ps scope)
    (len : ∀ vs H Q E, sp vs H Q E → vs.length = ps.length)
    (hbody : ∀ (A : Around) (outer : List Env) (s : Shared) (H : Hp) (vs : List V) (Q : VK) (E : XK), Room k (A.deeper (envOfC qual scope s.heap.objs.size f cdv)) → sp vs H Q E →
      ∃ t, PSs (cxOf CX P w K mg base N qual scope f cdv A outer s H E) body t ∧ t { nx := fun _ H' => Q .non H', rt := Q } (start N vs) H) :
    FnOk P w K mg base CX (k + 1) f (PySem.W.fnOf name qual params body scope dV kV doc pm an cdv ct) ps sp := by
  refine ⟨len, fun A outer s H args us vs Q E hr e0 hb r hsp => ?_⟩
  have hl := len _ _ _ _ hsp
  have KX : K.In s.heap := e0.mod.kin.keeps fun b o e => (e0.bs b o e).1
  have lim : s.heap.NoLimit := e0.mod.nolimit.keeps fun b o e => (e0.bs b o e).1
  have hkind : ∀ y ∈ ps.zip us, scope.names.lookup y.1 = some .local ∨ (scope.names.lookup y.1 = some .cell ∧ ((cellsFrom (s.heap.objs.size + 1) scope.names []).lookup y.1).isSome = true) := fun ⟨n, v⟩ hy => by
    rcases S.par n (List.of_mem_zip hy).1 with q | q
    · exact .inl q
    · exact .inr ⟨q, PySem.W.cellsFrom_some _ _ _ (.inl q)⟩
  refine codeAny_call_function hr.depth (KX _ _ lk) rfl S.co S.gen rfl (PySem.W.codeRec_of KX hcd) (hb _ _ _ _ ?_)
  refine wpAny_newFunctionEnv_cells S.kind hkind fun env he s1 x => ?_
  subst he
  refine ⟨lim.keeps x.toInCall.keep, codeAny_func ?_⟩
  obtain ⟨t, ht, hq⟩ := hbody A outer s H vs Q E (hr.deeper _) hsp
  have I : Inv (cxOf CX P w K mg base N qual scope f cdv A outer s H E) [] (start N vs) H s1 := inv_start S hr.hd e0 hl r x
  refine wpAny_mono (ht [] s1 (start N vs) H _ I hq) (fun fl s' hs => ?_) fun e s' hs => hs
  have fin : ∀ {σ' : St} {H' : Hp} {v : V} {u : Value}, Inv (cxOf CX P w K mg base N qual scope f cdv A outer s H E) [] σ' H' s' → RelV v u → Q v H' → CE outer P w H s Q u s' :=
    fun {σ' H' v u} J rv q => ⟨v, H', J.os, J.bare, J.base, J.hok, rv, q⟩
  cases fl with
  | ret u =>
    obtain ⟨v, σ', H', J, rv, q⟩ := hs
    exact fin J rv q
  | next =>
    obtain ⟨σ', H', J, q⟩ := hs
    exact fin (v := V.non) (u := Value.none) J rfl q
  | brk =>
    obtain ⟨_, _, _, q⟩ := hs
    exact False.elim q
  | cont =>
    obtain ⟨_, _, _, q⟩ := hs
    exact False.elim q
end L2
namespace L2
open PySem PySem.Spec PyProof.Rows
section
variable {X : Cx} {x : Str} {p pos : Pos} {e : Expr} {es : List Expr} {t : TA} {id T : String} {r : List V → Hp → VK → Prop}
def tCB (r : List V → Hp → VK → Prop) (t : TA) : TE := fun σ H Q => t σ H fun vs H1 => r vs H1 Q
theorem pe_callB (hc : CallR X (.builtin id) r) (hg : Gl X x) (hm : X.mg x = none) (hv : bootBuiltins x = some (.builtin id)) (ha : PA X (e :: es) t) (hn : x ≠ "__name__" := by decide) (hdb : (x == ("__debug__" : Str)) = false := by decide)
    (he : starEach (e :: es) X.env = (false, eval e X.env) :: starEach es X.env := by rfl) (hpl : (backTo pos (starEach es X.env)).any (·.1) = false := by rfl) : PE X (.Call (.Name x p) (e :: es) [] pos) (tCB r t) := by
  intro pins s σ H Q I h
  refine wpAny_Call_Name_kw (ld_blt I hg hm hv ?_ hn hdb)
  exact PyProof.Rows.callWith_builtin1 (thn (ha pos pins s σ H _ I h) fun us s1 ⟨vs, H1, I1, r1, q1⟩ => hc pins s1 σ H1 vs us Q I1 r1 q1) he hpl
theorem pe_callTy (hc : CallR X (.type T) r) (hg : Gl X x) (hm : X.mg x = none) (hv : bootBuiltins x = some (.type T)) (ha : PA X (e :: es) t) (hn : x ≠ "__name__" := by decide) (hdb : (x == ("__debug__" : Str)) = false := by decide)
    (he : starEach (e :: es) X.env = (false, eval e X.env) :: starEach es X.env := by rfl) (hpl : (backTo pos (starEach es X.env)).any (·.1) = false := by rfl) : PE X (.Call (.Name x p) (e :: es) [] pos) (tCB r t) := by
  intro pins s σ H Q I h
  refine wpAny_Call_Name_kw (ld_blt I hg hm hv ?_ hn hdb)
  exact PyProof.Rows.callWith_type1 (thn (ha pos pins s σ H _ I h) fun us s1 ⟨vs, H1, I1, r1, q1⟩ => hc pins s1 σ H1 vs us Q I1 r1 q1) he hpl
end
end L2
namespace HT
open PySem PyProof.Rows
section
open PySem.SeqAt
open PySem.AutoSeq1 (wpAny_loadPart')
open PySem.MeetsSeq PySem.MeetsSeq2 PySem.MeetsSeq3
end
section
variable {prog : Program} {w : World} {A : Around} {E : Value → Shared → Prop} {s : Shared}
def sIx (n d : Nat) : Option Int → Nat
  | none => d
  | some v => if v < 0 then (v + (n : Int)).toNat else min v.toNat n
theorem sIx_none (n d : Nat) : sIx n d none = d := rfl
theorem sIx_nat (n d k : Nat) : sIx n d (some (k : Int)) = min k n := by
  show (if (k : Int) < 0 then ((k : Int) + (n : Int)).toNat else min (k : Int).toNat n) = min k n
  rw [if_neg (by omega), Int.toNat_natCast]
end
end HT
namespace L2
open PySem PySem.Spec PyProof.Rows
abbrev TO := St → Hp → (Option Int → Hp → Prop) → Prop
def PO (X : Cx) (e : Option Expr) (t : TO) : Prop :=
  ∀ (pins : List (Addr × Obj)) (s : Shared) (σ : St) (H : Hp) (Q : Option Int → Hp → Prop), Inv X pins σ H s → t σ H Q →
    wpAny (model X.prog X.w) X.A (evalPart e X.env) (fun u s' => ∃ o H', Inv X pins σ H' s' ∧ IsPart u o ∧ Q o H') X.xe s
def tNoPart : TO := fun _ H Q => Q none H
def tPart (t : TE) : TO := fun σ H Q => t σ H fun x H1 => ∃ i, x = .int i ∧ Q (some i) H1
section
variable {X : Cx} {e : Expr} {te : TE} {lo hi : Option Expr} {tl th : TO} {pos p2 : Pos}
theorem po_none : PO X none tNoPart := by
  intro pins s σ H Q I h
  rw [evalPart_none]
  exact wpAny_pure ⟨none, H, I, .none, h⟩
theorem po_some (h : PE X e te) : PO X (some e) (tPart te) := by
  intro pins s σ H Q I hw
  rw [evalPart_some]
  refine thn (h pins s σ H _ I hw) fun u s1 ⟨x, H1, I1, r1, q1⟩ => ?_
  obtain ⟨i, rfl, q⟩ := q1
  obtain ⟨t, rfl⟩ := r1
  exact ⟨some i, H1, I1, .int i t, q⟩
def SlR (X : Cx) (r : V → Option Int → Option Int → Hp → VK → Prop) : Prop :=
  ∀ (pins : List (Addr × Obj)) (s : Shared) (σ : St) (H : Hp) (x : V) (v vl vu : Value) (lo hi : Option Int) (sl : Addr) (Q : VK), Inv X pins σ H s → RelV x v → s.heap.IsSliceOf sl vl vu .none → IsPart vl lo → IsPart vu hi → r x lo hi H Q →
    ∃ T id, typeLookup (.type T) "__getitem__" = pure (some (.builtin id)) ∧ s.TypeIs v T ∧ wpAny (model X.prog X.w) X.A (getItem v (.ref sl)) (EP X pins σ Q) X.xe s
def tSl (r : V → Option Int → Option Int → Hp → VK → Prop) (te : TE) (tl th : TO) : TE := fun σ H Q => te σ H fun x H1 => tl σ H1 fun l H2 => th σ H2 fun u H3 => r x l u H3 Q
theorem pe_slice {r : V → Option Int → Option Int → Hp → VK → Prop} (hr : SlR X r) (he : PE X e te) (hl : PO X lo tl) (hu : PO X hi th) : PE X (.Subscript e (.Slice lo hi none p2) pos) (tSl r te tl th) := by
  intro pins s σ H Q I h
  refine Subscript_ (thn (he pins s σ H _ I h) fun v s1 ⟨x, H1, I1, r1, q1⟩ => ?_)
  refine wpAny_Slice (thn (hl pins s1 σ H1 _ I1 q1) fun vl s2 ⟨l, H2, I2, pl, q2⟩ => thn (hu pins s2 σ H2 _ I2 q2) fun vu s3 ⟨u, H3, I3, pu, q3⟩ => ?_)
  rw [evalPart_none]
  refine wpAny_pure ?_
  have I4 : Inv X pins σ H3 { s3 with heap := s3.heap.push { cls := .type "slice", data := .fields #[vl, vu, .none] } } := I3.kept (t' := s3.toks) fun b ob q => Heap.get?_push_of_some _ q
  obtain ⟨T, id, hT, ht, hg⟩ := hr pins { s3 with heap := s3.heap.push { cls := .type "slice", data := .fields #[vl, vu, .none] } } σ H3 x v vl vu l u s3.heap.objs.size Q I4 r1 (Heap.IsSliceOf.new ..) pl pu q3
  show wpAny (model X.prog X.w) X.A (subscriptTail e (.Slice lo hi none p2) v (.ref s3.heap.objs.size)) (EP X pins σ Q) X.xe { s3 with heap := s3.heap.push { cls := .type "slice", data := .fields #[vl, vu, .none] } }
  exact tail_any (ops := [.ref s3.heap.objs.size, v]) ht hT hg (by with_unfolding_all rfl)
def cutV (xs : List V) (lo hi : Option Int) : List V := (xs.drop (HT.sIx xs.length 0 lo)).take (HT.sIx xs.length xs.length hi - HT.sIx xs.length 0 lo)
theorem cutV_length (xs : List V) (lo hi : Option Int) : (cutV xs lo hi).length ≤ xs.length := by
  unfold cutV
  rw [List.length_take, List.length_drop]
  omega
end
end L2
namespace L2
open PySem PySem.Spec PyProof.Rows
def ixN (n : Nat) (i : Int) : Option Nat := if 0 ≤ i then (if i < n then some i.toNat else none) else if -(n : Int) ≤ i then some (i + n).toNat else none
def atI {α : Type} (xs : List α) (i : Int) : Option α := (ixN xs.length i).bind fun j => xs[j]?
theorem ixN_seq {n : Nat} {i : Int} {j : Nat} (h : ixN n i = some j) : seqIndex? i n = some j ∧ j < n ∧ -(n : Int) ≤ i ∧ i < n := by
  unfold ixN at h
  by_cases h0 : 0 ≤ i
  · rw [if_pos h0] at h
    by_cases h1 : i < n
    · rw [if_pos h1] at h
      have e : i.toNat = j := Option.some.inj h
      exact ⟨by rw [seqIndex_of h0 h1, e], by omega, by omega, h1⟩
    · rw [if_neg h1] at h; cases h
  · rw [if_neg h0] at h
    by_cases h1 : -(n : Int) ≤ i
    · rw [if_pos h1] at h
      have e : (i + n).toNat = j := Option.some.inj h
      exact ⟨by rw [seqIndex_neg (by omega) h1, e], by omega, h1, by omega⟩
    · rw [if_neg h1] at h; cases h
theorem atI_get {α : Type} {xs : List α} {i : Int} {v : α} (h : atI xs i = some v) : ∃ j, seqIndex? i xs.length = some j ∧ xs[j]? = some v ∧ j < xs.length ∧ -(xs.length : Int) ≤ i ∧ i < xs.length := by
  unfold atI at h
  cases e : ixN xs.length i with
  | none => rw [e] at h; cases h
  | some j =>
    rw [e] at h
    obtain ⟨h1, h2, h3, h4⟩ := ixN_seq e
    exact ⟨j, h1, h, h2, h3, h4⟩
theorem atI_nat {α : Type} {xs : List α} {j : Nat} {v : α} (h : xs[j]? = some v) : atI xs (j : Int) = some v := by
  have hj : j < xs.length := (List.getElem?_eq_some_iff.mp h).1
  have e : ixN xs.length (j : Int) = some j := by
    unfold ixN
    rw [if_pos (by omega), if_pos (by omega)]; simp
  unfold atI; rw [e]; exact h
def PlainIx (b : Expr) : Prop := ∀ o i, subscripted b false o i = operate [o, i] (getItem o i)
def IxR (X : Cx) (r : R2) : Prop :=
  ∀ (value slice : Expr) (pins : List (Addr × Obj)) (s : Shared) (σ : St) (H : Hp) (x y : V) (v u : Value) (Q : VK), Inv X pins σ H s → RelV x v → RelV y u → r x y H Q →
    subscripted slice false v u = operate [v, u] (getItem v u) → wpAny (model X.prog X.w) X.A (subscriptTail value slice v u) (EP X pins σ Q) X.xe s
def MtR (X : Cx) (id : String) (r : V → List V → Hp → VK → Prop) : Prop :=
  ∀ (pins : List (Addr × Obj)) (s : Shared) (σ : St) (H : Hp) (x : V) (xs : List V) (v : Value) (us : List Value) (Q : VK), Inv X pins σ H s → RelV x v → Vals xs us → r x xs H Q →
    wpAny (model X.prog X.w) X.A (call (.builtin id) (v :: us)) (EP X pins σ Q) X.xe s
section
variable {X : Cx} {a b : Expr} {ta tb : TE} {pos : Pos}
theorem pe_ix {r : R2} (hr : IxR X r) (ha : PE X a ta) (hb : PE X b tb) (hs : PlainIx b) : PE X (.Subscript a b pos) (tOp r ta tb) := by
  intro pins s σ H Q I h
  exact Subscript_ (binT ha hb I h fun v u s2 x y H2 I2 rx ry q => hr a b pins s2 σ H2 x y v u Q I2 rx ry q (hs _ _))
def rIxL (K : PySem.W.Frag) : R2 := fun x y H Q => ∃ p xs i v, x = .ref p ∧ y = .int i ∧ SqL K H p xs ∧ atI xs i = some v ∧ Q v H
def rIxS : R2 := fun x y H Q => ∃ z i c, x = .str z ∧ y = .int i ∧ z.length ≤ sizeLine ∧ atI z.cps.toList i = some c ∧ Q (.str ⟨#[c]⟩) H
theorem ix_list : IxR X (rIxL X.K) := by
  intro value slice pins s σ H x y v u Q I rx ry h hs
  obtain ⟨p, xs, i, z, rfl, rfl, hq, he, q⟩ := h
  cases rx
  obtain ⟨t, rfl⟩ := ry
  obtain ⟨its, r, pl, hz⟩ := I.list hq
  obtain ⟨j, h1, h2, h3, h4, h5⟩ := atI_get he
  obtain ⟨w, ew, rw'⟩ := r.get h2
  have hl := r.length
  have hn := line63
  have fin : EP X pins σ Q w s := ⟨z, H, I, rw', q⟩
  by_cases h0 : 0 ≤ i
  · have hj : i.toNat = j := by
      rw [seqIndex_of h0 h5] at h1
      exact Option.some.inj h1
    exact item_listR pl.isList h0 (by omega) (by rw [hj]; simpa using ew) fin hs
  · have hj : (i + (its.toArray.size : Int)).toNat = j := by
      rw [seqIndex_neg (by omega) h4] at h1
      rw [List.size_toArray, ← hl]
      exact Option.some.inj h1
    exact subscriptTail_builtinR (x := w) pl.isList.typeIs slot_list_getitem.lookup
      (wpAny_getItem_list_neg (Q := fun r s' => r = w ∧ EP X pins σ Q r s') pl.isList (by omega) (by rw [List.size_toArray] <;> omega) (by omega) (by rw [hj]; simpa using ew) ⟨rfl, fin⟩) hs
theorem ix_str : IxR X rIxS := by
  intro value slice pins s σ H x y v u Q I rx ry h hs
  obtain ⟨z, i, c, rfl, rfl, hz, he, q⟩ := h
  obtain ⟨t, rfl⟩ := rx
  obtain ⟨t', rfl⟩ := ry
  obtain ⟨j, h1, h2, h3, h4, h5⟩ := atI_get he
  have hl : z.cps.toList.length = z.length := by simp [Str.length]
  rw [hl] at h1 h4 h5
  have hn := line63
  exact tail_any (typeIs_str s z t) slot_str_getitem.lookup (getItem_str (c := c) (by
    have e1 : decide (i < -(2 ^ 63 : Int)) = false := decide_eq_false (by omega)
    have e2 : decide (i ≥ 2 ^ 63) = false := decide_eq_false (by omega)
    rw [e1, e2, Bool.or_false]) (by rw [h1]; simpa using h2) ⟨.str ⟨#[c]⟩, H, I.tok _, ⟨_, rfl⟩, q⟩) hs
theorem slice_bounds (lo hi : Option Int) (n : Nat) : (sliceBounds lo hi none n).1 = ((HT.sIx n 0 lo : Nat) : Int) ∧ (sliceBounds lo hi none n).2.1 = ((HT.sIx n n hi : Nat) : Int) ∧ (sliceBounds lo hi none n).2.2 = 1 := by
  refine ⟨?_, ?_, rfl⟩
  · cases lo with
    | none => simp [sliceBounds, HT.sIx]
    | some i =>
      simp only [sliceBounds, HT.sIx, Option.getD_none, show (1 : Int) > 0 by decide, if_true]
      by_cases h : i < 0
      · simp only [h, if_true] <;> omega
      · simp only [h, if_false] <;> omega
  · cases hi with
    | none => simp [sliceBounds, HT.sIx]
    | some i =>
      simp only [sliceBounds, HT.sIx, Option.getD_none, show (1 : Int) > 0 by decide, if_true]
      by_cases h : i < 0
      · simp only [h, if_true] <;> omega
      · simp only [h, if_false] <;> omega
theorem slicePick_cut (its : List Value) (lo hi : Option Int) : slicePick its.toArray lo hi none = ((its.drop (HT.sIx its.length 0 lo)).take (HT.sIx its.length its.length hi - HT.sIx its.length 0 lo)).toArray := by
  obtain ⟨h1, h2, h3⟩ := slice_bounds lo hi its.toArray.size
  unfold slicePick
  rw [h1, h2, h3]
  simp only [sliceRange_one, pick_run, List.size_toArray] <;> rfl
def rSlL (K : PySem.W.Frag) : V → Option Int → Option Int → Hp → VK → Prop := fun x lo hi H Q => ∃ a xs, x = .ref a ∧ SqL K H a xs ∧ ∀ p, H p = none → Q (.ref p) (upd H p (.lst (cutV xs lo hi)))
theorem sl_list : SlR X (rSlL X.K) := by
  intro pins s σ H x v vl vu lo hi sl Q I rx hs pl pu h
  obtain ⟨a, xs, rfl, hx, q⟩ := h
  cases rx
  obtain ⟨its, r, ht, hz⟩ := I.list hx
  have hlen := r.length
  refine ⟨"list", _, slot_list_getitem.lookup, ht.isList.typeIs, ?_⟩
  refine wpAny_getItem_list_slice ht.isList hs pl pu .none (by simp) ?_ (by rw [List.size_toArray] <;> omega)
  rw [slicePick_cut, ← hlen]
  refine ⟨.ref s.heap.objs.size, _, I.laid (t' := s.toks) (o := .lst (cutV xs lo hi)) (fun b ob q => Heap.get?_push_of_some _ q) (Nat.le_refl _) ?_, rfl, q _ (I.hok.fresh (Nat.le_refl _))⟩
  exact ⟨Nat.le_trans (cutV_length xs lo hi) hz, _, 0, (r.drop (HT.sIx xs.length 0 lo)).take (HT.sIx xs.length xs.length hi - HT.sIx xs.length 0 lo), Heap.get?_push_size _ rfl⟩
def flatV : V → Bool
  | .non => true
  | .bl _ => true
  | .int _ => true
  | .str _ => true
  | _ => false
def eqV : V → V → Bool
  | .non, .non => true
  | .bl a, .bl b => a == b
  | .bl a, .int b => (if a then 1 else 0) == b
  | .int a, .bl b => a == (if b then 1 else 0)
  | .int a, .int b => a == b
  | .str a, .str b => a == b
  | _, _ => false
theorem eqAt_V {A : Around} {s : Shared} {y x : V} {u v : Value} (ry : RelV y u) (rx : RelV x v) (fy : flatV y = true) (fx : flatV x = true) : SeqAt.EqAt A s u v (eqV y x) := by
  cases y with
  | non =>
    cases ry
    cases x with
    | non => cases rx; exact SeqAt.EqAt.same _
    | bl b => cases rx; exact SeqAt.EqAt.none_bool b
    | int b => obtain ⟨t, rfl⟩ := rx; exact SeqAt.EqAt.none_int b t
    | str b => obtain ⟨t, rfl⟩ := rx; exact SeqAt.EqAt.none_str b t
    | _ => exact absurd (show false = true from fx) Bool.false_ne_true
  | bl a =>
    cases ry
    cases x with
    | non => cases rx; exact SeqAt.EqAt.bool_none a
    | bl b => cases rx; exact SeqAt.EqAt.bool_bool a b
    | int b => obtain ⟨t, rfl⟩ := rx; exact SeqAt.EqAt.bool_int a b t
    | str b => obtain ⟨t, rfl⟩ := rx; exact SeqAt.EqAt.bool_str a b t
    | _ => exact absurd (show false = true from fx) Bool.false_ne_true
  | int a =>
    obtain ⟨t', rfl⟩ := ry
    cases x with
    | non => cases rx; exact SeqAt.EqAt.int_none a t'
    | bl b => cases rx; exact SeqAt.EqAt.int_bool a t' b
    | int b => obtain ⟨t, rfl⟩ := rx; exact SeqAt.EqAt.int_int a t' b t
    | str b => obtain ⟨t, rfl⟩ := rx; exact SeqAt.EqAt.int_str a t' b t
    | _ => exact absurd (show false = true from fx) Bool.false_ne_true
  | str a =>
    obtain ⟨t', rfl⟩ := ry
    cases x with
    | non => cases rx; exact SeqAt.EqAt.str_none a t'
    | bl b => cases rx; exact SeqAt.EqAt.str_bool a t' b
    | int b => obtain ⟨t, rfl⟩ := rx; exact SeqAt.EqAt.str_int a t' b t
    | str b => obtain ⟨t, rfl⟩ := rx; exact SeqAt.EqAt.str_str a t' b t
    | _ => exact absurd (show false = true from fx) Bool.false_ne_true
  | _ => exact absurd (show false = true from fy) Bool.false_ne_true
def eqU (x : V) (u : Value) : Bool := match u with
  | .none => eqV .non x
  | .bool b => eqV (.bl b) x
  | .int i _ => eqV (.int i) x
  | .str z _ => eqV (.str z) x
  | _ => false
theorem eqU_of {x y : V} {u : Value} (r : RelV y u) (f : flatV y = true) : eqU x u = eqV y x := by
  cases y with
  | non => cases r; rfl
  | bl b => cases r; rfl
  | int i => obtain ⟨t, rfl⟩ := r; rfl
  | str z => obtain ⟨t, rfl⟩ := r; rfl
  | _ => exact absurd (show false = true from f) Bool.false_ne_true
theorem any_eqU {x : V} : ∀ {xs : List V} {us : List Value}, Vals xs us → xs.all flatV = true → us.any (eqU x) = xs.any fun y => eqV y x
  | _, _, .nil, _ => rfl
  | y :: xs, u :: us, .cons r t, f => by
    rw [List.all_cons, Bool.and_eq_true] at f
    rw [List.any_cons, List.any_cons, eqU_of r f.1, any_eqU t f.2]
theorem mem_eqAt {A : Around} {s : Shared} {x : V} {v : Value} (rx : RelV x v) (fx : flatV x = true) : ∀ {xs : List V} {us : List Value}, Vals xs us → xs.all flatV = true → ∀ u ∈ us, SeqAt.EqAt A s u v (eqU x u)
  | _, _, .nil, _ => fun u hu => by cases hu
  | y :: xs, u :: us, .cons r t, f => fun u' hu => by
    rw [List.all_cons, Bool.and_eq_true] at f
    rcases List.mem_cons.mp hu with rfl | hu
    · rw [eqU_of r f.1]; exact eqAt_V r rx f.1 fx
    · exact mem_eqAt rx fx t f.2 u' hu
def inV (x : V) (xs : List V) : Bool := xs.any fun y => eqV y x
def rIn (K : PySem.W.Frag) (neg : Bool) : R2 := fun x y H Q => ∃ p xs, y = .ref p ∧ (SqL K H p xs ∨ SqT K H p xs) ∧ flatV x = true ∧ xs.all flatV = true ∧ Q (.bl (if neg then !inV x xs else inV x xs)) H
theorem op_notIn_seq : OpR X (compareOp .NotIn) (rIn X.K true) := by
  intro pins s σ H x y v u Q I rx ry h
  obtain ⟨p, xs, rfl, hq, fx, fs, q⟩ := h
  cases ry
  rcases hq with hq | hq
  · obtain ⟨its, r, pl, hz⟩ := I.list hq
    refine SeqAt.notIn_listAt (eqU x) pl.isList (fun w hw => mem_eqAt rx fx r fs w (by simpa using hw)) ⟨.bl _, H, I, rfl, ?_⟩
    rw [show its.toArray.any (eqU x) = its.any (eqU x) by simp, any_eqU r fs]
    exact q
  · obtain ⟨its, r, pl, hz⟩ := I.tuple hq
    refine SeqAt.notIn_tupleAt (eqU x) pl (fun w hw => mem_eqAt rx fx r fs w (by simpa using hw)) ⟨.bl _, H, I, rfl, ?_⟩
    rw [show its.toArray.any (eqU x) = its.any (eqU x) by simp, any_eqU r fs]
    exact q
theorem op_notIn_str : OpR X (compareOp .NotIn) (fun x y H Q => ∃ i j, x = .str i ∧ y = .str j ∧ Q (.bl (!(!(Builtin.Str.occurrences j i 0 j.length 1).isEmpty))) H) := by
  intro pins s σ H x y v u Q I rx ry h
  obtain ⟨i, j, rfl, rfl, q⟩ := h
  obtain ⟨t, rfl⟩ := rx
  obtain ⟨t', rfl⟩ := ry
  exact notIn_str ⟨.bl _, H, I, rfl, q⟩
theorem call_len_seq : CallR X (.builtin "len") (fun xs H Q => ∃ p ys, xs = [.ref p] ∧ (SqL X.K H p ys ∨ SqT X.K H p ys) ∧ Q (.int ys.length) H) := by
  intro pins s σ H xs us Q I r h
  obtain ⟨p, ys, rfl, hq, q⟩ := h
  obtain ⟨u, rfl, rx⟩ := vals1 r
  cases rx
  have hn := line63
  rcases hq with hq | hq
  · obtain ⟨its, r', pl, hz⟩ := I.list hq
    have hlen := r'.length
    exact Calls.call_len_list pl.isList (by simp only [List.size_toArray] <;> omega) ⟨.int ys.length, H, I.tok _, ⟨s.toks + 1, by rw [List.size_toArray, hlen]⟩, q⟩
  · obtain ⟨its, r', pl, hz⟩ := I.tuple hq
    have hlen := r'.length
    exact len_tuple pl (by simp only [List.size_toArray] <;> omega) ⟨.int ys.length, H, I.tok _, ⟨s.toks + 1, by rw [List.size_toArray, hlen]⟩, q⟩
theorem call_len_str : CallR X (.builtin "len") (fun xs H Q => ∃ z, xs = [.str z] ∧ z.length ≤ sizeLine ∧ Q (.int z.length) H) := by
  intro pins s σ H xs us Q I r h
  obtain ⟨z, rfl, hz, q⟩ := h
  obtain ⟨u, rfl, t, rfl⟩ := vals1 r
  have hn := line63
  exact len_str (by omega) ⟨.int z.length, H, I.tok _, ⟨_, rfl⟩, q⟩
theorem call_tuple_of : CallR X (.type "tuple") (fun xs H Q => ∃ p ys, xs = [.ref p] ∧ ((SqL X.K H p ys ∧ ∀ l, H l = none → Q (.ref l) (upd H l (.tup ys))) ∨ (SqT X.K H p ys ∧ Q (.ref p) H))) := by
  intro pins s σ H xs us Q I r h
  obtain ⟨p, ys, rfl, h⟩ := h
  obtain ⟨u, rfl, rx⟩ := vals1 r
  cases rx
  rcases h with ⟨hq, q⟩ | ⟨hq, q⟩
  · obtain ⟨its, r', pl, hz⟩ := I.list hq
    have hlen := r'.length
    refine call_tuple_list pl.isList (fun h' kp => ?_) (by simp only [List.size_toArray] <;> omega)
    have I1 : Inv X pins σ H { s with heap := h' } := I.kept (t' := s.toks) kp
    have I2 : Inv X pins σ (upd H h'.objs.size (.tup ys)) { s with heap := h'.push { cls := .type "tuple", data := .seq its.toArray } } :=
      I1.laid (t' := s.toks) (fun b o e => Heap.get?_push_of_some _ e) (Nat.le_refl _) (show ObjOk X.prog X.w _ _ _ (.tup ys) from ⟨hz, its, r', IsTup.new _ _⟩)
    exact ⟨.ref h'.objs.size, _, I2, rfl, q _ (I1.hok.fresh (Nat.le_refl _))⟩
  · obtain ⟨its, r', pl, hz⟩ := I.tuple hq
    exact call_tuple_same pl ⟨.ref p, H, I, rfl, q⟩
def tyV (K : PySem.W.Frag) (T : String) (x : V) (H : Hp) : Prop := match x with
  | .str _ => T = "str"
  | .int _ => T = "int"
  | .ref p => (T = "list" ∧ ∃ xs, SqL K H p xs) ∨ (T = "tuple" ∧ ∃ o, K.lookup p = some o ∧ o.cls = .type "tuple" ∧ o.dict = none) ∨
      (T = "dict" ∧ ((∃ kvs, H p = some (.dK kvs)) ∨ ∃ kvs, H p = some (.dT kvs))) ∨ (T = "set" ∧ ∃ S n, H p = some (.set S n))
  | _ => False
theorem tyV_is {pins : List (Addr × Obj)} {σ : St} {H : Hp} {s : Shared} {T : String} {x : V} {v : Value} (I : Inv X pins σ H s) (r : RelV x v) (ty : tyV X.K T x H) :
    s.TypeIs v T ∧ ∀ a, v = .ref a → ∃ ob, s.heap.get? a = some ob ∧ ob.dict = none := by
  cases x with
  | str z =>
    obtain ⟨t, rfl⟩ := r
    cases (show T = "str" from ty)
    exact ⟨typeIs_str s z t, fun _ e => nomatch e⟩
  | int i =>
    obtain ⟨t, rfl⟩ := r
    cases (show T = "int" from ty)
    exact ⟨typeIs_int s i t, fun _ e => nomatch e⟩
  | ref p =>
    cases r
    rcases ty with ⟨rfl, xs, hq⟩ | ⟨rfl, o, hk, hc, hd⟩ | ⟨rfl, hk⟩ | ⟨rfl, S, n, hk⟩
    · obtain ⟨its, _, pl, _⟩ := I.list hq
      refine ⟨pl.isList.typeIs, fun a e => ?_⟩
      cases e
      obtain ⟨o, n, e, c, hd, _⟩ := pl
      exact ⟨o, e, hd⟩
    · refine ⟨⟨o, I.kIn p o hk, hc⟩, fun a e => ?_⟩
      cases e
      exact ⟨o, I.kIn _ o hk, hd⟩
    · have z : ∃ o, s.heap.get? p = some o ∧ o.ExactDict := by
        rcases hk with ⟨kvs, hk⟩ | ⟨kvs, hk⟩
        · obtain ⟨_, _, _, _, o, _, _, e, ex, _⟩ := I.hok p _ hk
          exact ⟨o, e, ex⟩
        · obtain ⟨_, _, _, _, o, _, _, e, ex, _⟩ := I.hok p _ hk
          exact ⟨o, e, ex⟩
      obtain ⟨o, e, ex⟩ := z
      refine ⟨⟨o, e, ex.1⟩, fun a e2 => ?_⟩
      cases e2
      exact ⟨o, e, ex.2.1⟩
    · obtain ⟨o, _, _, _, e, ex, _⟩ := I.hok p _ hk
      refine ⟨⟨o, e, ex.1⟩, fun a e2 => ?_⟩
      cases e2
      exact ⟨o, e, ex.2.1⟩
  | _ => exact False.elim ty
def tBM (K : PySem.W.Frag) (T : String) (r : V → List V → Hp → VK → Prop) (to : TE) (t : TA) : TE := fun σ H Q => to σ H fun x H1 => tyV K T x H1 ∧ t σ H1 fun xs H2 => r x xs H2 Q
variable {o e : Expr} {es : List Expr} {to : TE} {t : TA} {name : Str} {apos cpos : Pos} {T id : String} {r : V → List V → Hp → VK → Prop}
theorem pe_bm (pa : PlainAttrs T) (slot : Slot T name id) (hty : typeOf (.builtin id) = pure (.type "method_descriptor")) (hm : MtR X id r) (ho : PE X o to) (ha : PA X (e :: es) t)
    (hbase : attributeBase o name X.env (eval o X.env) = eval o X.env := by rfl)
    (hfew : ((backTo cpos (starEach (e :: es) X.env)).all (fun x => !x.1) && (backToKw cpos (keywordEach [] X.env)).all (fun x => x.1.isSome)
      && decide ((e :: es).length + ([] : List Keyword).length + (if ([] : List Keyword).isEmpty then 0 else 1) < 30)) = true := by rfl)
    (hline : (apos.endLine == cpos.line) = true := by rfl) (hs : starEach (e :: es) X.env = (false, eval e X.env) :: starEach es X.env := by rfl) (hplain : (backTo cpos (starEach es X.env)).any (·.1) = false := by rfl) :
    PE X (.Call (.Attribute o name apos) (e :: es) [] cpos) (tBM X.K T r to t) := by
  intro pins s σ H Q I h
  refine wpAny_Call_method_late hbase hfew hline rfl (thn (ho pins s σ H _ I h) fun v s1 ⟨x, H1, I1, r1, ty, q1⟩ => ?_)
  obtain ⟨h1, h2⟩ := tyV_is I1 r1 ty
  refine ⟨T, id, pa, slot, hty, h1, h2, ?_⟩
  have hA := ha cpos pins s1 σ H1 _ I1 q1
  rw [hs] at hA ⊢
  refine Calls.callWith_builtin (by show (false || (backTo cpos (starEach es X.env)).any (·.1)) = false; rw [hplain] <;> rfl) (Calls.evalArgs_plain ?_)
  exact thn hA fun us s2 ⟨vs, H2, I2, r2, q2⟩ => hm pins s2 σ H2 x vs v us Q I2 r1 r2 q2
end
end L2
namespace L2
open PySem PySem.Spec PyProof.Rows
def MtM (X : Cx) (id : String) (r : V → List V → Hp → VK → Prop) : Prop :=
  ∀ (pins : List (Addr × Obj)) (s : Shared) (σ : St) (H : Hp) (x : V) (xs : List V) (v : Value) (us : List Value) (Q : VK), Inv X pins σ H s → RelV x v → Vals xs us → r x xs H Q →
    wpAny (model X.prog X.w) X.A (call (.builtin id) (v :: us)) (EP X pins σ Q) X.xe s
theorem Vals.one : ∀ {x : V} {us : List Value}, Vals [x] us → ∃ u, us = [u] ∧ RelV x u
  | _, _, .cons r .nil => ⟨_, rfl, r⟩
theorem Vals.two : ∀ {x y : V} {us : List Value}, Vals [x, y] us → ∃ u v, us = [u, v] ∧ RelV x u ∧ RelV y v
  | _, _, _, .cons r (.cons q .nil) => ⟨_, _, rfl, r, q⟩
theorem Vals.eraseIdx : ∀ {xs : List V} {us : List Value} (i : Nat), Vals xs us → Vals (xs.eraseIdx i) (us.eraseIdx i)
  | _, _, _, .nil => .nil
  | _, _, 0, .cons _ t => t
  | _, _, i + 1, .cons r t => .cons r (Vals.eraseIdx i t)
theorem Vals.rep {xs : List V} {us : List Value} (h : Vals xs us) : ∀ k : Nat, Vals (List.replicate k xs).flatten (List.replicate k us).flatten
  | 0 => .nil
  | k + 1 => by
    rw [List.replicate_succ, List.replicate_succ, List.flatten_cons, List.flatten_cons]
    exact Vals.append h (Vals.rep h k)
theorem foldl_rep (its : List Value) : ∀ (k : Nat) (acc : List Value),
    List.foldl (fun x1 x2 => x1 ++ x2) acc.toArray (List.replicate k its.toArray) = (acc ++ (List.replicate k its).flatten).toArray
  | 0, acc => by simp
  | k + 1, acc => by
    have e : acc.toArray ++ its.toArray = (acc ++ its).toArray := by simp
    have e2 : (acc ++ its) ++ (List.replicate k its).flatten = acc ++ (List.replicate (k + 1) its).flatten := by
      rw [List.replicate_succ, List.flatten_cons, List.append_assoc]
    rw [← e2, ← foldl_rep its k (acc ++ its), ← e, List.replicate_succ, List.foldl_cons]
section
variable {X : Cx} {pins : List (Addr × Obj)} {σ : St} {H : Hp} {s : Shared} {l b : Addr} {xs ys zs : List V}
theorem Inv.lset {its its' : List Value} {n : Nat} {f : Array Value → Array Value} {t' : Nat} (I : Inv X pins σ H s) (hH : H l = some (.lst xs))
    (e : s.heap.get? l = some { cls := .type "list", data := .seq its.toArray n }) (hf : f its.toArray = its'.toArray) (hv : Vals ys its') (hz : ys.length ≤ sizeLine) :
    Inv X pins σ (upd H l (.lst ys)) { s with heap := s.heap.update l (Obj.mapSeq f), toks := t' } := by
  have q := PySem.IsL.update e f
  rw [hf] at q
  refine I.write (x := l) (e := l) (by rw [hH]; exact trivial) (.inl rfl) (fun b' u hb hu => (Heap.get?_update_other s.heap (Obj.mapSeq f) (Ne.symm hb)).trans hu) ⟨_, q⟩ ?_
  exact ⟨hz, its', _, hv, q⟩
theorem Inv.lnew {its : List Value} {t' : Nat} (I : Inv X pins σ H s) (hv : Vals ys its) (hz : ys.length ≤ sizeLine) :
    Inv X pins σ (upd H s.heap.objs.size (.lst ys)) { s with heap := s.heap.push { cls := .type "list", data := .seq its.toArray }, toks := t' } :=
  I.laid (fun _ _ q => Heap.get?_push_of_some _ q) (Nat.le_refl _) ⟨hz, its, 0, hv, Heap.get?_push_size _ rfl⟩
theorem Inv.fresh (I : Inv X pins σ H s) : H s.heap.objs.size = none := I.hok.fresh (Nat.le_refl _)
theorem Inv.lstM (I : Inv X pins σ H s) (hH : H l = some (.lst xs)) : xs.length ≤ sizeLine ∧ ∃ (its : List Value) (n : Nat), Vals xs its ∧ xs.length = its.length ∧ s.heap.get? l = some { cls := .type "list", data := .seq its.toArray n } := by
  obtain ⟨z, its, n, r, e⟩ := I.hok l _ hH
  exact ⟨z, its, n, r, r.length, e⟩
theorem notLongL {n : Nat} (h : n ≤ sizeLine) : Builtin.List.listTooLong n = false := by
  unfold Builtin.List.listTooLong
  exact decide_eq_false (by omega)
end
section
variable {X : Cx}
def rAppend : V → List V → Hp → VK → Prop := fun x vs H Q => ∃ l xs y, x = .ref l ∧ vs = [y] ∧ H l = some (.lst xs) ∧ xs.length < sizeLine ∧ Q .non (upd H l (.lst (xs ++ [y])))
theorem mt_append : MtM X "list.append" rAppend := by
  intro pins s σ H x vs v us Q I rx rv h
  obtain ⟨l, xs, y, rfl, rfl, hH, hz, q⟩ := h
  cases rx
  obtain ⟨u, rfl, ru⟩ := rv.one
  obtain ⟨z, its, n, r, hl, e⟩ := I.lstM hH
  refine call_meets F.slot_list_append ⟨_, e, rfl⟩ F.entry_list_append (F.args_list_append_2 _ _) (PySem.list_append l its.toArray n u (by rw [List.size_toArray]; omega)) ⟨e, ?_⟩
  refine ⟨.non, _, I.lset (its' := its ++ [u]) hH e (by simp) (r.append (.cons ru .nil)) ?_, rfl, q⟩
  rw [List.length_append, List.length_singleton]
  omega
def rRep : R2 := fun x y H Q => ∃ l k xs, x = .ref l ∧ y = .int k ∧ H l = some (.lst xs) ∧ -(2 ^ 63) ≤ k ∧ k < 2 ^ 63 ∧ xs.length * k.toNat ≤ sizeLine ∧
  ∀ p, H p = none → Q (.ref p) (upd H p (.lst (List.replicate k.toNat xs).flatten))
theorem len_rep {α : Type} (xs : List α) (k : Nat) : (List.replicate k xs).flatten.length = k * xs.length := by
  induction k with
  | zero => simp
  | succ k ih => rw [List.replicate_succ, List.flatten_cons, List.length_append, ih, Nat.succ_mul, Nat.add_comm]
theorem op_rep : OpR X (binaryOp .Mult) rRep := by
  intro pins s σ H x y v u Q I rx ry h
  obtain ⟨l, k, xs, rfl, rfl, hH, h1, h2, hz, q⟩ := h
  cases rx
  obtain ⟨t, rfl⟩ := ry
  obtain ⟨z, its, n, r, hl, e⟩ := I.lstM hH
  have hlen : its.toArray.size * k.toNat ≤ sizeLine := by rw [List.size_toArray, ← hl]; exact hz
  have hcap : ¬ its.toArray.size * k.toNat > (2 ^ 63 - 1) / 8 := by
    have : (sizeLine : Nat) ≤ (2 ^ 63 - 1) / 8 := by decide
    omega
  have hfit : ¬ (!Builtin.List.listFitsIndex k) = true := by
    rw [fitsIndex_both h1 h2]
    exact Bool.false_ne_true
  have hlong : ¬ Builtin.List.listTooLong (its.toArray.size * k.toNat) = true := by
    rw [notLongL hlen]
    exact Bool.false_ne_true
  have hnew : List.foldl (fun x1 x2 => x1 ++ x2) #[] (List.replicate (if its.toArray.isEmpty = true then 0 else k.toNat) its.toArray) = (List.replicate k.toNat its).flatten.toArray := by
    have f0 : ∀ m : Nat, List.foldl (fun x1 x2 => x1 ++ x2) #[] (List.replicate m its.toArray) = (List.replicate m its).flatten.toArray := fun m => by
      have := foldl_rep its m []
      rw [List.nil_append] at this
      exact this
    rw [f0]
    cases its with
    | nil => simp
    | cons a r' => rw [if_neg (by simp)]
  refine wpAny_binaryOp_repeat_ref (T := "list") (U := "int") (by decide) ⟨_, e, rfl⟩ (fun s' => typeIs_int s' k t) noFill_list_mul F.fills_int_mul F.slot_int_rmul repeat_list F.slot_int_index.lookup
    (call_meets F.slot_int_rmul (typeIs_int s k t) F.entry_int_rmul (F.args_int_rmul_2 _ _) (int___rmul___int_list k t l its.toArray n)
      ⟨e, rfl, ⟨_, e, rfl⟩, call_meets F.slot_list_mul ⟨_, e, rfl⟩ F.entry_list_mul (F.args_list_mul_2 _ _) (AutoListH.list___mul___list_int_3 l its.toArray n k t hfit hcap hlong) ⟨e, ?_⟩⟩)
  rw [hnew]
  exact ⟨.ref _, _, I.lnew (t' := s.toks) (r.rep k.toNat) (by rw [len_rep, Nat.mul_comm]; exact hz), rfl, q _ I.fresh⟩
end
section
variable {prog : Program} {w : World} {A : Around} {E : Value → Shared → Prop} {s : Shared}
end
section
variable {X : Cx}
end
end L2
namespace Att
open PySem PySem.W PySem.Calls PyProof.Rows
theorem ints_of_wellAll {P : Params} {h : Heap} : ∀ (ns : List Int) (vs : List Value), WellAll P h vs (ns.map WData.int) → IntsAre vs ns := by
  intro ns
  induction ns with
  | nil =>
    intro vs w
    rw [List.map_nil] at w
    cases w
    exact .nil
  | cons n ns ih =>
    intro vs w
    rw [List.map_cons] at w
    cases w with
    | cons a b =>
      cases a
      exact .cons _ _ (ih _ b)
theorem script_of {l : OpenLaw} {n : Nat} (hn : l.most = some n) {P : Params} {h : Heap} {args : List WData} {vals : List Value}
    (hpre : l.row.toRowW.claim.pre args = true) (hwl : WellAll P h vals args) :
    ∃ a vs ns, vals = [Value.ref a] ∧ args = [WData.list (ns.map WData.int)] ∧ h.get? a = some { cls := .type "list", data := .seq vs.toArray } ∧ IntsAre vs ns ∧ ns.length ≤ n := by
  have hsh : WShape.hasAll [] args [.list .int] = true := (pre_splitW hpre).1
  have hc : l.pre.holds [] { args := args } = true := (pre_splitW hpre).2
  obtain ⟨d, r, rfl, h1, h2⟩ := hasAllW_cons hsh
  obtain rfl := hasAllW_nil h2
  obtain ⟨xs, rfl, h3⟩ := hasW_list h1
  obtain ⟨ns, rfl⟩ := items_int h3
  have hlen : ns.length ≤ n := by
    unfold OpenLaw.pre at hc
    have h4 : (WTm.not (.lt (.lit (.int (n : Int))) (.len (.arg 0)))).holds [] { args := [.list (ns.map .int)] } = true := by
      have h4 := (holds_andW hc).1
      rw [hn] at h4
      exact h4
    have h5 := condW_of h4 (w_not (w_lt w_lit (w_len_list (w_arg rfl))))
    rw [List.length_map] at h5
    refine Nat.le_of_not_lt fun q => ?_
    have q' : (n : Int) < ((ns.length : Nat) : Int) := by omega
    first
      | (rw [decide_eq_true q'] at h5; exact absurd h5 (by decide))
      | (simp at h5; omega)
  cases hwl with
  | cons w1 w2 =>
    cases w2
    cases w1 with
    | list ho hall => exact ⟨_, _, ns, rfl, rfl, ho, ints_of_wellAll ns _ hall, hlen⟩
theorem post_true (l : OpenLaw) (args : List WData) : l.row.toRowW.claim.post args (.bool true) args = true :=
  postW_of (r := l.row.toRowW) (X := (true == true))
    (show WShape.has [] (.bool true) .bool = true by first | rfl | decide | simp [WShape.has, WShape.arms, WShape.armsAll])
    (show (WTm.eq .res (.lit (.bool true))).value [] { args := args, res := some (.bool true), after := args } = some (.bool (true == true)) from w_eq_bool (w_res rfl) w_lit) rfl
theorem attach_call {l : OpenLaw} {n : Nat} {q : Program} {loose : List Str} {XP : (Str → Option Value) → Heap → Prop} {YP : World → Heap → Prop} {d : DefRec}
    (hn : l.most = some n) (hdf : d.params.defaults = [])
    (call : ∀ (w : World) (s₀ s₁ : Shared) (mg mb : Str → Option Value) (fa : Addr) (o : Obj) (pm cd doc : Value) (a : Addr) (vs : List Value) (ns : List Int),
      Ground q loose [] XP w s₀ mg mb s₁.heap → YP w s₁.heap →
      s₁.heap.get? fa = some o → o.data = .func (docDef d.name d.params d.body d.scope pm cd doc) → s₁.heap.CodeRec cd d.name → mg d.name = some (.ref fa) →
      s₁.heap.get? a = some { cls := .type "list", data := .seq vs.toArray } → IntsAre vs ns → ns.length ≤ n → s₁.gens = #[] →
      codeAny (model l.prog w) callerA (.call (.ref fa) ⟨[.ref a], []⟩) (fun r s' => r = .ok (.ret (.bool true)) ∧ OldK s₁.heap s'.heap ∧ s'.os = s₁.os ∧ AllBare s'.gens) s₁) :
    WalkO q loose XP YP l.row.toRowW d [] (fun f vs => PySem.call f vs) := by
  intro w s₀ s₁ mg mb G Y fa o pm cd doc dV kV ho hd hcd hD hmg hg args vals as hpre hlay hrd hwl hlo
  obtain rfl : dV = .none := Dflts.none hD hdf
  obtain rfl : kV = .none := Dflts.noKw hD
  obtain ⟨a, vs, ns, rfl, rfl, hobj, hints, hlen⟩ := script_of hn hpre hwl
  refine enter_call (codeAny_mono (call w s₀ s₁ mg mb fa o pm cd doc a vs ns G Y ho (fd_plain hd) hcd hmg hobj hints hlen hg) fun r s' hq => ?_)
  obtain ⟨rfl, h2, h3, h4⟩ := hq
  exact ⟨.inl ⟨.bool true, .bool true, [], rfl, fun _ => rfl, .bool true, post_true l _, fun _ => ⟨List.Pairwise.nil, fun _ hm => (nomatch hm)⟩⟩, h2, h3, h4⟩
section
variable {prog : Program} {w : World} {A : Around} {E : Value → Shared → Prop} {s : Shared} {K : Frag}
end
end Att
namespace L2
open PySem PySem.Spec PyProof.Rows
theorem vals_ints : ∀ {vs : List Value} {ns : List Int}, IntsAre vs ns → Vals (ns.map V.int) vs
  | _, _, .nil => .nil
  | _, _, .cons n t h => .cons ⟨t, rfl⟩ (vals_ints h)
def Only (H : Hp) : Prop := ∀ b, H b = none ∨ ∃ o xs, H b = some (.frz o (.lst xs))
theorem law_call {P : Program} {w : World} {K : PySem.W.Frag} {mg mb : Str → Option Value} {CX : CXT} {k : Nat} {fa a : Addr} {fd : FuncData} {x : Str} {sp : Sp} {s₁ : Shared} {vs : List Value} {ns : List Int}
    (KX : K.In s₁.heap) (hns : s₁.heap.Ns mainGlobals mg) (hb : s₁.heap.Ns builtinsNs mb) (hbb : ∀ x : Str, x ≠ "__name__" → mb x = bootBuiltins x) (hlim : s₁.heap.NoLimit) (hg : s₁.gens = #[])
    (ha : s₁.heap.get? a = some { cls := .type "list", data := .seq vs.toArray }) (hi : IntsAre vs ns) (hl : ns.length ≤ sizeLine) (hr : Room k callerA)
    (F : ∀ base : Heap, K.In base → base.Ns mainGlobals mg → FnOk P w K mg base CX k fa fd [x] sp) (hbind : ∀ (s : Shared) (u : Value), BindsTo s fd ⟨[u], []⟩ [(x, u)])
    (hsp : ∀ H : Hp, Only H → SqL K H a (ns.map V.int) → sp [.ref a] H (fun v _ => v = .bl true) fun _ _ _ => False)
    (hCX : ∀ H e s', CX [] H s₁ (fun _ _ _ => False) e s' → False) :
    codeAny (model P w) callerA (.call (.ref fa) ⟨[.ref a], []⟩) (fun r s' => r = .ok (.ret (.bool true)) ∧ OldK s₁.heap s'.heap ∧ s'.os = s₁.os ∧ AllBare s'.gens) s₁ := by
  have rv := vals_ints hi
  have lenV := hi.length
  -- from an abstract heap in which nothing but the script may be tracked
  have core : ∀ H : Hp, Only H → SqL K H a (ns.map V.int) → HOk P w H s₁.heap → (∀ b, H b ≠ none → b = a) → (H a ≠ none → K.lookup a = none) →
      codeAny (model P w) callerA (.call (.ref fa) ⟨[.ref a], []⟩) (fun r s' => r = .ok (.ret (.bool true)) ∧ OldK s₁.heap s'.heap ∧ s'.os = s₁.os ∧ AllBare s'.gens) s₁ := by
    intro H hO hS hok hA hK
    have base_of : ∀ {b : Addr} {o : Obj}, s₁.heap.get? b = some o → H b = none → (hidT s₁.heap H).get? b = some o := fun e n => hidT_get e n
    have noA : ∀ {b : Addr} {o : Obj} {es : Array DictEntry} {ep : Nat}, s₁.heap.get? b = some o → o.data = .dict es ep → H b = none := fun {b o es ep} e d => by
      cases q : H b with
      | none => rfl
      | some u =>
        have e' : b = a := hA b (by rw [q]; simp)
        subst e'
        rw [ha] at e; cases e
        have d' : Data.seq vs.toArray _ = Data.dict es ep := d
        cases d'
    have nsK : ∀ {b : Addr} {m : Str → Option Value}, s₁.heap.Ns b m → (hidT s₁.heap H).Ns b m := fun {b m} ⟨o, es, ep, e, d, r⟩ => ⟨o, es, ep, base_of e (noA e d), d, r⟩
    have hKb : K.In (hidT s₁.heap H) := fun b o e => base_of (KX b o e) (by
      cases q : H b with
      | none => rfl
      | some u =>
        have e' : b = a := hA b (by rw [q]; simp)
        subst e'
        rw [hK (by rw [q]; simp)] at e; cases e)
    have hM : Mod K mg (hidT s₁.heap H) := ⟨hKb, nsK hns, ⟨mb, nsK hb, hbb⟩, let ⟨mc, h1, h2⟩ := hlim; ⟨mc, nsK h1, h2⟩⟩
    have e0 : Env0 P w K mg (hidT s₁.heap H) callerA [] s₁ H := ⟨rfl, hM, fun b o e => of_hidT e, Nat.le_of_eq (hidT_size _ _), trivial, fun b hb => absurd (show b ∈ ([] : List Addr) from hb) (by simp), hok, .of_eq hg⟩
    refine codeAny_mono ((F _ hKb (nsK hns)).run callerA [] s₁ H ⟨[.ref a], []⟩ [.ref a] [.ref a] _ _ hr e0 (hbind s₁ (.ref a)) (.cons rfl .nil) (hsp H hO hS)) fun r s' h => ?_
    cases r with
    | error e => exact (hCX H e s' h).elim
    | ok fl =>
      cases fl with
      | next => exact False.elim h
      | brk => exact False.elim h
      | cont => exact False.elim h
      | ret u =>
        obtain ⟨v, H', os, bare, un, hok', r', q⟩ := h
        have q' : v = .bl true := q
        subst q'
        obtain rfl : u = Value.bool true := r'
        refine ⟨rfl, OldK.of_keep fun b o e => ?_, os, bare⟩
        cases q : H b with
        | none => exact un.keep b o e q (by intro z; exact absurd (show b ∈ ([] : List Addr) from z) (by simp)) (by simp)
        | some u =>
          rcases hO b with z | ⟨ob, xs, z⟩
          · rw [q] at z; cases z
          · have z2 := un.frzs b ob _ z
            obtain ⟨e1, _⟩ := hok b _ z
            obtain ⟨e2, _⟩ := hok' b _ z2
            rw [e] at e1; cases e1
            exact e2
  cases hk : K.lookup a with
  | some o =>
    -- the script is one of the module's own objects
    have e := KX a o hk
    rw [ha] at e
    cases e
    refine core (fun _ => none) (fun _ => .inl rfl) (.inr ⟨_, vs.toArray, _, hk, rfl, rfl, rfl, by rw [List.size_toArray, lenV]; exact hl, by simpa using rv⟩) (fun b u z => by have z' : (none : Option HO) = some u := z; cases z') (fun b z => absurd rfl z) fun z => absurd rfl z
  | none =>
    refine core (fun b => if b = a then some (.frz { cls := .type "list", data := .seq vs.toArray } (.lst (ns.map V.int))) else none) (fun b => ?_) (.inl (.inr ⟨{ cls := .type "list", data := .seq vs.toArray }, if_pos rfl⟩)) (fun b u z => ?_) (fun b z => ?_) fun _ => hk
    · by_cases hb : b = a
      · exact .inr ⟨_, _, if_pos hb⟩
      · exact .inl (if_neg hb)
    · by_cases hb : b = a
      · have z' := (if_pos hb).symm.trans z
        cases z'
        subst hb
        exact ⟨ha, by rw [List.length_map]; exact hl, vs, _, rv, ha⟩
      · have z' := (if_neg hb).symm.trans z
        cases z'
    · by_cases hb : b = a
      · exact hb
      · exact absurd (if_neg hb) z
end L2
namespace L2
open PySem PySem.Spec PyProof.Rows
theorem walk_of {l : PySem.W.OpenLaw} {n k : Nat} {q : Program} {loose : List Str} {XP : (Str → Option Value) → Heap → Prop} {YP : World → Heap → Prop} {d : DefRec} {K : Params → PySem.W.Frag} {CX : World → CXT} {sp : World → Sp} {x : Str}
    (hn : l.most = some n) (hn2 : n ≤ sizeLine) (hdf : d.params.defaults = []) (hr : Room k callerA)
    (hY : ∀ (w : World) (h : Heap), YP w h → (K w.params).In h)
    (F : ∀ (w : World) (mg : Str → Option Value) (fa : Addr) (h : Heap), (K w.params).In h → h.Ns mainGlobals mg → mg d.name = some (.ref fa) →
      ∃ fd : FuncData, (∀ (s : Shared) (u : Value), BindsTo s fd ⟨[u], []⟩ [(x, u)]) ∧
        ∀ base : Heap, (K w.params).In base → base.Ns mainGlobals mg → FnOk l.prog w (K w.params) mg base (CX w) k fa fd [x] (sp w))
    (hsp : ∀ (w : World) (H : Hp) (a : Addr) (ns : List Int), ns.length ≤ n → Only H → SqL (K w.params) H a (ns.map V.int) → sp w [.ref a] H (fun v _ => v = .bl true) fun _ _ _ => False)
    (hCX : ∀ (w : World) (H : Hp) (s : Shared) (e : Value) (s' : Shared), CX w [] H s (fun _ _ _ => False) e s' → False) :
    PySem.W.WalkO q loose XP YP l.row.toRowW d [] (fun f vs => PySem.call f vs) := by
  refine Att.attach_call hn hdf fun w s₀ s₁ mg mb fa o pm cd doc a vs ns G Y ho hd hcd hmg hobj hints hlen hg => ?_
  have KX := hY w _ Y
  obtain ⟨fd, hb, hF⟩ := F w mg fa _ KX G.T.g hmg
  exact law_call KX G.T.g G.T.b G.T.builtins G.T.nolimit hg hobj hints (Nat.le_trans hlen hn2) hr hF hb (fun H hO hS => hsp w H a ns hlen hO hS) fun H e s' => hCX w H s₁ e s'
end L2
namespace L2
open PySem PySem.Spec PyProof.Rows
def defArgs (s : Stmt) : Arguments := match s with
  | .FunctionDef _ a _ _ _ _ _ _ _ _ => a
  | _ => { posonlyargs := [], args := [], vararg := none, kwonlyargs := [], kw_defaults := [], kwarg := none, defaults := [] }
def defBody (s : Stmt) : List Stmt := match s with
  | .FunctionDef _ _ b _ _ _ _ _ _ _ => b
  | _ => []
def defScope (s : Stmt) : Scope := match s with
  | .FunctionDef _ _ _ _ _ _ sc _ _ _ => sc
  | _ => { kind := .function, names := [], isGenerator := false, isCoroutine := false }
abbrev CX0 : CXT := fun _ _ _ _ _ _ => False
abbrev E0 : XK := fun _ _ _ => False
theorem pass0 {X : Cx} : Passes CX0 X E0 := fun _ _ _ _ _ _ _ h => h.elim
structure Fun (K : PySem.W.Frag) (x qual : Str) (st : Stmt) (f : Addr) (fd : FuncData) : Prop where
  ex : ∃ (oc : Value) (od : Option Addr) (kV doc pm : Value) (an : Option Addr) (cdv ct : Value) (osl : Array (Option Value)),
    fd = PySem.W.fnOf x qual (defArgs st) (defBody st) (defScope st) .none kV doc pm an cdv ct ∧ K.lookup f = some ⟨oc, od, .func fd, osl⟩ ∧ PySem.W.codeIn K cdv qual = true
  kp : PySem.W.keepIn K (.ref f) = true
section
variable {P : Program} {w : World} {K : PySem.W.Frag} {mg : Str → Option Value} {base : Heap}
theorem Fun.ok {x qual : Str} {st : Stmt} {f : Addr} {fd : FuncData} {N ps : List Str} {k : Nat} {sp : Sp} (F : Fun K x qual st f fd) (S : FnScope N ps (defScope st)) (len : ∀ vs H Q E, sp vs H Q E → vs.length = ps.length)
    (hbody : ∀ (cdv : Value) (A : Around) (outer : List Env) (s : Shared) (H : Hp) (vs : List V) (Q : VK) (E : XK), Room k (A.deeper (envOfC qual (defScope st) s.heap.objs.size f cdv)) → sp vs H Q E →
      ∃ t, PSs (cxOf CX0 P w K mg base N qual (defScope st) f cdv A outer s H E).nox (defBody st) t ∧ t { nx := fun _ H' => Q .non H', rt := Q } (start N vs) H) : FnOk P w K mg base CX0 (k + 1) f fd ps sp := by
  obtain ⟨oc, od, kV, doc, pm, an, cdv, ct, osl, rfl, lk, hcd⟩ := F.ex
  refine fn_of lk hcd S len fun A outer s H vs Q E hr hsp => ?_
  obtain ⟨t, h, q⟩ := hbody cdv A outer s H vs Q E hr hsp
  exact ⟨t, h.nox, q⟩
theorem Fun.binds {x qual : Str} {st : Stmt} {f : Addr} {fd : FuncData} {ps : List Str} (F : Fun K x qual st f fd)
    (h : ∀ (kV doc pm : Value) (an : Option Addr) (cdv ct : Value) (us : List Value), us.length = ps.length → bindArgs (PySem.W.fnOf x qual (defArgs st) (defBody st) (defScope st) .none kV doc pm an cdv ct) ⟨us, []⟩ = pure (ps.zip us)) : Binds K fd ps [] := by
  obtain ⟨oc, od, kV, doc, pm, an, cdv, ct, osl, rfl, lk, hcd⟩ := F.ex
  exact .all (h kV doc pm an cdv ct)
theorem fun_mk {x qual : Str} {st : Stmt} {f : Addr} {oc : Value} {od an : Option Addr} {osl : Array (Option Value)} {kV doc pm cdv ct : Value} (l : K.lookup f = some ⟨oc, od, .func (PySem.W.fnOf x qual (defArgs st) (defBody st) (defScope st) .none kV doc pm an cdv ct), osl⟩)
    (c : PySem.W.codeIn K cdv qual = true) (k : PySem.W.keepIn K (.ref f) = true) : Fun K x qual st f (PySem.W.fnOf x qual (defArgs st) (defBody st) (defScope st) .none kV doc pm an cdv ct) := ⟨⟨oc, od, kV, doc, pm, an, cdv, ct, osl, rfl, l, c⟩, k⟩
end
theorem small1000 {n : Nat} (h : n ≤ 1000) : n < sizeLine := Nat.lt_of_le_of_lt h (by decide)
section
variable {X : Cx}
end
theorem ite2 {c A B : Prop} [Decidable c] (h1 : c → A) (h2 : ¬ c → B) : if c then A else B := by
  by_cases h : c
  · rw [if_pos h]
    exact h1 h
  · rw [if_neg h]
    exact h2 h
def Same (H H' : Hp) : Prop := ∀ b o, H b = some o → H' b = some o
theorem Same.refl (H : Hp) : Same H H := fun _ _ h => h
theorem Same.trans {H H1 H2 : Hp} (a : Same H H1) (b : Same H1 H2) : Same H H2 := fun c o h => b c o (a c o h)
theorem Same.free {H H' : Hp} (e : Same H H') {l : Addr} (h : H' l = Option.none) : H l = Option.none := by
  cases q : H l with
  | none => rfl
  | some o =>
    rw [e l o q] at h
    cases h
theorem Same.seq {K : PySem.W.Frag} {H H' : Hp} {a : Addr} {xs : List V} (e : Same H H') (h : SqL K H a xs) : SqL K H' a xs := by
  rcases h with (h | ⟨o, h⟩) | h
  · exact .inl (.inl (e _ _ h))
  · exact .inl (.inr ⟨o, e _ _ h⟩)
  · exact .inr h
end L2
set_option maxHeartbeats 4000000
namespace L2
open PySem PySem.Spec PyProof.Rows
section
variable {κ : Type} [DecidableEq κ]
def dropK (kvs : List (κ × V)) (k : κ) : List (κ × V) := kvs.filter fun kv => decide (kv.1 ≠ k)
theorem RelO.getD {o : Option V} {u : Option Value} {d : V} {d' : Value} (r : RelO o u) (rd : RelV d d') : RelV (o.getD d) (u.getD d') := by
  cases o with
  | none => cases u with
    | none => exact rd
    | some _ => exact (show False from r).elim
  | some _ => cases u with
    | none => exact (show False from r).elim
    | some _ => exact r
theorem KV.any {kvs : List (κ × V)} {vs : List (κ × Value)} (r : KV kvs vs) (k : κ) : (kvs.any fun kv => decide (kv.1 = k)) = vs.any fun kv => decide (kv.1 = k) := by
  unfold KV at r
  induction r with
  | nil => rfl
  | cons h t ih => rw [List.any_cons, List.any_cons, ih, h.1]
theorem KV.drop {kvs : List (κ × V)} {vs : List (κ × Value)} (r : KV kvs vs) (k : κ) : KV (dropK kvs k) (without vs k) := by
  unfold KV at r ⊢
  unfold dropK without
  induction r with
  | nil => exact .nil
  | @cons p q ps qs h t ih =>
    obtain ⟨h1, h2⟩ := h
    rw [List.filter_cons, List.filter_cons]
    by_cases e : p.1 = k
    · have a : ¬ decide (p.1 ≠ k) = true := by simp [e]
      have b : ¬ decide (q.1 ≠ k) = true := by simp [h1.symm.trans e]
      rw [if_neg a, if_neg b]; exact ih
    · have e' : ¬ q.1 = k := fun z => e (h1.trans z)
      have a : decide (p.1 ≠ k) = true := by simp [e]
      have b : decide (q.1 ≠ k) = true := by simp [e']
      rw [if_pos a, if_pos b]; exact .cons ⟨h1, h2⟩ ih
theorem KV.length {kvs : List (κ × V)} {vs : List (κ × Value)} (r : KV kvs vs) : kvs.length = vs.length := Paired.length r
end
section
variable {P : Program} {w : World} {H : Hp} {h : Heap} {a : Addr}
end
section
variable {X : Cx} {pins : List (Addr × Obj)} {σ : St} {H : Hp} {s : Shared} {a : Addr} {y v : V} {u r : Value} {o : Option V} {A : Around} {E : Value → Shared → Prop}
end
section
variable {X : Cx} {pins : List (Addr × Obj)} {σ : St} {H : Hp} {s : Shared} {a : Addr} {kvs : List (Key × V)} {k : Key} {u : Value} {A : Around} {E : Value → Shared → Prop}
end
section
variable {X : Cx} {o i e value : Expr} {pos pos' tpos : Pos} {td ty tv : TE}
end
section
variable {X : Cx} {pos : Pos}
end
section
variable {X : Cx} {pins : List (Addr × Obj)} {σ : St} {H : Hp} {s : Shared} {a : Addr} {y d : V} {u r : Value} {o : Option V} {A : Around} {E : Value → Shared → Prop}
end
section
variable {X : Cx} {o e f : Expr} {apos cpos : Pos} {td ty tx : TE}
end
section
variable {X : Cx} {pins : List (Addr × Obj)} {σ : St} {H : Hp} {s : Shared} {a : Addr} {kvs : List (Key × V)} {A : Around} {E : Value → Shared → Prop}
end
section
variable {X : Cx} {pins : List (Addr × Obj)} {σ : St} {H : Hp} {s : Shared} {a : Addr} {y : V} {u : Value} {A : Around} {E : Value → Shared → Prop}
end
end L2
namespace L2
open PySem PySem.Spec PyProof.Rows
def rl (scope osc : Scope) : Scope :=
  { scope with names := scope.names.map fun (n, k) => if (k == .free && osc.kind == .function && osc.names.lookup n == some .cell) then (n, .cell) else (n, k) }
def cloL (env : Env) : List (Str × NameKind) → List (Str × Addr) → List (Str × Addr)
  | [], cs => cs
  | (n, k) :: r, cs => if (k == NameKind.free) = true then cloL env r ((n, (env.cells.lookup n).getD 0) :: cs) else cloL env r cs
theorem closureFor_go {env : Env} : ∀ (names : List (Str × NameKind)) (cs : List (Str × Addr)), (∀ x ∈ names, x.2 = .free → ∃ c, env.cells.lookup x.1 = some c) →
    (forIn names cs fun (x : Str × NameKind) (r : List (Str × Addr)) => if (x.2 == NameKind.free) = true then (do let y ← cellOf env x.1; pure (ForInStep.yield ((x.1, y) :: r))) else (pure (ForInStep.yield r) : Sem _)) = (pure (cloL env names cs) : Sem _)
  | [], cs, _ => rfl
  | (n, k) :: r, cs, h => by
    have ih := fun cs' => closureFor_go (env := env) r cs' fun x hx => h x (List.mem_cons_of_mem _ hx)
    rw [List.forIn_cons]
    by_cases hk : (k == NameKind.free) = true
    · obtain ⟨c, hc⟩ := h (n, k) List.mem_cons_self (by simpa using hk)
      have hc' : env.cells.lookup n = some c := hc
      have e1 : cellOf env n = (pure c : Sem Addr) := by unfold cellOf; rw [hc']
      simp only [hk, if_true, e1, pure_bind]
      rw [ih]
      have e2 : cloL env ((n, k) :: r) cs = cloL env r ((n, c) :: cs) := by
        show (if (k == NameKind.free) = true then cloL env r ((n, (env.cells.lookup n).getD 0) :: cs) else cloL env r cs) = _
        rw [if_pos hk, hc'] <;> rfl
      rw [e2]
    · simp only [hk, if_false, pure_bind]
      show (forIn r cs _ : Sem _) = _
      rw [ih]
      have e2 : cloL env ((n, k) :: r) cs = cloL env r cs := by
        show (if (k == NameKind.free) = true then cloL env r ((n, (env.cells.lookup n).getD 0) :: cs) else cloL env r cs) = _
        rw [if_neg hk]
      rw [e2]
theorem closureFor_is {scope : Scope} {env : Env} (h : ∀ x ∈ scope.names, x.2 = .free → ∃ c, env.cells.lookup x.1 = some c) : closureFor scope env = pure (cloL env scope.names []) := by
  have q := closureFor_go scope.names [] h
  show ((forIn scope.names ([] : List (Str × Addr)) fun (x : Str × NameKind) (r : List (Str × Addr)) => if (x.2 == NameKind.free) = true then (do let y ← cellOf env x.1; pure (ForInStep.yield ((x.1, y) :: r))) else (pure (ForInStep.yield r) : Sem _)) >>= fun cs => pure cs) = _
  rw [q, pure_bind]
theorem cloL_sub {env : Env} : ∀ (names : List (Str × NameKind)) (cs : List (Str × Addr)), (∀ x ∈ names, x.2 = .free → ∃ c, env.cells.lookup x.1 = some c) → (∀ x c, cs.lookup x = some c → env.cells.lookup x = some c) →
    ∀ x c, (cloL env names cs).lookup x = some c → env.cells.lookup x = some c
  | [], _, _, h, x, c, e => h x c e
  | (n, k) :: r, cs, hf, h, x, c, e => by
    have hr : ∀ x ∈ r, x.2 = .free → ∃ c, env.cells.lookup x.1 = some c := fun x hx => hf x (List.mem_cons_of_mem _ hx)
    unfold cloL at e
    by_cases hk : (k == NameKind.free) = true
    · rw [if_pos hk] at e
      obtain ⟨c', hc⟩ := hf (n, k) List.mem_cons_self (by simpa using hk)
      have hc' : env.cells.lookup n = some c' := hc
      refine cloL_sub r _ hr (fun y d q => ?_) x c e
      rw [List.lookup_cons] at q
      cases hy : y == n with
      | true =>
        rw [hy] at q
        have : y = n := by simpa using hy
        subst this
        rw [hc'] at q
        cases q
        exact hc'
      | false => rw [hy] at q; exact h y d q
    · rw [if_neg hk] at e
      exact cloL_sub r cs hr h x c e
theorem cloL_keep {env : Env} : ∀ (names : List (Str × NameKind)) (cs : List (Str × Addr)) (x : Str), (∃ c, cs.lookup x = some c) → ∃ c, (cloL env names cs).lookup x = some c
  | [], _, _, h => h
  | (n, k) :: r, cs, x, h => by
    unfold cloL
    split
    · refine cloL_keep r _ x ?_
      rw [List.lookup_cons]
      cases hy : x == n with
      | true => exact ⟨_, rfl⟩
      | false => exact h
    · exact cloL_keep r cs x h
theorem cloL_has {env : Env} : ∀ (names : List (Str × NameKind)) (cs : List (Str × Addr)) (x : Str), (x, NameKind.free) ∈ names → ∃ c, (cloL env names cs).lookup x = some c
  | [], _, _, h => (nomatch h)
  | (n, k) :: r, cs, x, h => by
    unfold cloL
    rcases List.mem_cons.mp h with e | h
    · cases e
      rw [if_pos (by rfl)]
      exact cloL_keep r _ _ ⟨_, by rw [List.lookup_cons, beq_self_eq_true]⟩
    · split
      · exact cloL_has r _ x h
      · exact cloL_has r cs x h
structure CSc (osc : Scope) (oN N : List Str) (scope : Scope) (fv : List (Option Nat)) : Prop where
  kind : scope.kind = .function
  okind : osc.kind = .function
  nocell : ∀ y ∈ scope.names, y.2 ≠ .cell
  loc : ∀ y ∈ scope.names, y.2 = .local → scope.names.lookup y.1 = some .local
  fre : ∀ y ∈ scope.names, y.2 = .free → osc.names.lookup y.1 = some .cell
  own : ∀ y ∈ (rl scope osc).names, y.2 ≠ .free
  len : fv.length = N.length
  up : ∀ (i j : Nat), i < 20 → fv[i]? = some (some j) → oN[j]? = N[i]? ∧ ∀ x, N[i]? = some x → (rl scope osc).names.lookup x = some .cell ∧ osc.names.lookup x = some .cell
  few : N.length < 20
def upS (fv : List (Option Nat)) (σ : St) : St := fv.map fun o => match o with
  | none => none
  | some j => (σ[j]?).join
def cxC (X : Cx) (N : List Str) (scope : Scope) (cl : List (Str × Addr)) (C : Addr) (fp : List Addr) (s : Shared) (H : Hp) : Cx where
  prog := X.prog
  w := X.w
  K := X.K
  mg := X.mg
  base := X.base
  A := X.A
  N := N
  s₀ := s
  H₀ := H
  env := compEnvC scope cl C X.env
  outer := X.stack
  stack := X.stack
  ex := fp
  fn := fun _ => false
  calm := true
  pn := []
  xe := fun _ _ => False
def PIf (Y : Cx) (ifs : List Expr) (t : TT) : Prop :=
  ∀ (pins : List (Addr × Obj)) (s : Shared) (σ : St) (H : Hp) (Q : Bool → Hp → Prop), Inv Y pins σ H s → t σ H Q →
    wpAny (model Y.prog Y.w) Y.A (forIn ifs true fun c r => if r = true then do let ok ← isTrue c Y.env (eval c Y.env); pure (ForInStep.yield ok) else pure (ForInStep.yield r)) (TP Y pins σ Q) Y.xe s
def tTrue : TT := fun _ H Q => Q true H
theorem pif_nil {Y : Cx} : PIf Y [] tTrue := fun _ _ _ H _ I h => wpAny_tests_nil ⟨H, I, h⟩
theorem pif_one {Y : Cx} {c : Expr} {t : TT} (h : PT Y c t) : PIf Y [c] t := fun pins s σ H Q I hw => wpAny_tests_one (h pins s σ H Q I hw)
def rLC (g : TG) (tc : TT) (te : TE) (τ0 : St) (Q : VK) : It → Hp → Prop := fun J H1 => ∀ acc, H1 acc = none →
  ∃ W : Nat → Nat → St → Hp → Prop, (∃ m, W 0 m τ0 (upd H1 acc (.lst []))) ∧ ∀ i m τ H, W i m τ H →
    (J.stop i H ∧ Q (.ref acc) H) ∨ (J.go i H ∧ ∃ N : St → Hp → Prop, (∀ τ' H', N τ' H' → ∃ m', m' < m ∧ W (i + 1) m' τ' H') ∧
      ∀ x H', J.yld i H x H' → g x τ H' fun τ2 H2 => tc τ2 H2 fun b H3 => if b = true then te τ2 H3 fun v H4 => ∃ ys, H4 acc = some (.lst ys) ∧ ys.length < sizeLine ∧ N τ2 (upd H4 acc (.lst (ys ++ [v]))) else N τ2 H3)
section
variable {prog : Program} {w : World} {A : Around} {R : Result → Shared → Prop} {s : Shared}
theorem codeAny_compLoop_own {elt target iter : Expr} {ifs : List Expr} {scope : Scope} {pos : Pos} {it acc : Value} {env : Env} (I : Nat → Shared → Prop)
    (turn : ∀ n s, I n s → wpAny (model prog w) A (pyNext it) (fun r s₁ => match r with
      | none => R (.ok .next) s₁
      | some v => wpAny (model prog w) A (letOwnedTupleGo target it v) (fun _ s₁' => wpAny (model prog w) A (assign target env v) (fun _ s₂ =>
          wpAny (model prog w) A (forIn ifs true fun c r => if r = true then do let ok ← isTrue c env (eval c env); pure (ForInStep.yield ok) else pure (ForInStep.yield r)) (fun ok s₃ =>
            if ok = true then wpAny (model prog w) A (eval elt env) (fun x s₄ =>
              wpAny (model prog w) A (call (.builtin "list.append") [acc, x]) (fun _ s₅ => ∃ m, m < n ∧ I m s₅) (fun _ _ => False) s₄) (fun _ _ => False) s₃
            else ∃ m, m < n ∧ I m s₃) (fun _ _ => False) s₂) (fun _ _ => False) s₁') (fun _ _ => False) s₁) (fun _ _ => False) s)
    (n : Nat) (h : I n s) :
    codeAny (model prog w) A (.compLoop (.ListComp elt [⟨target, iter, ifs, 0⟩] scope pos) 0 it acc env) R s := by
  refine codeAny_loop rfl I (fun n s hI => ?_) n h
  show wpAny _ A ((compTurn (.ListComp elt [⟨target, iter, ifs, 0⟩] scope pos) 0 it acc env).onRaise (fun x => do noteFrame x env; theTreesLotGoes x)) _ _ s
  refine wpAny_noted ?_
  rw [compTurn_list]
  refine wpAny_bind (wpAny_standAt (wpAny_bind (wpAny_mono (turn n s hI) (fun r s₁ h₁ => ?_) fun _ _ h' => h'.elim)))
  cases r with
  | none => exact wpAny_pure h₁
  | some v =>
    refine wpAny_bind (wpAny_mono h₁ (fun _ s₁' h₁' => ?_) fun _ _ h' => h'.elim)
    refine wpAny_bind (wpAny_mono h₁' (fun _ s₂ h₂ => wpAny_bind (wpAny_mono h₂ (fun ok s₃ h₃ => ?_) fun _ _ h' => h'.elim)) fun _ _ h' => h'.elim)
    cases ok with
    | false => exact wpAny_pure ⟨rfl, h₃⟩
    | true =>
      exact wpAny_bind (wpAny_bind (wpAny_mono h₃ (fun x s₄ h₄ => wpAny_bind (wpAny_mono h₄ (fun _ s₅ h₅ => wpAny_pure (wpAny_pure ⟨rfl, h₅⟩)) fun _ _ h' => h'.elim)) fun _ _ h' => h'.elim))
end
section
variable {X : Cx} {elt target iter : Expr} {ifs : List Expr} {scope : Scope} {pos : Pos} {N : List Str} {fv : List (Option Nat)} {wi : TI} {g : TG} {tc : TT} {te : TE}
theorem lookup_join {σ : St} {j : Nat} {v : V} (h : (σ[j]?).join = some v) : σ[j]? = some (some v) := by
  cases e : σ[j]? with
  | none => rw [e] at h; cases h
  | some o => rw [e] at h; exact congrArg some h
theorem cxC_inv {pins : List (Addr × Obj)} {σ : St} {H : Hp} {s s4 : Shared} {fp : List Addr} {C : Addr} {m : Str → Option Value} (hc : X.calm = true) (S : CSc X.env.scope X.N N scope fv) (I : Inv X pins σ H s) (hC : s.heap.objs.size ≤ C)
    (hf : ∀ b ∈ fp, b < s.heap.objs.size ∧ FpOk X pins H b) (hk : ∀ b o, s.heap.get? b = some o → s4.heap.get? b = some o) (hn : s4.heap.Ns C m) (hos : s4.os = s.os) (hg : s4.gens = s.gens) :
    Inv (cxC X N scope (cloL X.env scope.names []) C fp s H) [] (upS fv σ) H s4 := by
  have hfree : ∀ x ∈ scope.names, x.2 = .free → ∃ c, X.env.cells.lookup x.1 = some c := fun x hx e => I.ok.has x.1 (.inl (S.fre x hx e))
  have sub := cloL_sub scope.names [] hfree (fun _ _ e => nomatch e)
  have hsz := I.sz
  have fresh : ∀ a, s.heap.objs.size ≤ a → H a = none := fun a ha => I.hok.fresh ha
  refine ⟨⟨I.ok.mod, S.kind, I.ok.glob, I.ok.blt, hC, fun x y c e1 e2 => I.ok.inj x y c (sub x c e1) (sub y c e2), fun x hx => ?_, fun x c z _ => (nomatch z), fun _ => I.ok.hd hc, I.ok.frames, .inl rfl, fun b hb => ⟨?_, fun x c e => (hf b hb).2.2.2.2.2.1 x c (sub x c e)⟩,
      I.bs, Nat.le_trans I.ok.bsz hsz, fun b o e hb => ?_, fun b hb z => ?_, I.stack, I.stkFree⟩,
    hos, ?_, Un.kept hk, ⟨m, hn, fun i x v e1 e2 e3 => ?_⟩, fun x c e => ?_, fresh C hC, fun x c e => I.freeC x c (sub x c e), fun p hp => absurd (show p ∈ ([] : List (Addr × Obj)) from hp) (by simp), I.hok.kept hk, ?_⟩
  · have hx' : (rl scope X.env.scope).names.lookup x = some .cell ∨ (rl scope X.env.scope).names.lookup x = some .free := hx
    rcases hx' with e | e
    · have hm := PySem.mem_of_lookup e
      obtain ⟨⟨n, k⟩, hm', e'⟩ := List.mem_map.mp hm
      have e'' : (if (k == NameKind.free && X.env.scope.kind == .function && X.env.scope.names.lookup n == some .cell) = true then (n, NameKind.cell) else (n, k)) = (x, NameKind.cell) := e'
      by_cases hcnd : (k == NameKind.free && X.env.scope.kind == .function && X.env.scope.names.lookup n == some .cell) = true
      · rw [if_pos hcnd] at e''
        have en : n = x := congrArg Prod.fst e''
        have ek : k = NameKind.free := by
          rw [Bool.and_eq_true, Bool.and_eq_true] at hcnd
          simpa using hcnd.1.1
        subst en ek
        exact cloL_has scope.names [] n hm'
      · rw [if_neg hcnd] at e''
        have ek : k = NameKind.cell := congrArg Prod.snd e''
        exact absurd ek (S.nocell _ hm')
    · exact absurd rfl (S.own _ (PySem.mem_of_lookup e))
  · exact Nat.ne_of_lt (Nat.lt_of_lt_of_le (hf b hb).1 hC)
  · rcases (hf b hb).2.2.2.2.1 with z | z
    · exact I.ok.noex b o e z
    · exact absurd (Nat.lt_of_lt_of_le (Heap.lt_size e) (Nat.le_trans I.ok.bsz z)) (Nat.lt_irrefl _)
  · rcases List.mem_cons.mp (I.stkSub b z) with q | q
    · exact (hf b hb).2.2.1 q
    · exact (hf b hb).2.2.2.1 q
  · show AllBare s4.gens
    rw [hg]
    exact I.bare
  · have hil : i < fv.length := by
      have := (List.getElem?_eq_some_iff.mp e2).1
      unfold upS at this
      rwa [List.length_map] at this
    have hi20 : i < 20 := by have := S.few; have := S.len; omega
    unfold upS at e2
    rw [List.getElem?_map] at e2
    cases ef : fv[i]? with
    | none => rw [ef] at e2; cases e2
    | some o =>
      rw [ef] at e2
      cases o with
      | none => cases e2
      | some j =>
        have e2' : (σ[j]?).join = some v := Option.some.inj e2
        have hσ := lookup_join e2'
        obtain ⟨en, hx⟩ := S.up i j hi20 ef
        obtain ⟨hcY, hcX⟩ := hx x e1
        obtain ⟨mX, hnX, hl⟩ := I.loc
        obtain ⟨u, r, l⟩ := hl j x v (en.trans e1) hσ (.inr (.inl hcX))
        refine ⟨u, r, ?_⟩
        rcases l with ⟨k, _⟩ | ⟨k, c, ec, cl⟩
        · have k' : X.env.scope.names.lookup x = some .local := k
          rw [hcX] at k'
          cases k'
        · obtain ⟨oc, hoc, hd⟩ := cl
          have hm : (x, NameKind.free) ∈ scope.names := by
            have hm := PySem.mem_of_lookup hcY
            obtain ⟨⟨n, k'⟩, hm', e'⟩ := List.mem_map.mp hm
            have e'' : (if (k' == NameKind.free && X.env.scope.kind == .function && X.env.scope.names.lookup n == some .cell) = true then (n, NameKind.cell) else (n, k')) = (x, NameKind.cell) := e'
            by_cases hcnd : (k' == NameKind.free && X.env.scope.kind == .function && X.env.scope.names.lookup n == some .cell) = true
            · rw [if_pos hcnd] at e''
              have en' : n = x := congrArg Prod.fst e''
              have ek : k' = NameKind.free := by
                rw [Bool.and_eq_true, Bool.and_eq_true] at hcnd
                simpa using hcnd.1.1
              subst en' ek
              exact hm'
            · rw [if_neg hcnd] at e''
              have ek : k' = NameKind.cell := congrArg Prod.snd e''
              exact absurd ek (S.nocell _ hm')
          obtain ⟨c', hc'⟩ := cloL_has (env := X.env) scope.names [] x hm
          have := sub x c' hc'
          rw [ec] at this
          cases this
          exact .inr ⟨.inl hcY, c, hc', oc, hk c oc hoc, hd⟩
  · obtain ⟨v, oc, hoc, hd⟩ := I.cell x c (sub x c e)
    exact ⟨v, oc, hk c oc hoc, hd⟩
  · show (upS fv σ).length = N.length
    unfold upS
    rw [List.length_map]
    exact S.len
theorem comp_core (hc : X.calm = true) (hi : PI X target iter wi) (S : CSc X.env.scope X.N N scope fv)
    (hB : ∀ cl C fp s H, PG (cxC X N scope cl C fp s H) target g ∧ PIf (cxC X N scope cl C fp s H) ifs tc ∧ PE (cxC X N scope cl C fp s H) elt te)
    {pins : List (Addr × Obj)} {s : Shared} {σ : St} {H : Hp} (I : Inv X pins σ H s) {use : Option (Value → Sem Unit)} {Q : VK} {Post : Value → Shared → Prop} {p2 : Pos}
    (h : wi σ H (rLC g tc te (upS fv σ) Q))
    (hPost : ∀ (acc C : Addr) (s' : Shared) (H' : Hp) (m : Str → Option Value), Inv X pins σ H' s' → s'.heap.Ns C m → FpOk X pins H' C → Q (.ref acc) H' → compPost (model X.prog X.w) X.A X.xe use Post (.ref acc) C (.ok .next) s')
    (hs : ∀ x, foldedSetIterable iter X.env x = pure x) :
    wpAny (model X.prog X.w) X.A (comprehension (.ListComp elt [⟨target, iter, ifs, 0⟩] scope pos) scope X.env p2 (newList []) false (eval iter X.env) use) Post X.xe s := by
  have hfree : ∀ x ∈ scope.names, x.2 = .free → ∃ c, X.env.cells.lookup x.1 = some c := fun x hx e => I.ok.has x.1 (.inl (S.fre x hx e))
  refine wpAny_comprehension_free (use := use) rfl hs (closureFor_is hfree) S.kind S.loc (thn (hi pins s σ H _ I h) fun xv s1 h1 => thn h1 fun itv s2 h2 => ?_)
  obtain ⟨it, fp, tn, J, H2, e, I2, T, st2, f2, rd⟩ := h2
  subst e
  have hacc : H2 s2.heap.objs.size = none := I2.fresh
  obtain ⟨W, ⟨m0, w0⟩, turn⟩ := rd s2.heap.objs.size hacc
  refine wpAny_newObj_type (wpAny_newFunctionEnv S.nocell (by intro y hy; simp at hy) (fun h₁ hns₁ hsb₁ => ?_) S.kind)
  dsimp only at hns₁ hsb₁ ⊢
  have IA : Inv X pins σ (upd H2 s2.heap.objs.size (.lst [])) { s2 with heap := s2.heap.push { cls := .type "list", data := .seq ([] : List Value).toArray } } := I2.lnew (t' := s2.toks) .nil (Nat.zero_le _)
  generalize hHA : s2.heap.push { cls := .type "list", dict := none, data := .seq ([] : List Value).toArray } = hA at hns₁ hsb₁ IA ⊢
  have hAsz : hA.objs.size = s2.heap.objs.size + 1 := by rw [← hHA, Heap.size_push]
  have hkA : ∀ b o, s2.heap.get? b = some o → hA.get? b = some o := fun b o e => by rw [← hHA]; exact Heap.get?_push_of_some _ e
  have hk1 : ∀ b o, hA.get? b = some o → h₁.get? b = some o := fun b o e => hsb₁.extBut b o (Nat.ne_of_lt (Heap.lt_size e)) (Heap.get?_push_of_some _ e)
  have fpl : ∀ b ∈ fp, b < s2.heap.objs.size := fun b hb => by
    obtain ⟨o, e, _⟩ := T.obj 0 _ st2 b hb
    exact Heap.lt_size e
  have fA : ∀ b ∈ fp, b < hA.objs.size ∧ FpOk X pins (upd H2 s2.heap.objs.size (.lst [])) b := fun b hb => ⟨by rw [hAsz]; exact Nat.lt_succ_of_lt (fpl b hb), by rw [upd_ne (Nat.ne_of_lt (fpl b hb))]; exact (f2 b hb).1, (f2 b hb).2⟩
  let sA : Shared := { s2 with heap := hA }
  let Y : Cx := cxC X N scope (cloL X.env scope.names []) hA.objs.size fp sA (upd H2 s2.heap.objs.size (.lst []))
  obtain ⟨hG, hIf, hE⟩ := hB (cloL X.env scope.names []) hA.objs.size fp sA (upd H2 s2.heap.objs.size (.lst []))
  have loop : ∀ s4 : Shared, s4 = { s2 with heap := h₁, toks := s2.toks + ([] : List (Str × Value)).length } →
      codeAny (model X.prog X.w) X.A (.compLoop (.ListComp elt [⟨target, iter, ifs, 0⟩] scope pos) 0 (.ref it) (.ref s2.heap.objs.size) (compEnvC scope (cloL X.env scope.names []) hA.objs.size X.env))
        (compPost (model X.prog X.w) X.A X.xe use Post (.ref s2.heap.objs.size) hA.objs.size) s4 := by
    rintro s4 rfl
    have IY : Inv Y [] (upS fv σ) (upd H2 s2.heap.objs.size (.lst [])) { s2 with heap := h₁, toks := s2.toks + ([] : List (Str × Value)).length } :=
      cxC_inv hc S IA (Nat.le_refl _) fA hk1 hns₁ rfl rfl
    have stat : ∀ {H' : Hp}, (∀ b ∈ fp, H' b = none) → ∀ b ∈ fp, FpOk Y [] H' b := fun hn b hb =>
      ⟨hn b hb, (IY.ok.exf b hb).1, IY.ok.exfs b hb, .inl hb, (IY.ok.exf b hb).2, fun p hp => absurd (show p ∈ ([] : List (Addr × Obj)) from hp) (by simp)⟩
    refine codeAny_compLoop_own (fun n s' => ∃ i τ H', Inv Y [] τ H' s' ∧ tn i s'.heap ∧ (∀ b ∈ fp, H' b = none) ∧ W i n τ H') ?_ m0
      ⟨0, upS fv σ, _, IY, T.keep _ _ _ st2 fun b hb o e => hk1 b o (hkA b o e), fun b hb => (fA b hb).2.1, w0⟩
    rintro n s5 ⟨i, τ, H5, I5, st5, fr5, w5⟩
    rcases turn i n τ H5 w5 with ⟨stop, q⟩ | ⟨go, NN, hN, step⟩
    · refine wpAny_mono (T.done Y rfl rfl rfl rfl i [] s5 τ H5 (fun _ _ => False) I5 (stat fr5) st5 stop) (fun r s6 ⟨hr, I6⟩ => ?_) fun _ _ z => z
      subst hr
      obtain ⟨m6, hn6, _⟩ := id I6.loc
      have IX : Inv X pins σ H5 s6 := IA.call' I6.os I6.base I6.hok I6.bare fun b hb => ⟨(fA b hb).2.2.2.2.1, (fA b hb).2.2.1, (fA b hb).2.2.2.2.2.1, (fA b hb).2.2.2.2.2.2⟩
      exact hPost _ _ _ _ m6 IX hn6 (IA.fpOk (Nat.le_refl _) I6.free) q
    · refine wpAny_mono (T.item Y rfl rfl rfl rfl i [] s5 τ H5 (fun _ _ => False) I5 (stat fr5) st5 go) (fun r s6 ⟨u, hr, h6⟩ => ?_) fun _ _ z => z
      subst hr
      refine wpAny_mono h6 (fun _ s7 ⟨x, H7, I7, r7, y7, st7, fr7⟩ => ?_) fun _ _ z => z
      have I7' := I7.pinned (stat fr7) (T.obj _ _ st7)
      refine wpAny_mono (hG _ s7 τ H7 x u _ I7' r7 (step x H7 y7)) (fun _ s8 ⟨τ8, H8, I8, q8⟩ => ?_) fun _ _ z => z
      refine wpAny_mono (hIf _ s8 τ8 H8 _ I8 q8) (fun b s9 ⟨H9, I9, q9⟩ => ?_) fun _ _ z => z
      have again : ∀ {τ' : St} {H' : Hp} {s' : Shared}, Inv Y ([] ++ pinsAt fp s7.heap) τ' H' s' → NN τ' H' → ∃ m, m < n ∧ ∃ i τ H', Inv Y [] τ H' s' ∧ tn i s'.heap ∧ (∀ b ∈ fp, H' b = none) ∧ W i m τ H' := fun {τ' H' s'} I' n' => by
        obtain ⟨m', hm, w'⟩ := hN τ' H' n'
        refine ⟨m', hm, i + 1, τ', H', I'.unpinned, T.keep _ _ _ st7 fun b hb o e => (I'.pin (b, o) (List.mem_append_right _ (List.mem_append_right _ (mem_pinsAt hb e)))).1, fun b hb => ?_, w'⟩
        obtain ⟨o, e, d⟩ := T.obj _ _ st7 b hb
        exact (I'.pin (b, o) (List.mem_append_right _ (List.mem_append_right _ (mem_pinsAt hb e)))).2.1
      cases b with
      | false => exact again I9 q9
      | true =>
        show wpAny _ _ _ _ _ _
        refine wpAny_mono (hE _ s9 τ8 H9 _ I9 q9) (fun v s10 ⟨y, H10, I10, r10, ys, hy, hz, q10⟩ => ?_) fun _ _ z => z
        refine wpAny_mono (mt_append (X := Y) _ s10 τ8 H10 (.ref s2.heap.objs.size) [y] (.ref s2.heap.objs.size) [v] (fun _ H' => NN τ8 H') I10 rfl (.cons r10 .nil) ⟨_, ys, y, rfl, rfl, hy, hz, q10⟩) (fun _ s11 ⟨_, H11, I11, _, q11⟩ => ?_) fun _ _ z => z
        exact again I11 q11
  have st1 : tn 0 h₁ := T.keep _ _ _ st2 fun b hb o e => hk1 b o (hkA b o e)
  exact codeAny_compStart_list (loop _ rfl) (T.self _ 0 _ _ _ st1 (loop _ rfl))
def tLC (wi : TI) (g : TG) (tc : TT) (te : TE) (fv : List (Option Nat)) : TE := fun σ H Q => wi σ H (rLC g tc te (upS fv σ) Q)
theorem pe_lc (hc : X.calm = true) (hi : PI X target iter wi) (S : CSc X.env.scope X.N N scope fv)
    (hB : ∀ cl C fp s H, PG (cxC X N scope cl C fp s H) target g ∧ PIf (cxC X N scope cl C fp s H) ifs tc ∧ PE (cxC X N scope cl C fp s H) elt te)
    (hs : ∀ x, foldedSetIterable iter X.env x = pure x := by intro _; rfl) : PE X (.ListComp elt [⟨target, iter, ifs, 0⟩] scope pos) (tLC wi g tc te fv) := by
  intro pins s σ H Q I h
  rw [eval_ListComp]
  refine comp_core hc hi S hB I (use := none) h (fun acc C s' H' m I' hn hf q => ⟨m, hn, fun h' sb => ?_⟩) hs
  obtain ⟨f0, f1, f2, f3, f4, f5⟩ := hf
  exact ⟨.ref acc, H', I'.turned (t' := s'.toks) (fun b o hb e => sb.extBut b o hb e) f0 f1 f3 f4 f5, rfl, q⟩
end
end L2
namespace L2
open PySem PySem.Spec PyProof.Rows
def Bt (k : Nat) (i : Int) : Prop := i.natAbs < 2 ^ k
theorem Bt.ok {a b : Nat} {i j : Int} (h : Bt a i) (h' : Bt b j) (hs : a + b ≤ 100000) : IntMulOk i j :=
  PySem.IntMulOk.of_le (PySem.intBits_le_iff.mpr h) (PySem.intBits_le_iff.mpr h') (by omega)
theorem ok_left {i j : Int} (h1 : -(2 ^ 64) < i) (h2 : i < 2 ^ 64) : IntMulOk i j := .of_left (intBits_le_64 h1 h2)
theorem ok_right {i j : Int} (h1 : -(2 ^ 64) < j) (h2 : j < 2 ^ 64) : IntMulOk i j := .of_right (intBits_le_64 h1 h2)
section
variable {X : Cx} {a b c e : Expr} {ta tb te : TE} {pos pos' : Pos} {k : Nat}
theorem op_mulG : OpR X (binaryOp .Mult) (rI IntMulOk fun i j => .int (i * j)) := opI fun _ _ _ _ _ _ _ hc q => mul_int q hc
def tI (f : Int → V) (ta : TE) : TE := fun σ H Q => ta σ H fun x H1 => ∃ i, x = .int i ∧ Q (f i) H1
theorem pe_divc {n : Int} (ha : PE X a ta) (h : 0 < n ∧ n < 1073741824 := by decide) : PE X (.BinOp a .FloorDiv (.Constant (.int n) k pos') pos) (tI (fun i => .int (i / n)) ta) := by
  intro pins s σ H Q I hq
  refine pe_op op_fdiv ha pe_int pins s σ H Q I ?_
  refine (show ∀ t : TE, PE X a t → _ from fun _ _ => ?_) ta ha
  exact (show tOp (rI CDiv fun i j => .int (i / j)) ta (tC (.int n)) σ H Q from by
    unfold tOp tC rI
    unfold tI at hq
    have : (fun x H1 => ∃ i, x = V.int i ∧ Q (.int (i / n)) H1) = (fun x H1 => ∃ i j, x = V.int i ∧ V.int n = V.int j ∧ CDiv i j ∧ Q (.int (i / j)) H1) := by
      funext x H1
      apply propext
      constructor
      · rintro ⟨i, e, q⟩; exact ⟨i, n, e, rfl, h, q⟩
      · rintro ⟨i, j, e, e', _, q⟩; cases e'; exact ⟨i, e, q⟩
    rw [this] at hq
    exact hq)
theorem pe_modc {n : Int} (ha : PE X a ta) (h : 0 < n := by decide) : PE X (.BinOp a .Mod (.Constant (.int n) k pos') pos) (tI (fun i => .int (i % n)) ta) := by
  intro pins s σ H Q I hq
  refine pe_op op_mod ha pe_int pins s σ H Q I ?_
  unfold tOp tC rI
  unfold tI at hq
  have : (fun x H1 => ∃ i, x = V.int i ∧ Q (.int (i % n)) H1) = (fun x H1 => ∃ i j, x = V.int i ∧ V.int n = V.int j ∧ 0 < j ∧ Q (.int (i % j)) H1) := by
    funext x H1
    apply propext
    constructor
    · rintro ⟨i, e, q⟩; exact ⟨i, n, e, rfl, h, q⟩
    · rintro ⟨i, j, e, e', _, q⟩; cases e'; exact ⟨i, e, q⟩
  rw [this] at hq
  exact hq
theorem pe_mulc {n : Int} (ha : PE X a ta) (h : -(2 ^ 64) < n ∧ n < 2 ^ 64 := by decide) : PE X (.BinOp a .Mult (.Constant (.int n) k pos') pos) (tI (fun i => .int (i * n)) ta) := by
  intro pins s σ H Q I hq
  refine pe_op op_mulG ha pe_int pins s σ H Q I ?_
  unfold tOp tC rI
  unfold tI at hq
  have : (fun x H1 => ∃ i, x = V.int i ∧ Q (.int (i * n)) H1) = (fun x H1 => ∃ i j, x = V.int i ∧ V.int n = V.int j ∧ IntMulOk i j ∧ Q (.int (i * j)) H1) := by
    funext x H1
    apply propext
    constructor
    · rintro ⟨i, e, q⟩; exact ⟨i, n, e, rfl, ok_right h.1 h.2, q⟩
    · rintro ⟨i, j, e, e', _, q⟩; cases e'; exact ⟨i, e, q⟩
  rw [this] at hq
  exact hq
theorem pe_cmul {n : Int} (ha : PE X a ta) (h : -(2 ^ 64) < n ∧ n < 2 ^ 64 := by decide) : PE X (.BinOp (.Constant (.int n) k pos') .Mult a pos) (tI (fun i => .int (n * i)) ta) := by
  intro pins s σ H Q I hq
  refine pe_op op_mulG pe_int ha pins s σ H Q I ?_
  unfold tOp tC rI
  unfold tI at hq
  have : (fun x H1 => ∃ i, x = V.int i ∧ Q (.int (n * i)) H1) = (fun x H1 => ∃ i j, V.int n = V.int i ∧ x = V.int j ∧ IntMulOk i j ∧ Q (.int (i * j)) H1) := by
    funext x H1
    apply propext
    constructor
    · rintro ⟨i, e, q⟩; exact ⟨n, i, rfl, e, ok_left h.1 h.2, q⟩
    · rintro ⟨i, j, e', e, _, q⟩; cases e'; exact ⟨j, e, q⟩
  rw [this] at hq
  exact hq
def tyName : V → Hp → Option String
  | .non, _ => some "NoneType"
  | .bl _, _ => some "bool"
  | .int _, _ => some "int"
  | .str _, _ => some "str"
  | .ref a, H => match H a with
    | some (.lst _) => some "list"
    | some (.tup _) => some "tuple"
    | some (.dK _) => some "dict"
    | _ => none
  | _, _ => none
theorem tyName_of {K : PySem.W.Frag} {H : Hp} {x : V} {n : String} (h : tyName x H = some n) : TyOf K H x (.type n) := by
  cases x with
  | non => cases h; exact .non
  | bl b => cases h; exact .bl b
  | int i => cases h; exact .int i
  | str y => cases h; exact .str y
  | ref a =>
    unfold tyName at h
    cases e : H a with
    | none => simp [e] at h
    | some o =>
      cases o <;> simp [e] at h
      · subst h; exact .lst e
      · subst h; exact .tup e
      · subst h; exact .dK e
  | byt _ => cases h
  | flt _ => cases h
  | ty _ => cases h
def subT (n T : String) : Option Bool := PySem.W.kitOne [] (.type n) (.type T)
theorem kit_any {K : PySem.W.Frag} {n T : String} : PySem.W.kitOne K (.type n) (.type T) = subT n T := rfl
theorem call_isi : CallR X (.builtin "isinstance") (fun xs H Q => ∃ x T n b, xs = [x, .ty T] ∧ tyName x H = some n ∧ subT n T = some b ∧ Q (.bl b) H) := by
  intro pins s σ H xs us Q I r h
  obtain ⟨x, T, n, b, rfl, hn, hb, q⟩ := h
  obtain ⟨u, v, rfl, ru, rv⟩ := r.two
  cases (show v = Value.type T from rv)
  exact isinst_ok I ru (tyName_of hn) (kit_any.trans hb) fun tk => ⟨.bl b, H, I.tok tk, rfl, q⟩
end
mutual
inductive Dt (K : PySem.W.Frag) (H : Hp) : V → PyData → Prop where
  | non : Dt K H .non .none
  | bl (b) : Dt K H (.bl b) (.bool b)
  | int (i) : Dt K H (.int i) (.int i)
  | str (x) : Dt K H (.str x) (.str x)
  | lst {a xs ds} : SqL K H a xs → DtAll K H xs ds → Dt K H (.ref a) (.list ds)
  | tup {a xs ds} : SqT K H a xs → DtAll K H xs ds → Dt K H (.ref a) (.tuple ds)
inductive DtAll (K : PySem.W.Frag) (H : Hp) : List V → List PyData → Prop where
  | nil : DtAll K H [] []
  | cons {x xs d ds} : Dt K H x d → DtAll K H xs ds → DtAll K H (x :: xs) (d :: ds)
end
section
variable {X : Cx}
mutual
theorem Dt.reads {pins : List (Addr × Obj)} {σ : St} {H : Hp} {s : Shared} (I : Inv X pins σ H s) : ∀ {x : V} {d : PyData} {u : Value}, Dt X.K H x d → RelV x u → ∃ as, Reads s.heap u d as
  | _, _, _, .non, r => by cases r; exact ⟨_, .none⟩
  | _, _, _, .bl b, r => by cases r; exact ⟨_, .bool b⟩
  | _, _, _, .int i, r => by obtain ⟨t, rfl⟩ := r; exact ⟨_, .int i t⟩
  | _, _, _, .str x, r => by obtain ⟨t, rfl⟩ := r; exact ⟨_, .str x t⟩
  | _, _, _, .lst h hs, r => by
    cases r
    obtain ⟨its, r', ⟨o, n, e, ec, ed, ex⟩, _⟩ := I.list h
    obtain ⟨as, q⟩ := DtAll.reads I hs r'
    exact ⟨_, .list e ec ex (by simpa using q)⟩
  | _, _, _, .tup h hs, r => by
    cases r
    obtain ⟨its, r', ⟨o, e, ec, n, ex⟩, _⟩ := I.tuple h
    obtain ⟨as, q⟩ := DtAll.reads I hs r'
    exact ⟨_, .tuple e ec ex (by simpa using q)⟩
theorem DtAll.reads {pins : List (Addr × Obj)} {σ : St} {H : Hp} {s : Shared} (I : Inv X pins σ H s) : ∀ {xs : List V} {ds : List PyData} {us : List Value}, DtAll X.K H xs ds → Vals xs us → ∃ as, ReadsAll s.heap us ds as
  | _, _, _, .nil, r => by cases r; exact ⟨_, .nil⟩
  | _, _, _, .cons h hs, r => by
    cases r with
    | cons r rs =>
      obtain ⟨as, q⟩ := Dt.reads I h r
      obtain ⟨bs, q'⟩ := DtAll.reads I hs rs
      exact ⟨_, .cons q q'⟩
end
theorem op_eqD (hu : X.A.units + 64 < cLine) : OpR X (compareOp .Eq) (fun x y H Q => ∃ d d', Dt X.K H x d ∧ Dt X.K H y d' ∧ PySem.SeqAt.shaped d = true ∧ PySem.SeqAt.shaped d' = true ∧ Q (.bl (PyData.eqv d d')) H) := by
  intro pins s σ H x y v u Q I rx ry h
  obtain ⟨d, d', h1, h2, s1, s2, q⟩ := h
  obtain ⟨as, r1⟩ := h1.reads I rx
  obtain ⟨bs, r2⟩ := h2.reads I ry
  exact eq_dataH r1 r2 s1 s2 hu ⟨.bl _, H, I, rfl, q⟩
theorem op_neD (hu : X.A.units + 64 < cLine) : OpR X (compareOp .NotEq) (fun x y H Q => ∃ d d', Dt X.K H x d ∧ Dt X.K H y d' ∧ PySem.SeqAt.shaped d = true ∧ PySem.SeqAt.shaped d' = true ∧ Q (.bl (!PyData.eqv d d')) H) := by
  intro pins s σ H x y v u Q I rx ry h
  obtain ⟨d, d', h1, h2, s1, s2, q⟩ := h
  obtain ⟨as, r1⟩ := h1.reads I rx
  obtain ⟨bs, r2⟩ := h2.reads I ry
  exact ne_dataH r1 r2 s1 s2 hu ⟨.bl _, H, I, rfl, q⟩
theorem op_catL : OpR X (binaryOp .Add) (fun x y H Q => ∃ l b xs zs, x = .ref l ∧ y = .ref b ∧ SqL X.K H l xs ∧ SqL X.K H b zs ∧ xs.length + zs.length ≤ sizeLine ∧ ∀ p, H p = none → Q (.ref p) (upd H p (.lst (xs ++ zs)))) := by
  intro pins s σ H x y v u Q I rx ry h
  obtain ⟨l, b, xs, zs, rfl, rfl, hH, hB, hz, q⟩ := h
  cases rx
  cases ry
  obtain ⟨its, r, ⟨⟨cls, dd, data, sl⟩, n, e, ec, ed, ex⟩, _⟩ := I.list hH
  obtain ⟨its2, r2, ⟨⟨cls2, dd2, data2, sl2⟩, n2, e2, ec2, ed2, ex2⟩, _⟩ := I.list hB
  simp only at ec ed ex ec2 ed2 ex2
  subst ec ed ex ec2 ed2 ex2
  refine concat_meets ⟨_, e, rfl⟩ ⟨_, e2, rfl⟩ noFill_list_add seq_list_add PySem.F.slot_list_add PySem.F.entry_list_add (PySem.F.args_list_add_2 _ _) (list_addW l b its.toArray its2.toArray n n2 none none sl sl2 (by rw [List.size_toArray, List.size_toArray, ← r.length, ← r2.length]; exact hz)) ⟨e, e2, ?_⟩
  have ea : its.toArray ++ its2.toArray = (its ++ its2).toArray := by simp
  rw [ea]
  exact ⟨.ref _, _, I.lnew (t' := s.toks) (r.append r2) (by rw [List.length_append]; exact hz), rfl, q _ I.fresh⟩
end
end L2
namespace L2
open PySem PySem.Spec PyProof.Rows
structure Def (K : PySem.W.Frag) (mg : Str → Option Value) (x : Str) (st : Stmt) : Prop where
  ex : ∃ f fd, Fun K x x st f fd ∧ mg x = some (.ref f)
structure Fn (P : Program) (w : World) (K : PySem.W.Frag) (mg : Str → Option Value) (base : Heap) (k : Nat) (x : Str) (ps : List Str) (sp : Sp) : Prop where
  ex : ∃ f fd, FnOk P w K mg base CX0 k f fd ps sp ∧ mg x = some (.ref f) ∧ PySem.W.keepIn K (.ref f) = true ∧ Binds K fd ps []
section
variable {P : Program} {w : World} {K : PySem.W.Frag} {mg : Str → Option Value} {base : Heap} {k : Nat} {x : Str} {N ps : List Str} {sp : Sp} {st : Stmt}
theorem Def.fn (D : Def K mg x st) (S : FnScope N ps (defScope st))
    (hb : ∀ (kV doc pm : Value) (an : Option Addr) (cdv ct : Value) (us : List Value), us.length = ps.length → bindArgs (PySem.W.fnOf x x (defArgs st) (defBody st) (defScope st) .none kV doc pm an cdv ct) ⟨us, []⟩ = pure (ps.zip us))
    (len : ∀ vs H Q E, sp vs H Q E → vs.length = ps.length)
    (hbody : ∀ (f : Addr) (cdv : Value) (A : Around) (outer : List Env) (s : Shared) (H : Hp) (vs : List V) (Q : VK) (E : XK), Room k (A.deeper (envOfC x (defScope st) s.heap.objs.size f cdv)) → sp vs H Q E →
      ∃ t, PSs (cxOf CX0 P w K mg base N x (defScope st) f cdv A outer s H E).nox (defBody st) t ∧ t { nx := fun _ H' => Q .non H', rt := Q } (start N vs) H) : Fn P w K mg base (k + 1) x ps sp := by
  obtain ⟨f, fd, F, m⟩ := D.ex
  exact ⟨f, fd, F.ok S len fun cdv A outer s H vs Q E => hbody f cdv A outer s H vs Q E, m, F.kp, F.binds hb⟩
end
section
variable {X : Cx} {k m : Nat} {x : Str} {ps : List Str} {sp : Sp} {p pos : Pos} {e : Expr} {es : List Expr} {t : TA}
theorem pe_fn (F : Fn X.prog X.w X.K X.mg X.base k x ps sp) (hr : Room m X.A) (hg : Gl X x) (ha : PA X (e :: es) t) (hk : k ≤ m := by decide)
    (hdb : (x == ("__debug__" : Str)) = false := by decide) (he : starEach (e :: es) X.env = (false, eval e X.env) :: starEach es X.env := by rfl) (hpl : (backTo pos (starEach es X.env)).any (·.1) = false := by rfl) :
    PE X (.Call (.Name x p) (e :: es) [] pos) (tCall sp [] E0 t) := by
  obtain ⟨f, fd, F, hm, hkp, hb⟩ := F.ex
  exact pe_call F (hr.mono hk) hg hm hkp hb .nil pass0 ha hdb he hpl
end
theorem def_mk {K : PySem.W.Frag} {h : Heap} {mg : Str → Option Value} {x : Str} {st : Stmt} {f : Addr} {oc : Value} {od an : Option Addr} {osl : Array (Option Value)} {kV doc pm cdv ct : Value} (X : K.In h) (G : h.Ns mainGlobals mg)
    (a : PySem.W.nsIn K mainGlobals x = some (some (.ref f))) (l : K.lookup f = some ⟨oc, od, .func (PySem.W.fnOf x x (defArgs st) (defBody st) (defScope st) .none kV doc pm an cdv ct), osl⟩)
    (c : PySem.W.codeIn K cdv x = true) (k : PySem.W.keepIn K (.ref f) = true) : Def K mg x st := ⟨f, _, fun_mk l c k, PySem.W.mg_of X G a⟩
theorem pe_tyv {X : Cx} {x : Str} {T : String} {pos : Pos} (hg : Gl X x) (hm : X.mg x = none) (hv : bootBuiltins x = some (.type T)) (hn : x ≠ "__name__" := by decide) (hd : (x == ("__debug__" : Str)) = false := by decide) : PE X (.Name x pos) (tC (.ty T)) :=
  pe_bltn hg hm hv rfl hn hd
section
variable {σ : St} {H : Hp} {Q : VK}
theorem q_var {i : Nat} {v : V} (h : σ[i]? = some (some v)) : tVar i σ H Q = Q v H := by
  unfold tVar; rw [h]; simp
theorem q_C {v : V} : tC v σ H Q = Q v H := rfl
theorem q_Op {r : R2} {ta tb : TE} : tOp r ta tb σ H Q = ta σ H fun x H1 => tb σ H1 fun y H2 => r x y H2 Q := rfl
theorem q_Un {r : V → Hp → VK → Prop} {ta : TE} : tUn r ta σ H Q = ta σ H fun x H1 => r x H1 Q := rfl
theorem q_rI0 {g : Int → Int → V} {i j : Int} : rI0 g (.int i) (.int j) H Q = Q (g i j) H := by unfold rI0; simp
theorem q_rI {C : Int → Int → Prop} {g : Int → Int → V} {i j : Int} : rI C g (.int i) (.int j) H Q = (C i j ∧ Q (g i j) H) := by unfold rI; simp
theorem q_rU {g : Int → V} {i : Int} : rU g (.int i) H Q = Q (g i) H := by unfold rU; simp
def rT (f : Int → V) : V → Hp → VK → Prop := fun x H Q => ∃ i, x = .int i ∧ Q (f i) H
theorem q_tI {f : Int → V} {ta : TE} : tI f ta σ H Q = ta σ H fun x H1 => rT f x H1 Q := rfl
theorem q_rT {f : Int → V} {i : Int} : rT f (.int i) H Q = Q (f i) H := by unfold rT; simp
theorem q_eqI {i j : Int} : rEq (.int i) (.int j) H Q = Q (.bl (decide (i = j))) H := by unfold rEq; simp [scal]
theorem q_neI {i j : Int} : rNe (.int i) (.int j) H Q = Q (.bl (!decide (i = j))) H := by unfold rNe; simp [scal]
theorem q_eqS {i j : Str} : rEq (.str i) (.str j) H Q = Q (.bl (decide (i = j))) H := by unfold rEq; simp [scal]
theorem q_neS {i j : Str} : rNe (.str i) (.str j) H Q = Q (.bl (!decide (i = j))) H := by unfold rNe; simp [scal]
def rB (x : V) (H : Hp) (Q : Bool → Hp → Prop) : Prop := ∃ k, x = .bl k ∧ Q k H
theorem q_rB {b : Bool} {Q : Bool → Hp → Prop} : rB (.bl b) H Q = Q b H := by unfold rB; simp
theorem q_test {t : TE} {Q : Bool → Hp → Prop} : tTest t σ H Q = t σ H fun x H' => rB x H' Q := rfl
theorem q_tB {t : TE} {Q : Bool → Hp → Prop} : tB t σ H Q = t σ H fun x H' => rB x H' Q := rfl
theorem q_notT {t : TT} {Q : Bool → Hp → Prop} : tNot t σ H Q = t σ H fun c H1 => Q (!c) H1 := rfl
theorem q_andT {t u : TT} {Q : Bool → Hp → Prop} : tAnd t u σ H Q = t σ H fun c H1 => if c = true then u σ H1 Q else Q false H1 := rfl
theorem q_orT {t u : TT} {Q : Bool → Hp → Prop} : tOr t u σ H Q = t σ H fun c H1 => if c = true then Q true H1 else u σ H1 Q := rfl
theorem q_andV {t u : TE} : tAndV t u σ H Q = t σ H fun x H1 => rB x H1 fun c H2 => if c = true then u σ H2 Q else Q (.bl false) H2 := rfl
theorem q_notV {t : TE} : tNotV t σ H Q = t σ H fun x H1 => rB x H1 fun c H2 => Q (.bl (!c)) H2 := rfl
theorem q_chain {r r' : R2} {ta tb tc : TE} : tChain r r' ta tb tc σ H Q = ta σ H fun x H1 => tb σ H1 fun y H2 => r x y H2 fun z H3 => rB z H3 fun k H4 => if k = true then tc σ H4 fun w' H5 => r' y w' H5 Q else Q (.bl false) H4 := rfl
theorem q_nil {Q : List V → Hp → Prop} : tNil σ H Q = Q [] H := rfl
theorem q_cons {ta : TE} {tr : TA} {Q : List V → Hp → Prop} : tCons ta tr σ H Q = ta σ H fun x H1 => tr σ H1 fun xs H2 => Q (x :: xs) H2 := rfl
theorem q_call {sp : Sp} {dvs : List V} {E : XK} {t : TA} : tCall sp dvs E t σ H Q = t σ H fun vs H1 => sp (vs ++ dvs) H1 Q E := rfl
theorem q_CB {r : List V → Hp → VK → Prop} {t : TA} : tCB r t σ H Q = t σ H fun vs H1 => r vs H1 Q := rfl
theorem q_tup {t : TA} : tTup t σ H Q = t σ H fun xs H1 => xs.length ≤ sizeLine ∧ ∀ p, H1 p = none → Q (.ref p) (upd H1 p (.tup xs)) := rfl
theorem q_lst {t : TA} : tLst t σ H Q = t σ H fun xs H1 => xs.length ≤ sizeLine ∧ ∀ p, H1 p = none → Q (.ref p) (upd H1 p (.lst xs)) := rfl
theorem q_BM {K : PySem.W.Frag} {T : String} {r : V → List V → Hp → VK → Prop} {to : TE} {t : TA} : tBM K T r to t σ H Q = to σ H fun x H1 => tyV K T x H1 ∧ t σ H1 fun vs H2 => r x vs H2 Q := rfl
theorem q_Sl {r : V → Option Int → Option Int → Hp → VK → Prop} {te : TE} {tl th : TO} : tSl r te tl th σ H Q = te σ H fun x H1 => tl σ H1 fun l H2 => th σ H2 fun h H3 => r x l h H3 Q := rfl
theorem q_noPart {Q : Option Int → Hp → Prop} : tNoPart σ H Q = Q none H := rfl
def rP (x : V) (H : Hp) (Q : Option Int → Hp → Prop) : Prop := ∃ i, x = .int i ∧ Q (some i) H
theorem q_part {t : TE} {Q : Option Int → Hp → Prop} : tPart t σ H Q = t σ H fun x H1 => rP x H1 Q := rfl
theorem q_rP {i : Int} {Q : Option Int → Hp → Prop} : rP (.int i) H Q = Q (some i) H := by unfold rP; simp
theorem q_LC {wi : TI} {g : TG} {tc : TT} {te : TE} {fv : List (Option Nat)} : tLC wi g tc te fv σ H Q = wi σ H (rLC g tc te (upS fv σ) Q) := rfl
theorem q_True {Q : Bool → Hp → Prop} : tTrue σ H Q = Q true H := rfl
end
section
variable {D : Ends} {σ : St} {H : Hp}
theorem q_next : tNext D σ H = D.nx σ H := rfl
theorem q_seq {t u : TS} : tSeq t u D σ H = t { D with nx := u D } σ H := rfl
theorem q_drop {te : TE} : tDrop te D σ H = te σ H fun _ H1 => D.nx σ H1 := rfl
theorem q_ret {te : TE} : tRet te D σ H = te σ H D.rt := rfl
theorem q_ifS {c : TT} {t u : TS} : tIfS c t u D σ H = c σ H fun b H1 => if b = true then t D σ H1 else u D σ H1 := rfl
theorem q_asg {te : TE} {g : TG} : tAsg te g D σ H = te σ H fun x H1 => g x σ H1 D.nx := rfl
end
theorem q_name {i : Nat} {v : V} {σ : St} {H : Hp} {Q : St → Hp → Prop} : gName i v σ H Q = Q (σ.set i (some v)) H := rfl
theorem q_iList {K : PySem.W.Frag} {tl : TE} {σ : St} {H : Hp} {R : It → Hp → Prop} : iList K tl σ H R = tl σ H fun x H1 => ∃ a, x = .ref a ∧ (∃ xs, SqL K H1 a xs) ∧ R (Itl K a) H1 := rfl
theorem q_iRng1 {ta : TA} {σ : St} {H : Hp} {R : It → Hp → Prop} : iRng1 ta σ H R = ta σ H fun vs H1 => ∃ j : Int, vs = [.int j] ∧ -(2 ^ 62) ≤ j ∧ j < 2 ^ 62 ∧ R (Itr 0 j.toNat) H1 := rfl
def rFor (g : TG) (tb : TS) (D : Ends) (σ : St) : It → Hp → Prop := fun J H1 => ∃ W : Nat → Nat → St → Hp → Prop, (∃ m, W 0 m σ H1) ∧ ∀ i m σ H, W i m σ H →
  (J.stop i H ∧ D.nx σ H) ∨ (J.go i H ∧ ∃ N : St → Hp → Prop, (∀ σ' H', N σ' H' → ∃ m', m' < m ∧ W (i + 1) m' σ' H') ∧ ∀ x H', J.yld i H x H' → g x σ H' fun σ2 H2 => tb { D with nx := N, ct := N, bk := D.nx } σ2 H2)
theorem q_for {wi : TI} {g : TG} {tb : TS} {D : Ends} {σ : St} {H : Hp} : tFor wi g tb D σ H = wi σ H (rFor g tb D σ) := rfl
theorem Same.new {H : Hp} {p : Addr} (h : H p = none) (o : HO) : Same H (upd H p o) := fun b u q => by rw [upd_ne (ne_of_none q h)]; exact q
theorem Same.set {H H' : Hp} {p : Addr} (e : Same H H') (h : H p = none) (o : HO) : Same H (upd H' p o) := fun b u q => by rw [upd_ne (ne_of_none q h)]; exact e b u q
structure ItOk (J : It) (H1 : Hp) (n : Nat) (item : Nat → V) : Prop where
  go : ∀ i H, Same H1 H → i < n → J.go i H
  stop : ∀ i H, Same H1 H → n ≤ i → J.stop i H
  yld : ∀ i H x H', Same H1 H → i < n → J.yld i H x H' → H' = H ∧ x = item i
theorem itok_list {K : PySem.W.Frag} {H1 : Hp} {a : Addr} {xs : List V} (h : SqL K H1 a xs) : ItOk (Itl K a) H1 xs.length fun i => xs.getD i .non where
  go := fun i H e hi => ⟨xs, xs[i], e.seq h, by simp [hi]⟩
  stop := fun i H e hi => ⟨xs, e.seq h, hi⟩
  yld := fun i H x H' e hi y => by
    obtain ⟨e1, y⟩ := y
    have := y xs (e.seq h)
    refine ⟨e1, ?_⟩
    show x = xs.getD i .non
    rw [List.getD_eq_getElem?_getD, this]; rfl
theorem itok_range {H1 : Hp} {lo : Int} {n : Nat} : ItOk (Itr lo n) H1 n fun i => .int (lo + i) where
  go := fun i H e hi => hi
  stop := fun i H e hi => hi
  yld := fun i H x H' e hi y => y
def LcN (T : Nat → St → Prop) (F : Nat → List V) (H1 : Hp) (acc : Addr) (i : Nat) : St → Hp → Prop := fun τ' H' => T (i + 1) τ' ∧ Same H1 H' ∧ H' acc = some (.lst (F (i + 1)))
theorem lc_put {T : Nat → St → Prop} {F : Nat → List V} {H1 H4 : Hp} {acc : Addr} {i : Nat} {τ : St} {v : V} (hn : H1 acc = none) (h : H4 acc = some (.lst (F i))) (hs : Same H1 H4) (hz : (F i).length < sizeLine) (hF : F (i + 1) = F i ++ [v]) (hT : T (i + 1) τ) :
    ∃ ys, H4 acc = some (.lst ys) ∧ ys.length < sizeLine ∧ LcN T F H1 acc i τ (upd H4 acc (.lst (ys ++ [v]))) :=
  ⟨F i, h, hz, hT, hs.set hn _, by rw [upd_same, hF]⟩
theorem rLC_by {g : TG} {tc : TT} {te : TE} {τ0 : St} {Q : VK} {J : It} {H1 : Hp} {n : Nat} {item : Nat → V} (ok : ItOk J H1 n item) (F : Nat → List V) (T : Nat → St → Prop)
    (h0 : F 0 = []) (hT : T 0 τ0)
    (step : ∀ i τ H acc, i < n → T i τ → H1 acc = none → Same H1 H → H acc = some (.lst (F i)) → g (item i) τ H fun τ2 H2 => tc τ2 H2 fun b H3 =>
      if b = true then te τ2 H3 fun v H4 => ∃ ys, H4 acc = some (.lst ys) ∧ ys.length < sizeLine ∧ LcN T F H1 acc i τ2 (upd H4 acc (.lst (ys ++ [v]))) else LcN T F H1 acc i τ2 H3)
    (fin : ∀ acc H, H1 acc = none → Same H1 H → H acc = some (.lst (F n)) → Q (.ref acc) H) : rLC g tc te τ0 Q J H1 := by
  intro acc hacc
  refine ⟨fun i m τ H => m = n - i ∧ i ≤ n ∧ T i τ ∧ Same H1 H ∧ H acc = some (.lst (F i)), ⟨n, by simp, Nat.zero_le _, hT, Same.new hacc _, by rw [upd_same, h0]⟩, ?_⟩
  rintro i m τ H ⟨rfl, hi, hTi, hS, hF⟩
  by_cases hlt : i < n
  · refine .inr ⟨ok.go i H hS hlt, LcN T F H1 acc i, fun τ' H' ⟨a, b, c⟩ => ⟨n - (i + 1), by omega, rfl, hlt, a, b, c⟩, fun x H' y => ?_⟩
    obtain ⟨rfl, rfl⟩ := ok.yld i H x H' hS hlt y
    exact step i τ H' acc hlt hTi hacc hS hF
  · have e : i = n := by omega
    subst e
    exact .inl ⟨ok.stop i H hS (Nat.le_refl _), fin acc H hacc hS hF⟩
theorem q_var0 {v : V} {σ : St} {H : Hp} {Q : VK} : tVar 0 (some v :: σ) H Q = Q v H := q_var rfl
theorem q_varS {i : Nat} {o : Option V} {σ : St} {H : Hp} {Q : VK} : tVar (i + 1) (o :: σ) H Q = tVar i σ H Q := rfl
def cscB (osc : Scope) (oN N : List Str) (scope : Scope) (fv : List (Option Nat)) : Bool :=
  decide (scope.kind = .function) && decide (osc.kind = .function) && scope.names.all (fun y => decide (y.2 ≠ .cell)) && scope.names.all (fun y => decide (y.2 = .local → scope.names.lookup y.1 = some .local)) &&
  scope.names.all (fun y => decide (y.2 = .free → osc.names.lookup y.1 = some .cell)) && (rl scope osc).names.all (fun y => decide (y.2 ≠ .free)) && decide (fv.length = N.length) && decide (N.length < 20) &&
  (List.range N.length).all (fun i => match fv[i]? with
    | some (some j) => decide (oN[j]? = N[i]?) && (match N[i]? with | some x => decide ((rl scope osc).names.lookup x = some .cell) && decide (osc.names.lookup x = some .cell) | none => false)
    | _ => true)
theorem csc_of {X : Cx} {osc : Scope} {oN N : List Str} {scope : Scope} {fv : List (Option Nat)} (h1 : X.env.scope = osc) (h2 : X.N = oN) (h : cscB osc oN N scope fv = true) : CSc X.env.scope X.N N scope fv := by
  rw [h1, h2]
  unfold cscB at h
  simp only [Bool.and_eq_true, List.all_eq_true, decide_eq_true_eq] at h
  obtain ⟨⟨⟨⟨⟨⟨⟨⟨a1, a2⟩, a3⟩, a4⟩, a5⟩, a6⟩, a7⟩, a8⟩, a9⟩ := h
  refine ⟨a1, a2, a3, a4, a5, a6, a7, fun i j _ e => ?_, a8⟩
  have hi : i < N.length := by rw [← a7]; exact (List.getElem?_eq_some_iff.mp e).1
  have q := a9 i (List.mem_range.mpr hi)
  rw [e] at q
  simp only [Bool.and_eq_true, decide_eq_true_eq] at q
  refine ⟨q.1, fun x hx => ?_⟩
  have q2 := q.2
  rw [hx] at q2
  simpa using q2
end L2
namespace L2
open PySem PySem.Spec PyProof.Rows
def nst (e : Expr) : Bool := match e with
  | .Starred _ _ => false
  | _ => true
theorem star_cons {e : Expr} {es : List Expr} {env : Env} (h : nst e = true) : starEach (e :: es) env = (false, eval e env) :: starEach es env := by
  cases e <;> first | rfl | cases h
theorem plain_of {pos : Pos} {env : Env} : ∀ {es : List Expr}, es.all nst = true → (backTo pos (starEach es env)).any (·.1) = false
  | [], _ => rfl
  | e :: es, h => by
    rw [List.all_cons, Bool.and_eq_true] at h
    rw [star_cons h.1]
    show (false || (backTo pos (starEach es env)).any (·.1)) = false
    rw [plain_of h.2]; rfl
theorem plainA_of {pos : Pos} {env : Env} : ∀ {es : List Expr}, es.all nst = true → (backTo pos (starEach es env)).all (fun x => !x.1) = true
  | [], _ => rfl
  | e :: es, h => by
    rw [List.all_cons, Bool.and_eq_true] at h
    rw [star_cons h.1]
    show (true && (backTo pos (starEach es env)).all (fun x => !x.1)) = true
    rw [plainA_of h.2]; rfl
structure PB (X : Cx) (es : List Expr) (t : TA) : Prop where
  pa : PA X es t
  ns : es.all nst = true
section
variable {X : Cx} {e o : Expr} {es : List Expr} {te to : TE} {t : TA} {pos p : Pos}
theorem pb_nil : PB X [] tNil := ⟨pa_nil, rfl⟩
theorem pb_cons (ha : PE X e te) (hr : PB X es t) (hn : nst e = true := by rfl) : PB X (e :: es) (tCons te t) :=
  ⟨pa_cons ha hr.pa (star_cons hn), by rw [List.all_cons, hn, hr.ns]; rfl⟩
theorem PB.he (h : PB X (e :: es) t) : nst e = true := by have := h.ns; rw [List.all_cons, Bool.and_eq_true] at this; exact this.1
theorem PB.hes (h : PB X (e :: es) t) : es.all nst = true := by have := h.ns; rw [List.all_cons, Bool.and_eq_true] at this; exact this.2
theorem pe_tp {x1} (h : PB X es t) : PE X (.Tuple es x1 pos) (tTup t) := pe_tup h.pa
theorem pe_ls (h : PB X es t) : PE X (.List es pos) (tLst t) := pe_lst h.pa
end
structure Sc (X : Cx) (N W G : List Str) : Prop where
  eN : X.N = N
  nd : N.Nodup
  vis : ∀ x ∈ N, Vis X.env.scope x ∧ (x == ("__debug__" : Str)) = false ∧ (x == ("__classdict__" : Str)) = false
  sto : ∀ x ∈ W, Loc X.env.scope x ∧ (X.fn x = true ∨ X.env.scope.names.lookup x = some .local)
  gl : ∀ x ∈ G, Gl X x ∧ (x == ("__debug__" : Str)) = false ∧ x ≠ "__name__"
def visB (sc : Scope) (x : Str) : Bool := (sc.names.lookup x == some .local || sc.names.lookup x == some .cell || sc.names.lookup x == some .free) && !(x == ("__debug__" : Str)) && !(x == ("__classdict__" : Str))
theorem visB_of {sc : Scope} {x : Str} (h : visB sc x = true) : Vis sc x ∧ (x == ("__debug__" : Str)) = false ∧ (x == ("__classdict__" : Str)) = false := by
  unfold visB at h
  simp only [Bool.and_eq_true, Bool.or_eq_true, beq_iff_eq, Bool.not_eq_true'] at h
  obtain ⟨⟨h1, h2⟩, h3⟩ := h
  refine ⟨?_, h2, h3⟩
  rcases h1 with (h1 | h1) | h1
  · exact .inl h1
  · exact .inr (.inl h1)
  · exact .inr (.inr h1)
def glB (sc : Scope) (x : Str) : Bool := sc.names.lookup x == some .globalImplicit && !(x == ("__debug__" : Str)) && !(x == ("__name__" : Str))
theorem glB_of {sc : Scope} {x : Str} (h : glB sc x = true) : sc.names.lookup x = some .globalImplicit ∧ (x == ("__debug__" : Str)) = false ∧ x ≠ "__name__" := by
  unfold glB at h
  simp only [Bool.and_eq_true, beq_iff_eq, Bool.not_eq_true', beq_eq_false_iff_ne] at h
  exact ⟨h.1.1, by simpa using h.1.2, h.2⟩
def dsB (sc : Scope) (N ps G : List Str) : Bool :=
  decide (sc.kind = .function) && !sc.isCoroutine && !sc.isGenerator && decide N.Nodup && decide (N.take ps.length = ps) && ps.all (fun x => sc.names.lookup x == some .local || sc.names.lookup x == some .cell) &&
  sc.names.all (fun y => decide (y.2 ≠ .free)) && N.all (visB sc) && N.all (fun x => sc.names.lookup x == some .local || sc.names.lookup x == some .cell) && G.all (glB sc)
structure DS (sc : Scope) (N ps G : List Str) : Prop where
  fs : FnScope N ps sc
  vis : ∀ x ∈ N, visB sc x = true
  loc : ∀ x ∈ N, Loc sc x
  gl : ∀ x ∈ G, glB sc x = true
theorem ds_of {sc : Scope} {N ps G : List Str} (h : dsB sc N ps G = true) : DS sc N ps G := by
  unfold dsB at h
  simp only [Bool.and_eq_true, Bool.not_eq_true', List.all_eq_true, decide_eq_true_eq, Bool.or_eq_true, beq_iff_eq] at h
  obtain ⟨⟨⟨⟨⟨⟨⟨⟨⟨a1, a2⟩, a3⟩, a4⟩, a5⟩, a6⟩, a7⟩, a8⟩, a9⟩, a10⟩ := h
  exact ⟨⟨a1, a2, a3, a4, a5, a6, a7⟩, a8, a9, a10⟩
section
variable {P : Program} {w : World} {K : PySem.W.Frag} {mg : Str → Option Value} {base : Heap} {k : Nat} {x : Str} {N ps G : List Str} {sp : Sp} {st : Stmt}
theorem DS.cx {sc : Scope} {q : Str} {f : Addr} {cdv : Value} {A : Around} {outer : List Env} {s : Shared} {H : Hp} {E : XK} (D : DS sc N ps G) : Sc (cxOf CX0 P w K mg base N q sc f cdv A outer s H E).nox N N G :=
  ⟨rfl, D.fs.nd, fun x hx => visB_of (D.vis x hx), fun x hx => ⟨D.loc x hx, .inl rfl⟩, fun x hx => glB_of (D.gl x hx)⟩
theorem Def.go (D : Def K mg x st) (S : DS (defScope st) N ps G)
    (hb : ∀ (kV doc pm : Value) (an : Option Addr) (cdv ct : Value) (us : List Value), us.length = ps.length → bindArgs (PySem.W.fnOf x x (defArgs st) (defBody st) (defScope st) .none kV doc pm an cdv ct) ⟨us, []⟩ = pure (ps.zip us))
    (len : ∀ vs H Q E, sp vs H Q E → vs.length = ps.length)
    (hbody : ∀ (X : Cx), Sc X N N G → X.prog = P → X.w = w → X.K = K → X.mg = mg → X.base = base → X.calm = true → X.env.scope = defScope st → X.xe = (fun _ _ => False) → Room k X.A → X.A.units + 64 < cLine →
      ∀ (H : Hp) (vs : List V) (Q : VK) (E : XK), sp vs H Q E → ∃ t, PSs X (defBody st) t ∧ t { nx := fun _ H' => Q .non H', rt := Q } (L2.start N vs) H) : Fn P w K mg base (k + 1) x ps sp := by
  refine D.fn S.fs hb len fun f cdv A outer s H vs Q E hr h => ?_
  exact hbody _ S.cx rfl rfl rfl rfl rfl rfl rfl rfl hr hr.units H vs Q E h
end
section
variable {X : Cx} {N W G : List Str}
theorem vv (S : Sc X N W G) (i : Nat) {x : Str} {pos : Pos} (h : N[i]? = some x := by rfl) : PE X (.Name x pos) (tVar i) :=
  have q := S.vis x (List.mem_of_getElem? h)
  pe_var (by rw [S.eN]; exact h) q.1 q.2.1 q.2.2
theorem sv (S : Sc X N W G) (i : Nat) {x : Str} {pos pos' : Pos} {e : Expr} {te : TE} (he : PE X e te) (h : N[i]? = some x := by rfl) (hw : W[i]? = some x := by rfl) (hs : swapsWith e (some (.Name x pos')) pos.line X.env = pure false := by rfl) :
    PS X (.Assign [.Name x pos'] e pos) (tAsg te (gName i)) :=
  have q := S.sto x (List.mem_of_getElem? hw)
  ps_set (by rw [S.eN]; exact S.nd) (by rw [S.eN]; exact h) q.1 he hs q.2
theorem gv (S : Sc X N W G) (i : Nat) {x : Str} {pos : Pos} (h : N[i]? = some x := by rfl) (hw : W[i]? = some x := by rfl) : PG X (.Name x pos) (gName i) :=
  have q := S.sto x (List.mem_of_getElem? hw)
  pg_name (by rw [S.eN]; exact S.nd) (by rw [S.eN]; exact h) q.1 q.2
variable {k m : Nat} {x : Str} {ps : List Str} {sp : Sp} {p pos : Pos} {e o : Expr} {es : List Expr} {t : TA} {te to : TE} {id T : String} {r : List V → Hp → VK → Prop}
theorem ff (S : Sc X N W G) (g : Nat) (F : Fn X.prog X.w X.K X.mg X.base k x ps sp) (hr : Room m X.A) (ha : PB X (e :: es) t) (hk : k ≤ m := by decide) (hg : G[g]? = some x := by rfl) : PE X (.Call (.Name x p) (e :: es) [] pos) (tCall sp [] E0 t) :=
  have q := S.gl x (List.mem_of_getElem? hg)
  pe_fn F hr q.1 ha.pa hk q.2.1 (star_cons ha.he) (plain_of ha.hes)
theorem cb (S : Sc X N W G) (g : Nat) (hc : CallR X (.builtin id) r) (hm : X.mg x = none) (hv : bootBuiltins x = some (.builtin id)) (ha : PB X (e :: es) t) (hg : G[g]? = some x := by rfl) : PE X (.Call (.Name x p) (e :: es) [] pos) (tCB r t) :=
  have q := S.gl x (List.mem_of_getElem? hg)
  pe_callB hc q.1 hm hv ha.pa q.2.2 q.2.1 (star_cons ha.he) (plain_of ha.hes)
theorem ct (S : Sc X N W G) (g : Nat) (hc : CallR X (.type T) r) (hm : X.mg x = none) (hv : bootBuiltins x = some (.type T)) (ha : PB X (e :: es) t) (hg : G[g]? = some x := by rfl) : PE X (.Call (.Name x p) (e :: es) [] pos) (tCB r t) :=
  have q := S.gl x (List.mem_of_getElem? hg)
  pe_callTy hc q.1 hm hv ha.pa q.2.2 q.2.1 (star_cons ha.he) (plain_of ha.hes)
theorem tyv (S : Sc X N W G) (g : Nat) (hm : X.mg x = none) (hv : bootBuiltins x = some (.type T)) (hg : G[g]? = some x := by rfl) : PE X (.Name x pos) (tC (.ty T)) :=
  have q := S.gl x (List.mem_of_getElem? hg)
  pe_tyv q.1 hm hv q.2.2 q.2.1
theorem rg1 (S : Sc X N W G) (g : Nat) {tg : Expr} (hm : X.mg "range" = none) (ha : PB X [e] t) (hg : G[g]? = some "range" := by rfl) : PI X tg (.Call (.Name "range" p) [e] [] pos) (iRng1 t) :=
  pi_range1 (S.gl _ (List.mem_of_getElem? hg)).1 hm ha.pa (star_cons ha.he)
variable {name : Str} {apos cpos : Pos} {rm : V → List V → Hp → VK → Prop}
theorem mb (pa : PlainAttrs T) (slot : Slot T name id) (hty : typeOf (.builtin id) = pure (.type "method_descriptor")) (hm : MtR X id rm) (ho : PE X o to) (ha : PB X (e :: es) t)
    (hbase : attributeBase o name X.env (eval o X.env) = eval o X.env := by rfl) (hlen : decide ((e :: es).length < 30) = true := by rfl)
    (hline : (apos.endLine == cpos.line) = true := by rfl) : PE X (.Call (.Attribute o name apos) (e :: es) [] cpos) (tBM X.K T rm to t) :=
  pe_bm pa slot hty hm ho ha.pa hbase (by rw [plainA_of ha.ns]; exact hlen) hline (star_cons ha.he) (plain_of ha.hes)
end
def csB (osc : Scope) (oN N W G : List Str) (scope : Scope) (fv : List (Option Nat)) : Bool :=
  cscB osc oN N scope fv && decide N.Nodup && N.all (visB (rl scope osc)) && W.all (fun x => (rl scope osc).names.lookup x == some .local) && G.all (glB (rl scope osc))
section
variable {X : Cx} {elt target iter : Expr} {ifs : List Expr} {scope osc : Scope} {pos : Pos} {oN oW oG N W G : List Str} {fv : List (Option Nat)} {wi : TI} {g : TG} {tc : TT} {te : TE}
theorem sc_comp {cl : List (Str × Addr)} {C : Addr} {fp : List Addr} {s : Shared} {H : Hp} (h1 : X.env.scope = osc) (h : csB osc oN N W G scope fv = true) : Sc (cxC X N scope cl C fp s H) N W G := by
  unfold csB at h
  simp only [Bool.and_eq_true, List.all_eq_true, decide_eq_true_eq, beq_iff_eq] at h
  obtain ⟨⟨⟨⟨_, a2⟩, a3⟩, a4⟩, a5⟩ := h
  have e : (cxC X N scope cl C fp s H).env.scope = rl scope osc := by rw [← h1]; rfl
  exact ⟨rfl, a2, fun x hx => by rw [e]; exact visB_of (a3 x hx), fun x hx => by rw [e]; exact ⟨.inl (a4 x hx), .inr (a4 x hx)⟩, fun x hx => by unfold Gl Env.kindOf; rw [e]; exact glB_of (a5 x hx)⟩
theorem csB_csc (S : Sc X oN oW oG) (h1 : X.env.scope = osc) (h : csB osc oN N W G scope fv = true) : CSc X.env.scope X.N N scope fv := by
  unfold csB at h
  simp only [Bool.and_eq_true] at h
  exact csc_of h1 S.eN h.1.1.1.1
theorem lcE (S : Sc X oN oW oG) (hc : X.calm = true) (h1 : X.env.scope = osc) (hi : PI X target iter wi) (h : csB osc oN N W G scope fv = true)
    (hB : ∀ cl C fp s H, Sc (cxC X N scope cl C fp s H) N W G → PG (cxC X N scope cl C fp s H) target g ∧ PIf (cxC X N scope cl C fp s H) ifs tc ∧ PE (cxC X N scope cl C fp s H) elt te)
    (hs : ∀ x, foldedSetIterable iter X.env x = pure x := by intro _; rfl) : PE X (.ListComp elt [⟨target, iter, ifs, 0⟩] scope pos) (tLC wi g tc te fv) :=
  pe_lc hc hi (csB_csc S h1 h) (fun cl C fp s H => hB cl C fp s H (sc_comp h1 h)) hs
end
section
variable {X : Cx} {K : PySem.W.Frag} {e o : Expr} {es : List Expr} {te to tl : TE} {t : TA} {pos apos cpos : Pos} {tg l : Expr} {name : Str} {T id : String} {rm : V → List V → Hp → VK → Prop}
theorem never' (h : X.xe = fun _ _ => False) : PassesOwn (model X.prog X.w) X.A X.env X.xe := by rw [h]; exact PassesOwn.never
theorem ix_listK (h : X.K = K) : IxR X (rIxL K) := by subst h; exact ix_list
theorem sl_listK (h : X.K = K) : SlR X (rSlL K) := by subst h; exact sl_list
theorem op_notInK (h : X.K = K) : OpR X (compareOp .NotIn) (rIn K true) := by subst h; exact op_notIn_seq
def rLen (K : PySem.W.Frag) : List V → Hp → VK → Prop := fun xs H Q => ∃ p ys, xs = [.ref p] ∧ (SqL K H p ys ∨ SqT K H p ys) ∧ Q (.int ys.length) H
theorem call_lenK (h : X.K = K) : CallR X (.builtin "len") (rLen K) := by subst h; exact call_len_seq
def rTupOf (K : PySem.W.Frag) : List V → Hp → VK → Prop := fun xs H Q => ∃ p ys, xs = [.ref p] ∧ ((SqL K H p ys ∧ ∀ l, H l = none → Q (.ref l) (upd H l (.tup ys))) ∨ (SqT K H p ys ∧ Q (.ref p) H))
theorem call_tupK (h : X.K = K) : CallR X (.type "tuple") (rTupOf K) := by subst h; exact call_tuple_of
def rEqD (K : PySem.W.Frag) : R2 := fun x y H Q => ∃ d d', Dt K H x d ∧ Dt K H y d' ∧ PySem.SeqAt.shaped d = true ∧ PySem.SeqAt.shaped d' = true ∧ Q (.bl (PyData.eqv d d')) H
def rNeD (K : PySem.W.Frag) : R2 := fun x y H Q => ∃ d d', Dt K H x d ∧ Dt K H y d' ∧ PySem.SeqAt.shaped d = true ∧ PySem.SeqAt.shaped d' = true ∧ Q (.bl (!PyData.eqv d d')) H
theorem op_eqK (hu : X.A.units + 64 < cLine) (h : X.K = K) : OpR X (compareOp .Eq) (rEqD K) := by subst h; exact op_eqD hu
theorem op_neK (hu : X.A.units + 64 < cLine) (h : X.K = K) : OpR X (compareOp .NotEq) (rNeD K) := by subst h; exact op_neD hu
def rCatL (K : PySem.W.Frag) : R2 := fun x y H Q => ∃ l b xs zs, x = .ref l ∧ y = .ref b ∧ SqL K H l xs ∧ SqL K H b zs ∧ xs.length + zs.length ≤ sizeLine ∧ ∀ p, H p = none → Q (.ref p) (upd H p (.lst (xs ++ zs)))
theorem op_catLK (h : X.K = K) : OpR X (binaryOp .Add) (rCatL K) := by subst h; exact op_catL
def rIsi : List V → Hp → VK → Prop := fun xs H Q => ∃ x T n b, xs = [x, .ty T] ∧ tyName x H = some n ∧ subT n T = some b ∧ Q (.bl b) H
theorem call_isiK : CallR X (.builtin "isinstance") rIsi := call_isi
theorem pi_listK (hl : PE X l tl) (h : X.K = K) : PI X tg l (iList K tl) := by subst h; exact pi_list hl
theorem mbK (pa : PlainAttrs T) (slot : Slot T name id) (hty : typeOf (.builtin id) = pure (.type "method_descriptor")) (hm : MtR X id rm) (h : X.K = K) (ho : PE X o to) (ha : PB X (e :: es) t)
    (hbase : attributeBase o name X.env (eval o X.env) = eval o X.env := by rfl) (hlen : decide ((e :: es).length < 30) = true := by rfl)
    (hline : (apos.endLine == cpos.line) = true := by rfl) : PE X (.Call (.Attribute o name apos) (e :: es) [] cpos) (tBM K T rm to t) := by subst h; exact mb pa slot hty hm ho ha hbase hlen hline
end
def intsE : List Expr → Option (List Int)
  | [] => some []
  | .Constant (.int i) _ _ :: r => (intsE r).map (i :: ·)
  | _ => none
def tInts (ns : List Int) : TA := fun _ H Q => Q (ns.map V.int) H
theorem pb_ints {X : Cx} : ∀ {es : List Expr} {ns : List Int}, intsE es = some ns → PB X es (tInts ns)
  | [], ns, h => by cases h; exact pb_nil
  | e :: es, ns, h => by
    unfold intsE at h
    split at h
    · rename_i h1; cases h1
    · rename_i i k p r h1
      cases h1
      obtain ⟨ms, h2, rfl⟩ := Option.map_eq_some_iff.mp h
      exact pb_cons pe_int (pb_ints h2)
    · cases h
def strsE : List Expr → Option (List Str)
  | [] => some []
  | .Constant (.str i) _ _ :: r => (strsE r).map (i :: ·)
  | _ => none
def tStrs (ns : List Str) : TA := fun _ H Q => Q (ns.map V.str) H
theorem pb_strs {X : Cx} : ∀ {es : List Expr} {ns : List Str}, strsE es = some ns → PB X es (tStrs ns)
  | [], ns, h => by cases h; exact pb_nil
  | e :: es, ns, h => by
    unfold strsE at h
    split at h
    · rename_i h1; cases h1
    · rename_i i k p r h1
      cases h1
      obtain ⟨ms, h2, rfl⟩ := Option.map_eq_some_iff.mp h
      exact pb_cons pe_str (pb_strs h2)
    · cases h
theorem q_ints {ns : List Int} {σ : St} {H : Hp} {Q : List V → Hp → Prop} : tInts ns σ H Q = Q (ns.map V.int) H := rfl
theorem q_strs {ns : List Str} {σ : St} {H : Hp} {Q : List V → Hp → Prop} : tStrs ns σ H Q = Q (ns.map V.str) H := rfl
end L2
namespace L2
open PySem PySem.Spec PyProof.Rows
structure QE (X : Cx) (e : Expr) (t : TE) : Prop where
  h : PE X e t
structure QT (X : Cx) (e : Expr) (t : TT) : Prop where
  h : PT X e t
structure QW (X : Cx) (e : Expr) (t : TT) : Prop where
  h : PW X e t
structure QB (X : Cx) (es : List Expr) (t : TA) : Prop where
  h : PB X es t
structure QS (X : Cx) (st : Stmt) (t : TS) : Prop where
  h : PS X st t
structure QSs (X : Cx) (st : List Stmt) (t : TS) : Prop where
  h : PSs X st t
structure QG (X : Cx) (e : Expr) (t : TG) : Prop where
  h : PG X e t
structure QGs (X : Cx) (e : List Expr) (t : TGs) : Prop where
  h : PGs X e t
structure QI (X : Cx) (tg iter : Expr) (wi : TI) : Prop where
  h : PI X tg iter wi
structure QIf (X : Cx) (ifs : List Expr) (t : TT) : Prop where
  h : PIf X ifs t
structure QO (X : Cx) (e : Option Expr) (t : TO) : Prop where
  h : PO X e t
section
variable {X : Cx} {N W G : List Str} {K : PySem.W.Frag} {a b c e o : Expr} {es rest : List Expr} {ta tb tc te to : TE} {tA tB' : TT} {t : TA} {u v : TS} {pos pos' p apos cpos : Pos} {k m : Nat} {x : Str} {ps : List Str} {sp : Sp} {id T : String} {r : List V → Hp → VK → Prop} {st : Stmt} {sts : List Stmt} {tg iter : Expr} {wi : TI} {g : TG} {name : Str} {rm : V → List V → Hp → VK → Prop}
theorem kv (S : Sc X N W G) (i : Nat) (h : N[i]? = some x := by rfl) : QE X (.Name x pos) (tVar i) := ⟨vv S i h⟩
theorem kint {i : Int} {j : Nat} : QE X (.Constant (.int i) j pos) (tC (.int i)) := ⟨pe_int⟩
theorem kbl {i : Bool} {j : Nat} : QE X (.Constant (.bool i) j pos) (tC (.bl i)) := ⟨pe_bl⟩
theorem knon {j : Nat} : QE X (.Constant .none j pos) (tC .non) := ⟨pe_non⟩
theorem kstr {i : Str} {j : Nat} : QE X (.Constant (.str i) j pos) (tC (.str i)) := ⟨pe_str⟩
theorem kop {op : Operator} {r : R2} (ho : OpR X (binaryOp op) r) (ha : QE X a ta) (hb : QE X b tb) : QE X (.BinOp a op b pos) (tOp r ta tb) := ⟨pe_op ho ha.h hb.h⟩
theorem kdivc {n : Int} (ha : QE X a ta) (h : 0 < n ∧ n < 1073741824 := by decide) : QE X (.BinOp a .FloorDiv (.Constant (.int n) k pos') pos) (tI (fun i => .int (i / n)) ta) := ⟨pe_divc ha.h h⟩
theorem kmodc {n : Int} (ha : QE X a ta) (h : 0 < n := by decide) : QE X (.BinOp a .Mod (.Constant (.int n) k pos') pos) (tI (fun i => .int (i % n)) ta) := ⟨pe_modc ha.h h⟩
theorem kmulc {n : Int} (ha : QE X a ta) (h : -(2 ^ 64) < n ∧ n < 2 ^ 64 := by decide) : QE X (.BinOp a .Mult (.Constant (.int n) k pos') pos) (tI (fun i => .int (i * n)) ta) := ⟨pe_mulc ha.h h⟩
theorem kcmul {n : Int} (ha : QE X a ta) (h : -(2 ^ 64) < n ∧ n < 2 ^ 64 := by decide) : QE X (.BinOp (.Constant (.int n) k pos') .Mult a pos) (tI (fun i => .int (n * i)) ta) := ⟨pe_cmul ha.h h⟩
theorem kun {op : UnaryOp} {r : V → Hp → VK → Prop} (ho : UnR X (unaryOp op) r) (ha : QE X a ta) : QE X (.UnaryOp op a pos) (tUn r ta) := ⟨pe_un ho ha.h⟩
theorem knot (ha : QE X a ta) : QE X (.UnaryOp .Not a pos) (tNotV ta) := ⟨pe_not ha.h⟩
theorem kcmp {op : CmpOp} {r : R2} (ho : OpR X (compareOp op) r) (ha : QE X a ta) (hb : QE X b tb) (hm : behindInMarks op b = false) : QE X (.Compare a [op] [b] pos) (tOp r ta tb) := ⟨pe_cmpR ho ha.h hb.h hm⟩
theorem kchain {op op' : CmpOp} {r r' : R2} (ho : OpR X (compareOp op) r) (ho' : OpR X (compareOp op') r') (ha : QE X a ta) (hb : QE X b tb) (hc : QE X c tc)
    (hm : lastMarks [op, op'] [b, c] = false := by with_unfolding_all rfl) : QE X (.Compare a [op, op'] [b, c] pos) (tChain r r' ta tb tc) := ⟨pe_chain ho ho' ha.h hb.h hc.h hm⟩
theorem kone {op} (h : QE X a ta) : QE X (.BoolOp op [a] pos) ta := ⟨pe_one h.h⟩
theorem kand (ha : QE X a ta) (hb : QE X (.BoolOp .And (b :: rest) pos) tb) : QE X (.BoolOp .And (a :: b :: rest) pos) (tAndV ta tb) := ⟨pe_and ha.h hb.h⟩
theorem kb_nil : QB X [] tNil := ⟨pb_nil⟩
theorem kb_cons (ha : QE X e te) (hr : QB X es t) (hn : nst e = true := by rfl) : QB X (e :: es) (tCons te t) := ⟨pb_cons ha.h hr.h hn⟩
theorem kb_ints {ns : List Int} (h : intsE es = some ns) : QB X es (tInts ns) := ⟨pb_ints h⟩
theorem kb_strs {ns : List Str} (h : strsE es = some ns) : QB X es (tStrs ns) := ⟨pb_strs h⟩
theorem ktp {x1} (h : QB X es t) : QE X (.Tuple es x1 pos) (tTup t) := ⟨pe_tp h.h⟩
theorem kls (h : QB X es t) : QE X (.List es pos) (tLst t) := ⟨pe_ls h.h⟩
theorem kix {r : R2} (hr : IxR X r) (ha : QE X a ta) (hb : QE X b tb) (hs : PlainIx b) : QE X (.Subscript a b pos) (tOp r ta tb) := ⟨pe_ix hr ha.h hb.h hs⟩
theorem ko_none : QO X none tNoPart := ⟨po_none⟩
theorem ko_some (h : QE X e te) : QO X (some e) (tPart te) := ⟨po_some h.h⟩
theorem ksl {lo hi : Option Expr} {tl th : TO} {p2 : Pos} {r : V → Option Int → Option Int → Hp → VK → Prop} (hr : SlR X r) (he : QE X e te) (hl : QO X lo tl) (hu : QO X hi th) : QE X (.Subscript e (.Slice lo hi none p2) pos) (tSl r te tl th) := ⟨pe_slice hr he.h hl.h hu.h⟩
theorem kff (S : Sc X N W G) (g : Nat) (F : Fn X.prog X.w X.K X.mg X.base k x ps sp) (hr : Room m X.A) (ha : QB X (e :: es) t) (hk : k ≤ m := by decide) (hg : G[g]? = some x := by rfl) : QE X (.Call (.Name x p) (e :: es) [] pos) (tCall sp [] E0 t) := ⟨ff S g F hr ha.h hk hg⟩
theorem kcb (S : Sc X N W G) (g : Nat) (hc : CallR X (.builtin id) r) (hm : X.mg x = none) (hv : bootBuiltins x = some (.builtin id)) (ha : QB X (e :: es) t) (hg : G[g]? = some x := by rfl) : QE X (.Call (.Name x p) (e :: es) [] pos) (tCB r t) := ⟨cb S g hc hm hv ha.h hg⟩
theorem kct (S : Sc X N W G) (g : Nat) (hc : CallR X (.type T) r) (hm : X.mg x = none) (hv : bootBuiltins x = some (.type T)) (ha : QB X (e :: es) t) (hg : G[g]? = some x := by rfl) : QE X (.Call (.Name x p) (e :: es) [] pos) (tCB r t) := ⟨ct S g hc hm hv ha.h hg⟩
theorem kty (S : Sc X N W G) (g : Nat) (hm : X.mg x = none) (hv : bootBuiltins x = some (.type T)) (hg : G[g]? = some x := by rfl) : QE X (.Name x pos) (tC (.ty T)) := ⟨tyv S g hm hv hg⟩
theorem kmb (pa : PlainAttrs T) (slot : Slot T name id) (hty : typeOf (.builtin id) = pure (.type "method_descriptor")) (hm : MtR X id rm) (h : X.K = K) (ho : QE X o to) (ha : QB X (e :: es) t)
    (hbase : attributeBase o name X.env (eval o X.env) = eval o X.env := by rfl) (hlen : decide ((e :: es).length < 30) = true := by rfl)
    (hline : (apos.endLine == cpos.line) = true := by rfl) : QE X (.Call (.Attribute o name apos) (e :: es) [] cpos) (tBM K T rm to t) := ⟨mbK pa slot hty hm h ho.h ha.h hbase hlen hline⟩
theorem tcmp {op : CmpOp} {r : R2} (ho : OpR X (compareOp op) r) (ha : QE X a ta) (hb : QE X b tb) (hm : behindInMarks op b = false) : QT X (.Compare a [op] [b] pos) (tTest (tOp r ta tb)) := ⟨pt_cmpR ho ha.h hb.h hm⟩
theorem tchain {op op' : CmpOp} {r r' : R2} (ho : OpR X (compareOp op) r) (ho' : OpR X (compareOp op') r') (ha : QE X a ta) (hb : QE X b tb) (hc : QE X c tc)
    (hm : lastMarks [op, op'] [b, c] = false := by with_unfolding_all rfl) : QT X (.Compare a [op, op'] [b, c] pos) (tTest (tChain r r' ta tb tc)) := ⟨pt_chain ho ho' ha.h hb.h hc.h hm⟩
theorem wand1 (ha : QT X a tA) : QW X (.BoolOp .And [a] pos) tA := ⟨pw_and1 ha.h⟩
theorem wor1 (ha : QT X a tA) : QW X (.BoolOp .Or [a] pos) tA := ⟨pw_or1 ha.h⟩
theorem wand (ha : QT X a tA) (hb : QW X (.BoolOp .And (b :: rest) pos) tB') : QW X (.BoolOp .And (a :: b :: rest) pos) (tAnd tA tB') := ⟨pw_and ha.h hb.h⟩
theorem wor (ha : QT X a tA) (hb : QW X (.BoolOp .Or (b :: rest) pos) tB') : QW X (.BoolOp .Or (a :: b :: rest) pos) (tOr tA tB') := ⟨pw_or ha.h hb.h⟩
theorem wpt (h : QW X a tA) : QT X a tA := ⟨h.h.pt⟩
theorem tnot (ha : QT X a tA) : QT X (.UnaryOp .Not a pos) (tNot tA) := ⟨pt_not ha.h⟩
theorem tval (h : QE X e te) (he : ∀ whole, isTrue e X.env whole = (do let v ← whole; standAt e.pos; holding [v] (truthy v)) := by intro _; rfl) : QT X e (tB te) := ⟨pt_val h.h he⟩
theorem kg (S : Sc X N W G) (i : Nat) (h : N[i]? = some x := by rfl) (hw : W[i]? = some x := by rfl) : QG X (.Name x pos) (gName i) := ⟨gv S i h hw⟩
theorem gs_nil : QGs X [] gNil := ⟨pgs_nil⟩
theorem gs_cons {tgs : TGs} (h1 : QG X e g) (h2 : QGs X es tgs) (hs : (assignEach (e :: es) X.env).map (·.2) = assign e X.env :: (assignEach es X.env).map (·.2) := by rfl) : QGs X (e :: es) (gCons g tgs) := ⟨pgs_cons h1.h h2.h hs⟩
theorem gtup {kk : Nat} {tgs : TGs} {n : Nat} (hc : X.calm = true) (hK : X.K = K) (h : QGs X es tgs) (hn : (assignEach es X.env).length = n := by rfl) (hst : (assignEach es X.env).findIdx? (·.1) = none := by rfl) : QG X (.Tuple es kk pos) (gTup K n tgs) := ⟨by subst hK; exact pg_tup hc h.h hn hst⟩
theorem irg1 (S : Sc X N W G) (g : Nat) (hm : X.mg "range" = none) (ha : QB X [e] t) (hg : G[g]? = some "range" := by rfl) : QI X tg (.Call (.Name "range" p) [e] [] pos) (iRng1 t) := ⟨rg1 S g hm ha.h hg⟩
theorem ilistK (hl : QE X e te) (h : X.K = K) : QI X tg e (iList K te) := ⟨pi_listK hl.h h⟩
theorem if_nil : QIf X [] tTrue := ⟨pif_nil⟩
theorem if_one (h : QT X e tA) : QIf X [e] tA := ⟨pif_one h.h⟩
theorem ssv (S : Sc X N W G) (i : Nat) (he : QE X e te) (h : N[i]? = some x := by rfl) (hw : W[i]? = some x := by rfl) (hs : swapsWith e (some (.Name x pos')) pos.line X.env = pure false := by rfl) :
    QS X (.Assign [.Name x pos'] e pos) (tAsg te (gName i)) := ⟨sv S i he.h h hw hs⟩
theorem sasg (he : QE X e te) (hg : QG X tg g) (hs : swapsWithSole [tg] e pos.line X.env = pure false := by rfl) (hw : swappedStores [tg] e X.env = pure none := by rfl)
    (h1 : (assignEach [tg] X.env).map (·.2) = [assign tg X.env] := by rfl) : QS X (.Assign [tg] e pos) (tAsg te g) := ⟨ps_asg he.h hg.h hs hw h1⟩
theorem sret (he : QE X e te) : QS X (.Return (some e) pos) (tRet te) := ⟨ps_ret he.h⟩
theorem sexpr (he : QE X e te) (hs : swapsWith e none pos.line X.env = pure false := by rfl) : QS X (.Expr e pos) (tDrop te) := ⟨ps_expr he.h hs⟩
theorem sif {l l' : List Stmt} (hc : QT X c tA) (ha : QSs X l u) (hb : QSs X l' v) : QS X (.If c l l' pos) (tIfS tA u v) := ⟨ps_if hc.h ha.h hb.h⟩
theorem sfor (hxe : X.xe = fun _ _ => False) (hc : X.calm = true) (hi : QI X tg iter wi) (hg : QG X tg g) (hb : QSs X sts u) (hs : ∀ x, foldedSetIterable iter X.env x = pure x := by intro _; rfl) : QS X (.For tg iter sts [] pos) (tFor wi g u) := ⟨ps_for (never' hxe) hc hi.h hg.h hb.h hs⟩
theorem ss_nil : QSs X [] tNext := ⟨pss_nil⟩
theorem ss_cons (h1 : QS X st u) (h2 : QSs X sts v) : QSs X (st :: sts) (tSeq u v) := ⟨pss_cons h1.h h2.h⟩
theorem ss_one (h1 : QS X st u) : QSs X [st] u := ⟨pss_one h1.h⟩
theorem klc {elt target iter : Expr} {ifs : List Expr} {scope osc : Scope} {oN oW oG N W G : List Str} {fv : List (Option Nat)} (S : Sc X oN oW oG) (hc : X.calm = true) (h1 : X.env.scope = osc) (hi : QI X target iter wi) (h : csB osc oN N W G scope fv = true)
    (hB : ∀ cl C fp s H, Sc (cxC X N scope cl C fp s H) N W G → QG (cxC X N scope cl C fp s H) target g ∧ QIf (cxC X N scope cl C fp s H) ifs tA ∧ QE (cxC X N scope cl C fp s H) elt te)
    (hs : ∀ x, foldedSetIterable iter X.env x = pure x := by intro _; rfl) : QE X (.ListComp elt [⟨target, iter, ifs, 0⟩] scope pos) (tLC wi g tA te fv) :=
  ⟨lcE S hc h1 hi.h h (fun cl C fp s H S2 => ⟨(hB cl C fp s H S2).1.h, (hB cl C fp s H S2).2.1.h, (hB cl C fp s H S2).2.2.h⟩) hs⟩
end
section
variable {P : Program} {w : World} {K : PySem.W.Frag} {mg : Str → Option Value} {base : Heap} {k : Nat} {x : Str} {N ps G : List Str} {sp : Sp} {st : Stmt}
theorem Def.gq (D : Def K mg x st) (S : DS (defScope st) N ps G)
    (hb : ∀ (kV doc pm : Value) (an : Option Addr) (cdv ct : Value) (us : List Value), us.length = ps.length → bindArgs (PySem.W.fnOf x x (defArgs st) (defBody st) (defScope st) .none kV doc pm an cdv ct) ⟨us, []⟩ = pure (ps.zip us))
    (len : ∀ vs H Q E, sp vs H Q E → vs.length = ps.length)
    (hbody : ∀ (X : Cx), Sc X N N G → X.prog = P → X.w = w → X.K = K → X.mg = mg → X.base = base → X.calm = true → X.env.scope = defScope st → X.xe = (fun _ _ => False) → Room k X.A → X.A.units + 64 < cLine →
      ∀ (H : Hp) (vs : List V) (Q : VK) (E : XK), sp vs H Q E → ∃ t, QSs X (defBody st) t ∧ t { nx := fun _ H' => Q .non H', rt := Q } (L2.start N vs) H) : Fn P w K mg base (k + 1) x ps sp :=
  D.go S hb len fun X a b c d e f g h i j l H vs Q E q => by
    obtain ⟨t, z, y⟩ := hbody X a b c d e f g h i j l H vs Q E q
    exact ⟨t, z.h, y⟩
end
end L2
namespace KM
end KM
namespace KM
end KM
namespace KM
end KM
namespace L2
open PySem PySem.Spec PyProof.Rows
theorem q_iT {A B : Prop} [Decidable (true = true)] : (if true = true then A else B) = A := if_pos rfl
theorem q_ifT {A B : Prop} [Decidable True] : (if True then A else B) = A := if_pos trivial
theorem q_ifF {A B : Prop} [Decidable False] : (if False then A else B) = B := if_neg id
theorem q_dT [i : Decidable True] : @decide True i = true := by cases i with
  | isTrue _ => rfl
  | isFalse h => exact absurd trivial h
theorem q_upS {σ : St} : upS [] σ = [] := rfl
theorem q_upN {fv : List (Option Nat)} {σ : St} : upS (none :: fv) σ = none :: upS fv σ := rfl
def getO (σ : St) (i : Nat) : Option V := (σ[i]?).join
theorem q_upV {fv : List (Option Nat)} {i : Nat} {σ : St} : upS (some i :: fv) σ = getO σ i :: upS fv σ := rfl
theorem q_g0 {o : Option V} {σ : St} : getO (o :: σ) 0 = o := rfl
theorem q_gS {i : Nat} {o : Option V} {σ : St} : getO (o :: σ) (i + 1) = getO σ i := rfl
theorem to_isi {x : V} {H : Hp} {n T : String} {b : Bool} {Q : VK} (hn : tyName x H = some n) (hb : subT n T = some b) (q : Q (.bl b) H) : rIsi [x, .ty T] H Q := ⟨x, T, n, b, rfl, hn, hb, q⟩
theorem ty_tup {H : Hp} {p : Addr} {xs : List V} (h : H p = some (.tup xs)) : tyName (.ref p) H = some "tuple" := by unfold tyName; simp only [h]
theorem ty_lst {H : Hp} {p : Addr} {xs : List V} (h : H p = some (.lst xs)) : tyName (.ref p) H = some "list" := by unfold tyName; simp only [h]
theorem to_len {K : PySem.W.Frag} {H : Hp} {Q : VK} {p : Addr} {ys : List V} (h : SqL K H p ys ∨ SqT K H p ys) (q : Q (.int ys.length) H) : rLen K [.ref p] H Q := ⟨p, ys, rfl, h, q⟩
theorem atI_getD {α : Type} {xs : List α} {i : Int} {k : Nat} (e : i = (k : Int)) (d : α) (h1 : k < xs.length) : atI xs i = some (xs.getD k d) := by
  subst e
  rw [atI_nat (List.getElem?_eq_getElem h1), List.getD_eq_getElem?_getD, List.getElem?_eq_getElem h1]; rfl
theorem getD_ints {ns : List Int} {k : Nat} (h : k < ns.length) : (ns.map V.int).getD k .non = .int (ns.getD k 0) := by
  rw [List.getD_eq_getElem?_getD, List.getElem?_map, List.getElem?_eq_getElem h, List.getD_eq_getElem?_getD, List.getElem?_eq_getElem h]; rfl
theorem to_ixLk {K : PySem.W.Frag} {H : Hp} {Q : VK} {p : Addr} {ns : List Int} {i : Int} {k : Nat} (h : SqL K H p (ns.map V.int)) (e : i = (k : Int)) (h1 : k < ns.length) (q : Q (.int (ns.getD k 0)) H) : rIxL K (.ref p) (.int i) H Q :=
  ⟨p, _, i, _, rfl, rfl, h, atI_getD e .non (by rw [List.length_map]; exact h1), by rw [getD_ints h1]; exact q⟩
section
variable {K : PySem.W.Frag} {a : Addr} {ns : List Int} {g : TG} {tb : TS} {D : Ends} {σ : St} {H : Hp}
theorem forL (I : Nat → St → Hp → Prop) (h : SqL K H a (ns.map V.int)) (h0 : I 0 σ H) (hl : ∀ i σ H, I i σ H → SqL K H a (ns.map V.int))
    (step : ∀ i σ H, i < ns.length → I i σ H → g (.int (ns.getD i 0)) σ H fun σ2 H2 => tb { D with nx := I (i + 1), ct := I (i + 1), bk := D.nx } σ2 H2)
    (fin : ∀ σ H, I ns.length σ H → D.nx σ H) : ∃ b, V.ref a = .ref b ∧ (∃ xs, SqL K H b xs) ∧ rFor g tb D σ (Itl K b) H := by
  refine ⟨a, rfl, ⟨_, h⟩, for_list (xs := ns.map V.int) I h0 (fun i σ H _ p => hl i σ H p) (fun i x σ H e p => ?_) fun σ H p => fin σ H (by rw [List.length_map] at p; exact p)⟩
  have hi : i < ns.length := by have := (List.getElem?_eq_some_iff.mp e).1; rw [List.length_map] at this; exact this
  have e2 : x = .int (ns.getD i 0) := by
    rw [← getD_ints hi, List.getD_eq_getElem?_getD, e]; rfl
  rw [e2]
  exact step i σ H hi p
theorem forR {j : Int} (n : Nat) (I : Nat → St → Hp → Prop) (e : j = (n : Int)) (hn : n ≤ 1000000) (h0 : I 0 σ H)
    (step : ∀ i σ H, i < n → I i σ H → g (.int (i : Int)) σ H fun σ2 H2 => tb { D with nx := I (i + 1), ct := I (i + 1), bk := D.nx } σ2 H2)
    (fin : ∀ σ H, I n σ H → D.nx σ H) : ∃ k : Int, [V.int j] = [.int k] ∧ -(2 ^ 62) ≤ k ∧ k < 2 ^ 62 ∧ rFor g tb D σ (Itr 0 k.toNat) H := by
  subst e
  refine ⟨_, rfl, by omega, by omega, for_range (n := ((n : Nat) : Int).toNat) I h0 (fun i σ H hi p => ?_) fun σ H p => fin σ H (by rw [Int.toNat_natCast] at p; exact p)⟩
  rw [Int.toNat_natCast] at hi
  have := step i σ H hi p
  rw [← Int.zero_add ((i : Nat) : Int)] at this
  exact this
end
theorem lc1 {tc : TT} {te : TE} {rest : St} {Q : VK} {J : It} {H1 : Hp} {n : Nat} {item : Nat → V} (ok : ItOk J H1 n item) (keep : Nat → Bool) (val : Nat → V) (hn : n < sizeLine)
    (step : ∀ i H (A : V → Hp → Prop) (B : Hp → Prop), i < n → Same H1 H → (keep i = true → ∀ H', Same H H' → A (val i) H') → (keep i = false → ∀ H', Same H H' → B H') →
      tc (some (item i) :: rest) H fun b H3 => if b = true then te (some (item i) :: rest) H3 A else B H3)
    (fin : ∀ acc H, H1 acc = none → Same H1 H → H acc = some (.lst (((List.range n).filter keep).map val)) → Q (.ref acc) H) : rLC (gName 0) tc te (none :: rest) Q J H1 := by
  have hlen : ∀ i, i < n → (((List.range i).filter keep).map val).length < sizeLine := fun i hi => by
    have := List.length_filter_le keep (List.range i)
    rw [List.length_range] at this
    rw [List.length_map]; omega
  refine rLC_by ok (fun i => ((List.range i).filter keep).map val) (fun _ τ => ∃ y, τ = y :: rest) rfl ⟨_, rfl⟩ ?_ fin
  rintro i τ H acc hi ⟨y, rfl⟩ hacc hS hF
  show tc (some (item i) :: rest) H _
  refine step i H _ _ hi hS (fun hk H' hS' => ?_) fun hk H' hS' => ?_
  · refine lc_put hacc (hS' _ _ hF) (hS.trans hS') (hlen i hi) ?_ ⟨_, rfl⟩
    simp [List.range_succ, List.filter_append, List.map_append, hk]
  · refine ⟨⟨_, rfl⟩, hS.trans hS', ?_⟩
    rw [hS' _ _ hF]
    simp [List.range_succ, List.filter_append, List.map_append, hk]
theorem fil_all (n : Nat) : (List.range n).filter (fun _ => true) = List.range n := by simp
end L2
namespace L2
open PySem PySem.Spec PyProof.Rows
theorem Fun.gq {P : Program} {w : World} {K : PySem.W.Frag} {mg : Str → Option Value} {base : Heap} {k : Nat} {x : Str} {N ps G : List Str} {sp : Sp} {st : Stmt} {f : Addr} {fd : FuncData} (F : Fun K x x st f fd) (S : DS (defScope st) N ps G)
    (len : ∀ vs H Q E, sp vs H Q E → vs.length = ps.length)
    (hbody : ∀ (X : Cx), Sc X N N G → X.prog = P → X.w = w → X.K = K → X.mg = mg → X.base = base → X.calm = true → X.env.scope = defScope st → X.xe = (fun _ _ => False) → Room k X.A → X.A.units + 64 < cLine →
      ∀ (H : Hp) (vs : List V) (Q : VK) (E : XK), sp vs H Q E → ∃ t, QSs X (defBody st) t ∧ t { nx := fun _ H' => Q .non H', rt := Q } (L2.start N vs) H) : FnOk P w K mg base CX0 (k + 1) f fd ps sp :=
  F.ok S.fs len fun cdv A outer s H vs Q E hr h => by
    obtain ⟨t, z, y⟩ := hbody _ S.cx rfl rfl rfl rfl rfl rfl rfl rfl hr hr.units H vs Q E h
    exact ⟨t, z.h, y⟩
end L2
namespace L2
open PySem PySem.Spec PyProof.Rows
theorem cut_take {xs : List V} {k : Nat} (h : k ≤ xs.length) : cutV xs none (some (k : Int)) = xs.take k := by
  unfold cutV
  rw [HT.sIx_none, HT.sIx_nat, List.drop_zero, Nat.sub_zero, Nat.min_eq_left h]
theorem cut_drop {xs : List V} {k : Nat} (h : k ≤ xs.length) : cutV xs (some (k : Int)) none = xs.drop k := by
  unfold cutV
  rw [HT.sIx_none, HT.sIx_nat, Nat.min_eq_left h, List.take_of_length_le]
  rw [List.length_drop]; exact Nat.le_refl _
theorem cut_dropM {xs : List V} {k : Nat} : cutV xs (some (k : Int)) none = xs.drop k := by
  by_cases h : k ≤ xs.length
  · exact cut_drop h
  · unfold cutV
    rw [HT.sIx_none, HT.sIx_nat, Nat.min_eq_right (by omega), List.drop_eq_nil_of_le (Nat.le_refl _), List.drop_eq_nil_of_le (by omega), List.take_nil]
theorem cut_takeM {xs : List V} {k : Nat} : cutV xs none (some (k : Int)) = xs.take k := by
  by_cases h : k ≤ xs.length
  · exact cut_take h
  · unfold cutV
    rw [HT.sIx_none, HT.sIx_nat, List.drop_zero, Nat.sub_zero, Nat.min_eq_right (by omega), List.take_of_length_le (Nat.le_refl _), List.take_of_length_le (by omega)]
section
variable {K : PySem.W.Frag} {H : Hp} {Q : VK} {a : Addr} {ns : List Int} {i : Int}
theorem to_catL {b : Addr} {ms : List Int} (h : SqL K H a (ns.map V.int)) (h' : SqL K H b (ms.map V.int)) (hz : ns.length + ms.length ≤ sizeLine) (q : ∀ p, H p = none → Q (.ref p) (upd H p (.lst ((ns ++ ms).map V.int)))) : rCatL K (.ref a) (.ref b) H Q :=
  ⟨a, b, _, _, rfl, rfl, h, h', by rw [List.length_map, List.length_map]; exact hz, fun p hp => by rw [← List.map_append]; exact q p hp⟩
end
theorem small8 {n : Nat} (h : n ≤ 100) : n ≤ sizeLine := Nat.le_trans h (by decide)
end L2
namespace L2
open PySem PySem.Spec PyProof.Rows KM
def spLaw (K : PySem.W.Frag) : Sp := fun vs H Q _ => ∃ (a : Addr) (ns : List Int), vs = [.ref a] ∧ SqL K H a (ns.map V.int) ∧ ns.length ≤ 63 ∧ ∀ H', Q (.bl true) H'
def spAt (K : PySem.W.Frag) : Sp := fun vs H Q _ => ∃ (a : Addr) (ns : List Int) (k : Nat), vs = [.ref a, .int k] ∧ SqL K H a (ns.map V.int) ∧ ∀ r : Int, Q (.int r) H
end L2
namespace KM
end KM
namespace L2
open PySem PySem.Spec PyProof.Rows KM
section
variable {K : PySem.W.Frag} {H H' : Hp}
end
end L2
namespace KM
end KM
namespace L2
open PySem PySem.Spec PyProof.Rows KM
section
variable {X : Cx}
end
end L2
namespace L2
open PySem PySem.Spec PyProof.Rows KM
abbrev set0 (led : Bool) : Obj := { cls := .type "set", dict := none, data := .set #[] 0 (.fresh 0 0 led) }
section
variable {prog : Program} {w : World} {A : Around} {E : Value → Shared → Prop} {s : Shared}
end
end L2
namespace L2
open PySem PySem.Spec PyProof.Rows KM
section
variable {X : Cx}
end
end L2
namespace L2
open PySem PySem.Spec PyProof.Rows KM
section
variable {prog : Program} {w : World} {A : Around} {E : Value → Shared → Prop} {s : Shared}
end
end L2
namespace L2
open PySem PySem.Spec PyProof.Rows KM
section
variable {X : Cx} {N W G : List Str} {K : PySem.W.Frag} {e : Expr} {t : TA} {p pos tpos : Pos} {elts : List Expr} {x1 : Nat}
end
end L2
namespace L2
open PySem PySem.Spec PyProof.Rows KM
section
variable {X : Cx} {H : Hp} {Q : VK}
end
end L2
namespace KM
theorem and_sub_bit (m n j : Nat) : (m - (m &&& n)).testBit j = (m.testBit j && !n.testBit j) := by
  have h : m ^^^ (m &&& n) = m - (m &&& n) := by
    have e1 : ∀ a b : Nat, (a ^^^ b) + (a &&& b) = a ||| b := by
      intro a
      induction a using Nat.strongRecOn with
      | _ m ih =>
        intro n
        by_cases h0 : m = 0
        · subst h0; simp
        have ih' := ih (m / 2) (by omega) (n / 2)
        rw [← Nat.and_div_two, ← Nat.or_div_two, ← Nat.xor_div_two] at ih'
        have a := Nat.and_mod_two_pow (a := m) (b := n) (n := 1)
        have b := Nat.or_mod_two_pow (a := m) (b := n) (n := 1)
        have c := Nat.xor_mod_two_pow (a := m) (b := n) (n := 1)
        have key : (m % 2 ^ 1 ^^^ n % 2 ^ 1) + (m % 2 ^ 1 &&& n % 2 ^ 1) = (m % 2 ^ 1 ||| n % 2 ^ 1) := by
          have hm : m % 2 ^ 1 = 0 ∨ m % 2 ^ 1 = 1 := by omega
          have hn : n % 2 ^ 1 = 0 ∨ n % 2 ^ 1 = 1 := by omega
          rcases hm with hm | hm <;> rcases hn with hn | hn <;> rw [hm, hn] <;> decide
        rw [← a, ← b, ← c] at key
        omega
    have e2 := e1 m (m &&& n)
    have e3 : m &&& (m &&& n) = m &&& n := by rw [← Nat.and_assoc, Nat.and_self]
    have e4 : m ||| (m &&& n) = m := by
      apply Nat.eq_of_testBit_eq
      intro j
      rw [Nat.testBit_or, Nat.testBit_and]
      cases m.testBit j <;> rfl
    rw [e3, e4] at e2
    omega
  rw [← h, Nat.testBit_xor, Nat.testBit_and]
  cases m.testBit j <;> cases n.testBit j <;> rfl
theorem sub_zero {m a : Nat} (h : ∀ j, m.testBit j = true → a.testBit j = true) : m - (m &&& a) = 0 := by
  apply Nat.eq_of_testBit_eq
  intro j
  rw [and_sub_bit, Nat.zero_testBit]
  cases e : m.testBit j with
  | false => rfl
  | true => rw [h j e]; rfl
end KM
namespace L2
open PySem PySem.Spec PyProof.Rows KM
end L2
namespace L2
open PySem PySem.Spec PyProof.Rows KM
section
variable {prog : Program} {w : World} {A : Around} {E : Value → Shared → Prop} {s : Shared}
end
end L2
namespace L2
open PySem PySem.Spec PyProof.Rows KM
section
variable {prog : Program} {w : World} {A : Around} {E : Value → Shared → Prop} {s : Shared}
end
end L2
namespace L2
open PySem PySem.Spec PyProof.Rows KM
section
variable {X : Cx} {N W G : List Str} {K : PySem.W.Frag} {e f : Expr} {t : TA} {p pos tpos : Pos} {elts : List Expr} {x1 : Nat}
end
end L2
namespace L2
open PySem PySem.Spec PyProof.Rows KM
def rAll (K : PySem.W.Frag) : List V → Hp → VK → Prop := fun xs H Q => ∃ (p : Addr) (bs : List Bool), xs = [.ref p] ∧ SqL K H p (bs.map V.bl) ∧ Q (.bl (bs.all id)) H
theorem vals_bl : ∀ {bs : List Bool} {its : List Value}, Vals (bs.map V.bl) its → its = bs.map Value.bool
  | [], _, .nil => rfl
  | b :: r, _, .cons h t => by rw [vals_bl t, show _ = Value.bool b from h]; rfl
section
variable {X : Cx}
theorem call_allK {K : PySem.W.Frag} (hc : X.calm = true) (hK : X.K = K) : CallR X (.builtin "all") (rAll K) := by
  subst hK
  intro pins s σ H xs us Q I r h
  obtain ⟨p, bs, rfl, hq, q⟩ := h
  obtain ⟨u, rfl, rx⟩ := vals1 r
  cases rx
  obtain ⟨its, r', pl, hz⟩ := I.list hq
  have ei := vals_bl r'
  have hp : p < s.heap.objs.size := by obtain ⟨o, e, _⟩ := pl.isList; exact Heap.lt_size e
  refine PySem.call_all_walk (wpAny_pyIter_list pl.isList ?_)
  refine ⟨s.heap.objs.size, _, _, _, _, _, fun i => bs.getD i false, rfl, Walks.list (by simpa using I.ok.hd hc) s.heap.objs.size p (Nat.ne_of_lt hp) its.toArray, ⟨⟨_, Heap.get?_push_size _ rfl, rfl, rfl⟩, pl.isList.push _⟩, ?_, fun h' tk hk => ?_⟩
  · intro i v s' Q' E' hv hQ
    have hv : its[i]? = some v := by simpa using hv
    rw [ei, List.getElem?_map] at hv
    cases e : bs[i]? with
    | none => rw [e] at hv; cases hv
    | some b =>
      rw [e] at hv
      cases hv
      have hQ : Q' (bs.getD i false) s' := hQ
      rw [List.getD_eq_getElem?_getD, e] at hQ
      exact wpAny_truthy_bool hQ
  · have hl : its.toArray.size = bs.length := by rw [List.size_toArray, ei, List.length_map]
    have ea : (List.range its.toArray.size).all (fun i => bs.getD i false) = bs.all id := by
      rw [hl]
      apply Bool.eq_iff_iff.mpr
      simp only [List.all_eq_true, List.mem_range, id_eq]
      constructor
      · intro h b hb
        obtain ⟨k, hk, e⟩ := List.getElem_of_mem hb
        have := h k hk
        rw [List.getD_eq_getElem?_getD, List.getElem?_eq_getElem hk] at this
        rw [← e]; exact this
      · intro h k hk
        rw [List.getD_eq_getElem?_getD, List.getElem?_eq_getElem hk]
        exact h _ (List.getElem_mem hk)
    rw [ea]
    refine ⟨.bl _, H, I.kept fun b o e => hk b o ?_ (Heap.get?_push_of_some _ e), rfl, q⟩
    have := Heap.lt_size e
    intro z
    have : b = s.heap.objs.size := by simpa using z
    subst this
    exact Nat.lt_irrefl _ (Heap.lt_size e)
end
end L2
namespace KM
end KM
namespace L2
open PySem PySem.Spec PyProof.Rows KM
theorem to_ixL' {K : PySem.W.Frag} {H : Hp} {Q : VK} {p : Addr} {xs : List V} {i : Int} {v : V} (h : SqL K H p xs) (e : atI xs i = some v) (q : Q v H) : rIxL K (.ref p) (.int i) H Q := ⟨p, _, i, _, rfl, rfl, h, e, q⟩
end L2
namespace KM
end KM
namespace L2
open PySem PySem.Spec PyProof.Rows KM
end L2
namespace KM
end KM
namespace L2
open PySem PySem.Spec PyProof.Rows KM
section
variable {X : Cx} {N W G : List Str} {K : PySem.W.Frag} {e tg : Expr} {t : TA} {p pos : Pos}
end
end L2
namespace L2
open PySem PySem.Spec PyProof.Rows KM
end L2
namespace L2
open PySem PySem.Spec PyProof.Rows KM
theorem atI_at {us : List V} {i : Nat} {v : V} (h : us[i]? = some v) : atI us (i : Int) = some v := by
  have hl := (List.getElem?_eq_some_iff.mp h).1
  have := atI_getD (xs := us) (i := (i : Int)) (k := i) rfl .non hl
  rw [this, List.getD_eq_getElem?_getD, h]; rfl
end L2
namespace L2
open PySem PySem.Spec PyProof.Rows KM
section
variable {X : Cx} {K : PySem.W.Frag}
variable {e st : Expr} {te ts : TE} {pos p2 : Pos}
end
end L2
namespace KM
end KM
namespace L2
open PySem PySem.Spec PyProof.Rows KM
section
variable {prog : Program} {w : World} {A : Around} {E : Value → Shared → Prop} {s : Shared}
end
section
variable {X : Cx} {N W G : List Str} {e a b tg : Expr} {t : TA} {p pos : Pos}
end
end L2
namespace L2
open PySem PySem.Spec PyProof.Rows KM
section
variable {ex : Addr} {H H' : Hp}
end
end L2
namespace L2
open PySem PySem.Spec PyProof.Rows KM
section
variable {K : PySem.W.Frag} {H H' : Hp}
end
def bnd : Nat → Int
  | 0 => 1
  | n + 1 => bnd n * (bnd n + 1)
theorem bnd_pos : ∀ n, 1 ≤ bnd n
  | 0 => by decide
  | n + 1 => by
    have h := bnd_pos n
    have := Int.mul_le_mul h (show (1 : Int) ≤ bnd n + 1 by omega) (by decide) (by omega)
    rw [bnd]; omega
theorem bnd_step (n : Nat) : 2 * bnd n ≤ bnd (n + 1) ∧ bnd n + 1 ≤ bnd (n + 1) := by
  have h := bnd_pos n
  rw [bnd]
  have h1 := Int.mul_le_mul_of_nonneg_right (show (1 : Int) ≤ bnd n by omega) (show 0 ≤ bnd n + 1 by omega)
  have h2 := Int.mul_le_mul_of_nonneg_left (show (2 : Int) ≤ bnd n + 1 by omega) (show 0 ≤ bnd n by omega)
  omega
theorem bnd_mono {m n : Nat} (h : m ≤ n) : bnd m ≤ bnd n := by
  induction h with
  | refl => exact Int.le_refl _
  | step _ ih => exact Int.le_trans ih (Int.le_trans (by omega) (bnd_step _).2)
structure SpOk (cs : List Int) : Prop where
  lo : ∀ c ∈ cs, 1 ≤ c
  hi : ∀ c ∈ cs, c ≤ bnd (cs.length - 1)
  ne : 1 ≤ cs.length
theorem SpOk.split {cs : List Int} (h : SpOk cs) {x : Nat} (hx : x < cs.length) {a b : Int} (ha : 1 ≤ a ∧ a ≤ bnd cs.length) (hb : 1 ≤ b ∧ b ≤ bnd cs.length) : SpOk (cs.eraseIdx x ++ [a, b]) ∧ (cs.eraseIdx x ++ [a, b]).length = cs.length + 1 := by
  have hl : (cs.eraseIdx x ++ [a, b]).length = cs.length + 1 := by
    rw [List.length_append, List.length_eraseIdx, if_pos hx]
    show cs.length - 1 + 2 = _
    omega
  have hm : bnd (cs.length - 1) ≤ bnd cs.length := bnd_mono (by omega)
  have key : ∀ c ∈ cs.eraseIdx x ++ [a, b], 1 ≤ c ∧ c ≤ bnd cs.length := fun c hc => by
    rcases List.mem_append.mp hc with z | z
    · have z := List.mem_of_mem_eraseIdx z
      exact ⟨h.lo c z, Int.le_trans (h.hi c z) hm⟩
    · simp only [List.mem_cons, List.not_mem_nil, or_false] at z
      rcases z with rfl | rfl
      · exact ha
      · exact hb
  exact ⟨⟨fun c hc => (key c hc).1, fun c hc => by rw [hl]; exact (key c hc).2, by omega⟩, hl⟩
section
variable {prog : Program} {w : World} {A : Around} {E : Value → Shared → Prop} {s : Shared}
end
end L2
namespace L2
open PySem PySem.Spec PyProof.Rows KM
section
variable {prog : Program} {w : World} {A : Around} {E : Value → Shared → Prop} {s : Shared}
end
end L2
namespace KM
end KM
namespace KM
end KM
namespace L2
open PySem PySem.Spec PyProof.Rows KM
section
variable {prog : Program} {w : World} {A : Around} {E : Value → Shared → Prop} {s : Shared}
end
section
variable {prog : Program} {w : World} {A : Around} {R : Result → Shared → Prop} {I S : Addr} {fp wr : List Addr} {n : Nat} {P : Nat → Value → Prop} {St : Nat → Heap → Prop} {B : Heap → Prop} {bt : Nat → Nat → Bool}
end
section
variable {K : PySem.W.Frag} {H H' : Hp}
end
end L2
namespace L2
open PySem PySem.Spec PyProof.Rows KM
section
variable {prog : Program} {w : World} {A : Around} {E : Value → Shared → Prop} {s : Shared}
end
end L2
namespace L2
open PySem PySem.Spec PyProof.Rows KM
section
variable {X : Cx} {K : PySem.W.Frag}
variable {o e : Expr} {es : List Expr} {to : TE} {t : TA} {name : Str} {apos cpos : Pos} {id : String} {r : V → List V → Hp → VK → Prop}
end
section
variable {K : PySem.W.Frag} {H H' : Hp}
end
end L2
namespace L2
open PySem PySem.Spec PyProof.Rows KM
end L2
namespace L2
open PySem PySem.Spec PyProof.Rows KM
section
variable {X : Cx} {o i value : Expr} {pos pos' : Pos} {td ty tv : TE}
end
section
variable {σ : St} {H : Hp} {Q : VK} {D : Ends} {td ty tv : TE}
end
end L2
namespace L2
open PySem PySem.Spec PyProof.Rows KM
section
variable {prog : Program} {w : World} {A : Around} {E : Value → Shared → Prop} {s : Shared}
end
section
variable {X : Cx} {N W G : List Str} {K : PySem.W.Frag} {e f : Expr} {t : TA} {p pos tpos : Pos} {elts : List Expr} {x1 : Nat}
end
end L2
namespace L2
open PySem PySem.Spec PyProof.Rows KM
section
variable {K : PySem.W.Frag} {H H' : Hp}
end
end L2
namespace L2
open PySem PySem.Spec PyProof.Rows KM
end L2
namespace L2
open PySem PySem.Spec PyProof.Rows KM
end L2
namespace KM
end KM
namespace L2
open PySem PySem.Spec PyProof.Rows KM
section
variable {X : Cx} {N W G : List Str} {e a b tg : Expr} {t : TA} {p pos : Pos}
end
end L2
namespace KM
end KM
namespace L2
open PySem PySem.Spec PyProof.Rows KM
end L2
namespace KM
end KM
namespace L2
open PySem PySem.Spec PyProof.Rows KM
end L2
namespace L2
open PySem PySem.Spec PyProof.Rows KM
section
variable {prog : Program} {w : World} {A : Around} {E : Value → Shared → Prop} {s : Shared}
end
section
variable {X : Cx} {N W G : List Str} {K : PySem.W.Frag} {e : Expr} {t : TA} {p1 p2 pos pos2 : Pos}
end
end L2
namespace L2
open PySem PySem.Spec PyProof.Rows KM
theorem made_post {m : Made} {X : Cx} {pins : List (Addr × Obj)} {σ : St} {H : Hp} {Q : VK} {s : Shared} {z : Str} (I : Inv X pins σ H s) (hm : (∃ t, m = .val (.str z t)) ∨ m = .str z) (hz : z.length ≤ sizeLine) (q : Q (.str z) H) : m.post (EP X pins σ Q) s := by
  rcases hm with ⟨t, rfl⟩ | rfl
  · exact ⟨.str z, H, I, ⟨_, rfl⟩, q⟩
  · exact ⟨hz, .str z, H, I.tok _, ⟨_, rfl⟩, q⟩
def rSlS : V → Option Int → Option Int → Hp → VK → Prop := fun x l u H Q => ∃ z, x = .str z ∧ (StrLaws.sliceText z l u).length ≤ sizeLine ∧ Q (.str (StrLaws.sliceText z l u)) H
section
variable {X : Cx}
theorem sl_str : SlR X rSlS := by
  intro pins s σ H x v vl vu lo hi sl Q I rx hs pl pu h
  obtain ⟨z, rfl, hz, q⟩ := h
  obtain ⟨t, rfl⟩ := rx
  refine ⟨"str", _, slot_str_getitem.lookup, typeIs_str s z t, ?_⟩
  have part : ∀ {w : Value} {o : Option Int}, IsPart w o → ∃ p : Option (Int × Tok), w = partValue p ∧ p.map (·.1) = o := fun {w o} h => by
    cases h with
    | none => exact ⟨none, rfl, rfl⟩
    | int => exact ⟨some (_, _), rfl, rfl⟩
  obtain ⟨l, rfl, hl⟩ := part pl
  obtain ⟨u, rfl, hu⟩ := part pu
  refine wpAny_getItem_str_slice (st := none) hs rfl ?_
  refine made_post I ?_ hz q
  have e : sliceMade z t l u none = if ((Builtin.Str.strSliceIndices lo hi 1 z.length).length == z.length) = true then Made.val (Value.str z t) else Made.str ⟨((Builtin.Str.strSliceIndices lo hi 1 z.length).filterMap (fun x => z.cps[x]?)).toArray⟩ := by
    unfold sliceMade slicePicked
    rw [hl, hu]
    rfl
  have e2 : StrLaws.sliceText z lo hi = if ((Builtin.Str.strSliceIndices lo hi 1 z.length).length == z.length) = true then z else ⟨((Builtin.Str.strSliceIndices lo hi 1 z.length).filterMap (fun x => z.cps[x]?)).toArray⟩ := by
    unfold StrLaws.sliceText
    rfl
  rw [e, e2]
  by_cases c : ((Builtin.Str.strSliceIndices lo hi 1 z.length).length == z.length) = true
  · rw [if_pos c, if_pos c]; exact .inl ⟨t, rfl⟩
  · rw [if_neg c, if_neg c]; exact .inr rfl
def Itx (z : Str) : It := ⟨fun i _ => i < z.cps.size, fun i H x H' => H' = H ∧ ∃ c, z.cps[i]? = some c ∧ x = .str ⟨#[c]⟩, fun i _ => z.cps.size ≤ i⟩
def iStr (te : TE) : TI := fun σ H R => te σ H fun x H1 => ∃ z, x = .str z ∧ R (Itx z) H1
end
theorem str_walks {P : Program} {w : World} {A : Around} (hA : A.handled = none) (I : Addr) (x : Str) (t : Tok) : Walks P w A I [I] [I] x.cps.size (SignAt x) fun i h => h.IsStrIter I (strIterType x) x t i := by
  unfold strIterType
  split
  · exact Walks.strAscii hA I x t
  · exact Walks.strWide hA I x t
theorem str_self {P : Program} {w : World} {A : Around} {E : Value → Shared → Prop} {s : Shared} {it : Addr} {x : Str} {t : Tok} {i : Nat} {Q : Value → Shared → Prop} (st : s.heap.IsStrIter it (strIterType x) x t i) (h : Q (.ref it) s) : wpAny (model P w) A (pyIter (.ref it)) Q E s := by
  unfold strIterType at st
  split at st
  · exact wpAny_pyIter_striter_ascii st h
  · exact wpAny_pyIter_striter_wide st h
theorem turn_str {P : Program} {w : World} {K : PySem.W.Frag} {tg : Expr} (z : Str) (t : Tok) (it : Addr) : Turn P w K tg (Itx z) [it] it (fun i h => i ≤ z.cps.size ∧ h.IsStrIter it (strIterType z) z t i) where
  mem := by simp
  obj := fun i h st b hb => by
    have e : b = it := by simpa using hb
    subst e
    obtain ⟨_, o, e, c, d⟩ := st
    exact ⟨o, e, fun v z => by rw [d] at z; cases z⟩
  keep := fun i h h' st k => by
    obtain ⟨a, o, e, c, d⟩ := st
    exact ⟨a, o, k it (by simp) o e, c, d⟩
  item := by
    intro X hP hw hK hc i pins s σ H E I hf st hg
    subst hP hw hK
    obtain ⟨f0, f1, f2, f3, f4, f5⟩ := hf it (by simp)
    refine (str_walks (I.ok.hd hc) it z t).item i s _ E hg st.2 fun v h' tk hv st' kp => ?_
    obtain ⟨c, u, hcs, rfl⟩ := hv
    have I1 : Inv X pins σ H { s with heap := h', toks := tk } := I.turned (t' := tk) (fun b o hb e => kp b o (by simpa using hb) e) f0 f1 f3 f4 f5
    have go : ∀ {Q : Unit → Shared → Prop}, Q () { s with heap := h', toks := tk } → wpAny (model X.prog X.w) X.A (letOwnedTupleGo tg (.ref it) (.str ⟨#[c]⟩ u)) Q E { s with heap := h', toks := tk } := fun hq => by
      unfold letOwnedTupleGo
      cases tg <;> exact wpAny_pure hq
    exact ⟨_, rfl, go ⟨.str ⟨#[c]⟩, H, I1, ⟨_, rfl⟩, ⟨rfl, c, hcs, rfl⟩, ⟨hg, st'⟩, fun b hb => (hf b hb).1⟩⟩
  done := by
    intro X hP hw hK hc i pins s σ H E I hf st hg
    subst hP hw hK
    obtain ⟨f0, f1, f2, f3, f4, f5⟩ := hf it (by simp)
    have e : i = z.cps.size := Nat.le_antisymm st.1 hg
    subst e
    exact (str_walks (I.ok.hd hc) it z t).done s _ E st.2 fun h' tk kp => ⟨rfl, I.turned (t' := tk) (fun b o hb e => kp b o (by simpa using hb) e) f0 f1 f3 f4 f5⟩
  self := fun A i s Q E st h => str_self st.2 h
section
variable {X : Cx} {e tg : Expr} {te : TE}
theorem pi_strT (he : PE X e te) : PI X tg e (iStr te) := by
  intro pins s σ H R I h
  refine thn (he pins s σ H _ I h) fun v s1 ⟨x, H1, I1, r1, q1⟩ => ?_
  obtain ⟨z, rfl, q⟩ := q1
  obtain ⟨t, rfl⟩ := r1
  refine wpAny_pyIter_strU ?_
  refine ⟨s1.heap.objs.size, [s1.heap.objs.size], _, _, H1, rfl, I1.kept (t' := s1.toks) fun b o e => Heap.get?_push_of_some _ e, turn_str z t _, ⟨Nat.zero_le _, _, Heap.get?_push_size _ rfl, rfl, rfl⟩, fun b hb => ?_, q⟩
  have e : b = s1.heap.objs.size := by simpa using hb
  subst e
  exact I1.fpOk (Nat.le_refl _) (I1.hok.fresh (Nat.le_refl _))
theorem istrK {K : PySem.W.Frag} (he : QE X e te) (hK : X.K = K) : QI X tg e (iStr te) := ⟨pi_strT he.h⟩
theorem q_iStr {σ : St} {H : Hp} {R : It → Hp → Prop} : iStr te σ H R = te σ H fun x H1 => ∃ z, x = .str z ∧ R (Itx z) H1 := rfl
theorem itok_str {z : Str} {H1 : Hp} : ItOk (Itx z) H1 z.cps.size fun i => .str ⟨#[(z.cps[i]?).getD 0]⟩ where
  go := fun i H _ hi => hi
  stop := fun i H _ hi => hi
  yld := fun i H x H' _ _ y => by
    obtain ⟨rfl, c, e, rfl⟩ := y
    exact ⟨rfl, by rw [e]; rfl⟩
def rSplit : V → List V → Hp → VK → Prop := fun x vs H Q => ∃ z y, x = .str z ∧ vs = [.str y] ∧ y.length ≠ 0 ∧ z.length + 2 ≤ sizeLine ∧ (Txt.split z y).length ≤ sizeLine ∧ ∀ l, H l = none → Q (.ref l) (upd H l (.lst ((Txt.split z y).map V.str)))
theorem vals_strs : ∀ (k : Nat) (l : List Str), Vals (l.map V.str) (strsFrom k l)
  | _, [] => .nil
  | k, x :: r => .cons ⟨_, rfl⟩ (vals_strs _ r)
theorem mt_str_split : MtR X "str.split" rSplit := by
  intro pins s σ H x vs v us Q I rx rv h
  obtain ⟨z, y, rfl, rfl, hy, hz, hl, q⟩ := h
  obtain ⟨t, rfl⟩ := rx
  obtain ⟨u, rfl, t', rfl⟩ := vals1 rv
  have hy0 : (y.length == 0) = false := by simpa using hy
  have one : Txt.split z y = [z] → EP X pins σ Q (.ref s.heap.objs.size) { s with heap := s.heap.push { cls := .type "list", data := .seq #[.str z t] } } := fun e => by
    rw [e] at q
    exact ⟨.ref _, _, I.laid (t' := s.toks) (fun b o eb => Heap.get?_push_of_some _ eb) (Nat.le_refl _) (show ObjOk X.prog X.w _ _ _ (.lst [V.str z]) from ⟨by show 1 ≤ sizeLine; decide, [.str z t], 0, .cons (show RelV (.str z) _ from ⟨t, rfl⟩) .nil, Heap.get?_push_size _ rfl⟩), rfl, q _ (I.hok.fresh (Nat.le_refl _))⟩
  by_cases c1 : (decide (z.length < y.length) || decide (Builtin.Str.strKind z < Builtin.Str.strKind y)) = true
  · refine call_meets F.slot_str_split (typeIs_str s z t) F.entry_str_split (F.args_str_split_2 _ _) (meets_str_split_cannot_occur z y t t' c1) ?_
    exact one (by unfold Txt.split; rw [if_pos c1])
  · have c1' : (decide (z.length < y.length) || decide (Builtin.Str.strKind z < Builtin.Str.strKind y)) = false := by simpa using c1
    by_cases c2 : (Builtin.Str.occurrences z y 0 z.length (z.length + 1)).isEmpty = true
    · refine call_meets F.slot_str_split (typeIs_str s z t) F.entry_str_split (F.args_str_split_2 _ _) (meets_str_split_not_found z y t t' c1' hy0 c2) ?_
      exact one (by unfold Txt.split; rw [if_neg c1, if_pos c2])
    · have c2' : (Builtin.Str.occurrences z y 0 z.length (z.length + 1)).isEmpty = false := by simpa using c2
      have e : Txt.split z y = Builtin.Str.partsBetween z (Builtin.Str.occurrences z y 0 z.length (z.length + 1)) y.length := by unfold Txt.split; rw [if_neg c1, if_neg c2]
      refine call_meets F.slot_str_split (typeIs_str s z t) F.entry_str_split (F.args_str_split_2 _ _) (meets_str_split_sep z y t t' c1' hy0 c2' (by omega) (by rw [← e]; exact hl)) ?_
      rw [← e]
      exact ⟨.ref _, _, I.laid (fun b o eb => Heap.get?_push_of_some _ eb) (Nat.le_refl _) (show ObjOk X.prog X.w _ _ _ (.lst _) from ⟨by rw [List.length_map]; exact hl, _, 0, vals_strs _ _, Heap.get?_push_size _ rfl⟩), rfl, q _ (I.hok.fresh (Nat.le_refl _))⟩
def rJoin (K : PySem.W.Frag) : V → List V → Hp → VK → Prop := fun x vs H Q => ∃ y p l, x = .str y ∧ vs = [.ref p] ∧ SqL K H p (l.map V.str) ∧ (l.map fun z => z.length + y.length).sum ≤ sizeLine ∧ (y.join l).length ≤ sizeLine ∧ Q (.str (y.join l)) H
theorem strs_vals : ∀ {l : List Str} {us : List Value}, Vals (l.map V.str) us → ∃ m : List (Str × Tok), us = strValues m ∧ m.map (·.1) = l
  | [], _, .nil => ⟨[], rfl, rfl⟩
  | x :: r, _, .cons ⟨t, rfl⟩ h => by
    obtain ⟨m, rfl, e⟩ := strs_vals h
    exact ⟨(x, t) :: m, rfl, by rw [List.map_cons, e]⟩
theorem foldl_sum (k : Nat) : ∀ (l : List Str) (a : Nat), l.foldl (fun x1 x2 => x1 + x2.length + k) a = a + (l.map fun z => z.length + k).sum
  | [], a => by simp
  | x :: r, a => by rw [List.foldl_cons, foldl_sum k r, List.map_cons, List.sum_cons]; omega
theorem mt_str_join {K : PySem.W.Frag} (hK : X.K = K) : MtR X "str.join" (rJoin K) := by
  subst hK
  intro pins s σ H x vs v us Q I rx rv h
  obtain ⟨y, p, l, rfl, rfl, hp, hz, hj, q⟩ := h
  obtain ⟨t, rfl⟩ := rx
  obtain ⟨u, rfl, ru⟩ := vals1 rv
  cases ru
  obtain ⟨its, r, pl, hzz⟩ := I.list hp
  obtain ⟨m, rfl, em⟩ := strs_vals r
  refine call_meets F.slot_str_join (typeIs_str s y t) F.entry_str_join (F.args_str_join_2 _ _) (meets_str_join_list y t p m ?_) ⟨pl.isList, ?_⟩
  · rw [em, ← Array.foldl_toList, foldl_sum, Nat.zero_add, show l.toArray.toList = l from rfl]
    unfold Builtin.Str.tooLong
    exact decide_eq_false (by omega)
  · refine made_post I (z := y.join l) ?_ hj q
    unfold joinMade
    match m, em with
    | [], em => exact .inr (by
        show Made.str (Builtin.Str.glued y []) = _
        rw [StrLaws.glued_eq_join, ← em]; rfl)
    | [a], em => exact .inl ⟨a.2, by rw [← em]; rfl⟩
    | a :: b :: c, em => exact .inr (by
        show Made.str (Builtin.Str.glued y ((a :: b :: c).map (·.1))) = _
        rw [StrLaws.glued_eq_join, ← em])
def rIntS : List V → Hp → VK → Prop := fun xs H Q => ∃ x n, xs = [.str x] ∧ intText? x = some n ∧ x.length ≤ 640 ∧ Q (.int n) H
theorem call_int_str : CallR X (.type "int") rIntS := by
  intro pins s σ H xs us Q I r h
  obtain ⟨x, n, rfl, hx, hz, q⟩ := h
  obtain ⟨u, rfl, t, rfl⟩ := vals1 r
  exact PySem.W.KIN.call_text hx hz ⟨.int n, H, I.tok _, ⟨_, rfl⟩, q⟩
end
end L2
namespace L2
open PySem PySem.Spec PyProof.Rows KM
def runS (val : Nat → Str) : Nat → Nat → (Str → Bool) → Nat → (Str → Bool) × Nat
  | 0, _, F, m => (F, m)
  | k + 1, i, F, m => runS val k (i + 1) (fun x => F x || decide (x = val i)) (if F (val i) = true then m else m + 1)
section
variable {prog : Program} {w : World} {A : Around} {R : Result → Shared → Prop} {I : Addr} {fp wr : List Addr} {G : Array GenState → Array GenState → Prop} {n : Nat} {P : Nat → Value → Prop} {St : Nat → Shared → Prop}
theorem set_loop_str (Wk : WalksS prog w A.in1 I fp wr G n P St) (S : Addr) (hS : S ∉ fp) (val : Nat → Str) (hv : ∀ i v, P i v → ∃ t, v = .str (val i) t) (hn : n + 1 < scanBound) :
    ∀ (k i : Nat) (s : Shared) (Fm : Str → Bool) (m : Nat), n - i = k → i ≤ n → m ≤ i → St i s → s.heap.SetOf (PySem.strKind prog w) S Fm m →
      (∀ s', Moved (S :: wr) G s s' → s'.heap.SetOf (PySem.strKind prog w) S (runS val k i Fm m).1 (runS val k i Fm m).2 → R (.ok (.ret .none)) s') →
      codeAny (model prog w) A (.builtin "set.update.loop" ⟨[.ref S, .ref I], []⟩) R s := by
  intro k
  induction k with
  | zero =>
    intro i s Fm m hk hi hm st hs h
    have e : i = n := by omega
    subst e
    refine codeAny_builtin F.entry_set_update_loop ?_
    rw [Around.under_plainId F.plain_set_update_loop _]
    show wpAny _ A.in1 (pyNext (.ref I) >>= _) _ _ s
    refine wpAny_bind (Wk.done s _ _ st fun s' mv => ?_)
    refine wpAny_pure ?_
    refine h s' (mv.mono fun b hb => List.mem_cons_of_mem _ hb) ?_
    obtain ⟨o, es, ep, t, ho, r⟩ := hs
    exact ⟨o, es, ep, t, mv.heap S o (fun z => hS (Wk.sub S z)) ho, r⟩
  | succ k ih =>
    intro i s Fm m hk hi hm st hs h
    refine codeAny_builtin F.entry_set_update_loop ?_
    rw [Around.under_plainId F.plain_set_update_loop _]
    show wpAny _ A.in1 (pyNext (.ref I) >>= _) _ _ s
    refine wpAny_bind (Wk.item i s _ _ (by omega) st fun v s1 hP st1 mv1 => ?_)
    obtain ⟨t, rfl⟩ := hv i v hP
    have hs1 : s1.heap.SetOf (PySem.strKind prog w) S Fm m := by
      obtain ⟨o, es, ep, t, ho, r⟩ := hs
      exact ⟨o, es, ep, t, mv1.heap S o (fun z => hS (Wk.sub S z)) ho, r⟩
    have his : (PySem.strKind prog w).is (val i) (.str (val i) t) = true := by
      show Value.isStrOf (val i) (.str (val i) t) = true
      simp [Value.isStrOf]
    show wpAny _ A.in1 (holding [.str (val i) t] (setAdd S (.str (val i) t)) >>= _) _ _ s1
    refine wpAny_bind ?_
    show wpAny _ A.in1 (setAdd S (.str (val i) t)) _ _ s1
    unfold setAdd
    show wpAny _ A.in1 (pyHash (.str (val i) t) >>= fun x => setAddHashed S (.str (val i) t) x) _ _ s1
    refine wpAny_bind ((PySem.strKind prog w).pyHash his ?_)
    refine wpAny_setAddHashed_of (knd := PySem.strKind prog w) (s := { s1 with toks := s1.toks + 1 }) his rfl hs1 (by omega) fun h' sb hs2 => ?_
    refine wpAny_pure ⟨plainId_quiet F.plain_set_update_loop _, ?_⟩
    have mv2 : Moved (S :: wr) G s1 { s1 with heap := h', toks := s1.toks + 1 } := ⟨fun b o hb e => (sb.2 b (fun z => hb (by rw [z]; exact List.mem_cons_self))).trans e, Wk.grefl _, rfl, rfl, Nat.le_succ _⟩
    have st2 := Wk.frame (i + 1) s1 h' (s1.toks + 1) st1 (Nat.le_succ _) fun b hb o e => (sb.2 b (fun z => hS (by rw [← z]; exact hb))).trans e
    refine ih (i + 1) _ _ _ (by omega) (by omega) (by split <;> omega) st2 hs2 fun s' mv3 hs3 => ?_
    exact h s' (Moved.trans Wk.gtrans (Moved.trans Wk.gtrans (mv1.mono fun b hb => List.mem_cons_of_mem _ hb) mv2) mv3) hs3
end
section
variable {prog : Program} {w : World} {A : Around} {E : Value → Shared → Prop} {s : Shared}
theorem call_set_strs {p : Addr} {vs : Array Value} (val : Nat → Str) {Q : Value → Shared → Prop} (hA : A.handled = none) (hp : s.heap.IsList p vs) (vl : ∀ (i : Nat) (v : Value), vs[i]? = some v → ∃ t, v = .str (val i) t) (hb : vs.size + 1 < scanBound)
    (h : ∀ (h1 : Heap) (k : Nat), h1.SetOf (PySem.strKind prog w) s.heap.objs.size (runS val vs.size 0 (fun _ => false) 0).1 (runS val vs.size 0 (fun _ => false) 0).2 → (∀ b o, b < s.heap.objs.size → s.heap.get? b = some o → h1.get? b = some o) → Q (.ref s.heap.objs.size) { s with heap := h1, toks := k }) :
    wpAny (model prog w) A (call (.type "set") [.ref p]) Q E s := by
  obtain ⟨c0, t0, m0⟩ := F.called_set.mro
  have m1 := F.called_set.made
  have m2 := F.called_set.sub
  have m3 := F.called_set.notType
  have m4 := F.called_set.canCreate
  have m5 := F.typeCall_set_1 (.ref p)
  refine wpAny_call (codeAny_of_tree (show wpAny _ _ (callAny (.type "set") _) _ _ _ from wpAny_pure ⟨Code.quiet_builtin _ (by decide +kernel), codeAny_builtin F.entry_type_call ?_⟩))
  rw [Around.under_plain (weight_type_call_type "set" [.ref p] []) rfl]
  repeat (any_goals (first | assumption | wp_step))
  refine codeAny_mono (code_set_new_1 (.ref p) (E := E) (Q₁ := fun o s1 => ∃ led : Bool, o = .ref s.heap.objs.size ∧ s1 = { s with heap := s.heap.push (set0 led) }) fun led => ⟨led, rfl, rfl⟩) fun r s1 hr => ?_
  cases r with
  | error e => exact hr
  | ok fl =>
    cases fl with
    | ret obj =>
      obtain ⟨led, rfl, rfl⟩ := hr
      have k1 : (s.heap.push (set0 led)).get? s.heap.objs.size = some (set0 led) := Heap.get?_push_size _ rfl
      have k2 : Shared.TypeIs { s with heap := s.heap.push (set0 led) } (.ref s.heap.objs.size) "set" := ⟨_, k1, rfl⟩
      have k3 := F.called_set.init.lookup
      have k4 := F.called_set.init.bind (.ref s.heap.objs.size)
      repeat (any_goals (first | assumption | wp_step))
      refine codeAny_mono (codeAny_call_builtin (R := wants (fun r s2 => r = .none ∧ ∃ h1 k, s2 = { s with heap := h1, toks := k } ∧ h1.SetOf (PySem.strKind prog w) s.heap.objs.size (runS val vs.size 0 (fun _ => false) 0).1 (runS val vs.size 0 (fun _ => false) 0).2 ∧
          (∀ b o, b < s.heap.objs.size → s.heap.get? b = some o → h1.get? b = some o)) E) F.called_set.init.plain F.entry_set_init (check_set_init_1 k2 ?_)) fun r2 s2 h2 => ?_
      · obtain ⟨ot, e0, ec, nt, ed⟩ := hp
        obtain ⟨u1, u2, u3, u4⟩ := ot
        simp only at ec ed
        subst ec; subst ed
        have e1 := Heap.get?_push_of_some (set0 led) e0
        have z1 := F.sub_list_set
        have z2 := F.sub_list_frozenset
        have z3 : (Value.type "list" == Value.type "dict") = false := by decide
        have l1 : (s.heap.push (set0 led)).IsList p vs := ⟨_, e1, rfl, nt, rfl⟩
        unfold Builtin.«set.__init__» noKeywords Builtin.Frozenset.updateFrom
        generalize hPI : pyIter = PI
        wp_walk
        subst hPI
        refine wpAny_pyIter_list l1 (wpAny_bind (wpAny_runValue ?_))
        have pS : p < s.heap.objs.size := Heap.lt_size e0
        have a3 : A.in1.in1.in1.handled = none := by simp [hA]
        have zs : (s.heap.push (set0 led)).objs.size = s.heap.objs.size + 1 := Heap.size_push ..
        have n1 : p ≠ (s.heap.push (set0 led)).objs.size := by rw [zs]; exact Nat.ne_of_lt (Nat.lt_succ_of_lt pS)
        have n2 : s.heap.objs.size ∉ [(s.heap.push (set0 led)).objs.size, p] := by
          rw [zs]
          simp only [List.mem_cons, List.not_mem_nil, or_false, not_or]
          exact ⟨Nat.ne_of_lt (Nat.lt_succ_self _), Nat.ne_of_gt pS⟩
        refine set_loop_str ((Walks.list a3 _ p n1 vs).toS) s.heap.objs.size n2 val vl hb (vs.size - 0) 0 _ (fun _ => false) 0 (by omega) (Nat.zero_le _) (Nat.le_refl _) ⟨⟨_, Heap.get?_push_size _ rfl, rfl, rfl⟩, (l1.push _)⟩ ?x ?y
        case x =>
          exact SetOf_congr ((setObjOf_fresh (knd := PySem.strKind prog w) led).setOf (Heap.get?_push_of_some _ k1) (by unfold scanBound; omega)) (fun _ => rfl) rfl
        case y =>
          intro s' hm hS'
          obtain ⟨h1, g', d', tk', os'⟩ := s'
          obtain rfl : g' = s.gens := hm.gens
          obtain rfl : d' = s.drawn := hm.drawn
          obtain rfl : os' = s.os := hm.os
          show wpAny _ _ _ _ _ _
          refine wpAny_pure (show wpAny _ _ (ret Value.none) _ _ _ from wpAny_pure ⟨rfl, h1, tk', rfl, hS', fun b o hb e => ?_⟩)
          refine hm.heap b o ?_ (Heap.get?_push_of_some _ (Heap.get?_push_of_some _ e))
          rw [zs]
          simp only [List.mem_cons, List.not_mem_nil, or_false, not_or]
          exact ⟨Nat.ne_of_lt hb, Nat.ne_of_lt (Nat.lt_succ_of_lt hb)⟩
      · cases r2 with
        | error e => exact h2
        | ok f2 =>
          cases f2 with
          | ret r =>
            obtain ⟨rfl, h1, k, rfl, hS', hk'⟩ := h2
            repeat (any_goals (first | assumption | wp_step))
            exact h _ _ hS' hk'
          | _ => exact h2.elim
    | _ => exact hr.elim
end
end L2
namespace L2
open PySem PySem.Spec PyProof.Rows KM
def SetS (P : Program) (w : World) (a : Addr) (n : Nat) : HO := .ext fun h => ∃ Fm, h.SetOf (PySem.strKind P w) a Fm n
def cntS (l : List Str) : Nat := (runS (fun i => l.getD i ⟨#[]⟩) l.length 0 (fun _ => false) 0).2
theorem runS_spec (l : List Str) : ∀ (k i : Nat) (Fm : Str → Bool) (m : Nat), l.length - i = k → i ≤ l.length → (∀ x, Fm x = true ↔ x ∈ l.take i) → m ≤ i → (m = i ↔ (l.take i).Nodup) → (runS (fun i => l.getD i ⟨#[]⟩) k i Fm m).2 ≤ l.length ∧ ((runS (fun i => l.getD i ⟨#[]⟩) k i Fm m).2 = l.length ↔ l.Nodup) := by
  intro k
  induction k with
  | zero =>
    intro i Fm m hk hi hF hm hn
    have e : i = l.length := by omega
    subst e
    rw [List.take_length] at hn
    exact ⟨hm, hn⟩
  | succ k ih =>
    intro i Fm m hk hi hF hm hn
    have hlt : i < l.length := by omega
    have ht : l.take (i + 1) = l.take i ++ [l.getD i ⟨#[]⟩] := by rw [List.take_succ, List.getElem?_eq_getElem hlt, List.getD_eq_getElem?_getD, List.getElem?_eq_getElem hlt]; rfl
    refine ih (i + 1) _ _ (by omega) (by omega) (fun x => ?_) ?_ ?_
    · rw [ht, List.mem_append, List.mem_singleton, Bool.or_eq_true, hF x, decide_eq_true_eq]
    · split <;> omega
    · rw [ht, List.nodup_append]
      by_cases c : Fm (l.getD i ⟨#[]⟩) = true
      · rw [if_pos c]
        constructor
        · intro e; omega
        · intro h
          exact absurd rfl (h.2.2 _ ((hF _).mp c) _ (List.mem_singleton.mpr rfl))
      · rw [if_neg c]
        constructor
        · intro e
          refine ⟨hn.mp (by omega), by simp, fun a ha b hb => ?_⟩
          rw [List.mem_singleton.mp hb]
          intro z
          exact c ((hF _).mpr (by rw [← z]; exact ha))
        · intro h
          have := hn.mpr h.1
          omega
theorem cntS_le (l : List Str) : cntS l ≤ l.length ∧ (cntS l = l.length ↔ l.Nodup) :=
  runS_spec l l.length 0 (fun _ => false) 0 (by omega) (Nat.zero_le _) (fun x => by simp) (Nat.le_refl _) (by simp)
def rSetStr (K : PySem.W.Frag) : List V → Hp → VK → Prop := fun xs H Q => ∃ p l, xs = [.ref p] ∧ SqL K H p (l.map V.str) ∧ l.length < 1000 ∧ ∀ (P : Program) (w : World) a, H a = none → Q (.ref a) (upd H a (SetS P w a (cntS l)))
section
variable {X : Cx}
theorem call_setStrK {K : PySem.W.Frag} (hc : X.calm = true) (hK : X.K = K) : CallR X (.type "set") (rSetStr K) := by
  subst hK
  intro pins s σ H xs us Q I r h
  obtain ⟨p, l, rfl, hq, h6, q⟩ := h
  obtain ⟨u, rfl, rx⟩ := vals1 r
  cases rx
  obtain ⟨its, r', pl, hz⟩ := I.list hq
  obtain ⟨m, rfl, em⟩ := strs_vals r'
  have hml : m.length = l.length := by rw [← em, List.length_map]
  have hsz : (strValues m).toArray.size = l.length := by rw [List.size_toArray]; unfold strValues; rw [List.length_map, hml]
  have hbig : (1001 : Nat) < scanBound := by decide
  refine call_set_strs (vs := (strValues m).toArray) (fun i => l.getD i ⟨#[]⟩) (I.ok.hd hc) pl.isList (fun i v hv => ?_) (by rw [hsz]; omega) fun h1 k hS kp => ?_
  · rw [List.getElem?_toArray] at hv
    unfold strValues at hv
    rw [List.getElem?_map] at hv
    cases e : m[i]? with
    | none => rw [e] at hv; cases hv
    | some a =>
      rw [e] at hv
      cases hv
      refine ⟨a.2, ?_⟩
      rw [← em, List.getD_eq_getElem?_getD, List.getElem?_map, e]; rfl
  · rw [hsz] at hS
    refine ⟨.ref _, _, I.laid (fun b o e => kp b o (Heap.lt_size e) e) (Nat.le_refl _) (show ObjOk X.prog X.w _ h1 _ (SetS X.prog X.w _ (cntS l)) from ⟨⟨_, hS⟩, ?_, fun h1 h2 ⟨Fm, hs⟩ k => ?_⟩), rfl, q X.prog X.w _ I.fresh⟩
    · obtain ⟨o, es, ep, t, ho, _⟩ := hS
      exact ⟨o, ho⟩
    · obtain ⟨o, es, ep, t, ho, r⟩ := hs
      exact ⟨Fm, o, es, ep, t, k o ho, r⟩
def rLenSS : List V → Hp → VK → Prop := fun xs H Q => ∃ p n P w, xs = [.ref p] ∧ H p = some (SetS P w p n) ∧ Q (.int n) H
theorem call_lenSS : CallR X (.builtin "len") rLenSS := by
  intro pins s σ H xs us Q I r h
  obtain ⟨p, n, P, w, rfl, hp, q⟩ := h
  obtain ⟨u, rfl, rx⟩ := vals1 r
  cases rx
  obtain ⟨⟨Fm, o, es, ep, t, e0, ex, ed, _, _, hb, hf, hn⟩, _, _⟩ := I.hok p _ hp
  have hbig : scanBound < 2 ^ 62 := by decide
  refine PySem.call_len_set e0 ex ed hf (by omega) ⟨.int n, H, I.tok _, ⟨_, by rw [hn]⟩, q⟩
end
end L2
namespace L2
open PySem PySem.Spec PyProof.Rows KM
section
variable {X : Cx} {N W G : List Str} {x : Str} {pos : Pos}
theorem kglS (S : Sc X N W G) (g : Nat) {z : Str} (h : ∃ t, X.mg x = some (.str z t)) (hg : G[g]? = some x := by rfl) : QE X (.Name x pos) (tC (.str z)) := by
  obtain ⟨t, h⟩ := h
  have q := S.gl _ (List.mem_of_getElem? hg)
  exact ⟨pe_glob q.1 h ⟨t, rfl⟩ q.2.1⟩
theorem kglI (S : Sc X N W G) (g : Nat) {z : Int} (h : ∃ t, X.mg x = some (.int z t)) (hg : G[g]? = some x := by rfl) : QE X (.Name x pos) (tC (.int z)) := by
  obtain ⟨t, h⟩ := h
  have q := S.gl _ (List.mem_of_getElem? hg)
  exact ⟨pe_glob q.1 h ⟨t, rfl⟩ q.2.1⟩
end
structure FunD (K : PySem.W.Frag) (x qual : Str) (st : Stmt) (f : Addr) (fd : FuncData) (d : List Value) : Prop where
  ex : ∃ (oc : Value) (od : Option Addr) (T : Addr) (kV doc pm : Value) (an : Option Addr) (cdv ct : Value) (osl : Array (Option Value)) (o : Obj) (n : Nat),
    fd = PySem.W.fnOf x qual (defArgs st) (defBody st) (defScope st) (.ref T) kV doc pm an cdv ct ∧ K.lookup f = some ⟨oc, od, .func fd, osl⟩ ∧ PySem.W.codeIn K cdv qual = true ∧ K.lookup T = some o ∧ o.data = .seq d.toArray n
  kp : PySem.W.keepIn K (.ref f) = true
structure DefD (K : PySem.W.Frag) (mg : Str → Option Value) (x : Str) (st : Stmt) (i : Int) : Prop where
  ex : ∃ f fd t, FunD K x x st f fd [.int i t] ∧ mg x = some (.ref f)
theorem defd_mk {K : PySem.W.Frag} {h : Heap} {mg : Str → Option Value} {x : Str} {st : Stmt} {f T : Addr} {i : Int} {t : Tok} {o : Obj} {m : Nat} {oc : Value} {od an : Option Addr} {osl : Array (Option Value)} {kV doc pm cdv ct : Value} (X : K.In h) (G : h.Ns mainGlobals mg)
    (a : PySem.W.nsIn K mainGlobals x = some (some (.ref f))) (l : K.lookup f = some ⟨oc, od, .func (PySem.W.fnOf x x (defArgs st) (defBody st) (defScope st) (.ref T) kV doc pm an cdv ct), osl⟩)
    (c : PySem.W.codeIn K cdv x = true) (k : PySem.W.keepIn K (.ref f) = true) (lt : K.lookup T = some o) (ld : o.data = .seq #[.int i t] m) : DefD K mg x st i :=
  ⟨f, _, t, ⟨⟨oc, od, T, kV, doc, pm, an, cdv, ct, osl, o, m, rfl, l, c, lt, ld⟩, k⟩, PySem.W.mg_of X G a⟩
def g11 {α : Type} : List α → List α → List α
  | [a], [b] => [a, b]
  | _, _ => []
theorem g11_vals : ∀ {vs : List V} {us : List Value} {zs : List V} {ws : List Value}, Vals vs us → Vals zs ws → Vals (g11 vs zs) (g11 us ws)
  | _, _, _, _, .nil, _ => .nil
  | _, _, _, _, .cons _ (.cons _ _), .nil => .nil
  | _, _, _, _, .cons _ (.cons _ _), .cons _ .nil => .nil
  | _, _, _, _, .cons _ (.cons _ _), .cons _ (.cons _ _) => .nil
  | _, _, _, _, .cons _ .nil, .nil => .nil
  | _, _, _, _, .cons a .nil, .cons b .nil => .cons a (.cons b .nil)
  | _, _, _, _, .cons _ .nil, .cons _ (.cons _ _) => .nil
section
variable {P : Program} {w : World} {K : PySem.W.Frag} {mg : Str → Option Value} {base : Heap} {k : Nat} {x : Str} {N G : List Str} {p1 p2 : Str} {i : Int} {sp : Sp} {st : Stmt}
def bindD (x : Str) (st : Stmt) (p1 p2 : Str) : Prop := ∀ (T : Addr) (kV doc pm : Value) (an : Option Addr) (cdv ct u v : Value),
  (∃ k, bindArgs (PySem.W.fnOf x x (defArgs st) (defBody st) (defScope st) (.ref T) kV doc pm an cdv ct) ⟨[u], []⟩ = (seqItems? (.ref T) >>= k) ∧ ∀ d, k (some #[d]) = pure [(p1, u), (p2, d)]) ∧
  (∃ k, bindArgs (PySem.W.fnOf x x (defArgs st) (defBody st) (defScope st) (.ref T) kV doc pm an cdv ct) ⟨[u, v], []⟩ = (seqItems? (.ref T) >>= k) ∧ ∀ d, k (some #[d]) = pure [(p1, u), (p2, v)]) ∧
  (∃ k, bindArgs (PySem.W.fnOf x x (defArgs st) (defBody st) (defScope st) (.ref T) kV doc pm an cdv ct) ⟨[u], [(p2, v)]⟩ = (seqItems? (.ref T) >>= k) ∧ ∀ d, k (some #[d]) = pure [(p1, u), (p2, v)])
end
section
variable {X : Cx} {N W G : List Str} {k m : Nat} {x p1 p2 : Str} {i : Int} {sp : Sp} {p pos kpos : Pos} {e e2 : Expr} {t tk : TA}
end
end L2
namespace L2
open PySem PySem.Spec PyProof.Rows KM
abbrev cz (x : Str) : List Nat := x.cps.toList
theorem cz_append (a b : Str) : cz (a ++ b) = cz a ++ cz b := by show (a.cps ++ b.cps).toList = _; rw [Array.toList_append]
theorem cz_length (a : Str) : a.length = (cz a).length := by show a.cps.size = _; rw [Array.length_toList]
theorem cz_join2 (s x y : Str) (r : List Str) : cz (s.join (x :: y :: r)) = cz x ++ cz s ++ cz (s.join (y :: r)) := by
  show cz (x ++ s ++ s.join (y :: r)) = _
  rw [cz_append, cz_append]
theorem split_ne (x : Str) (c : Nat) : Txt.split x ⟨#[c]⟩ ≠ [] := by
  unfold Txt.split
  split
  · simp
  split
  · simp
  · unfold Builtin.Str.partsBetween
    cases Builtin.Str.occurrences x ⟨#[c]⟩ 0 x.length (x.length + 1) <;> simp
def letS : Str := "abcdefghijklmnopqrstuvwxyz"
def figS : Str := "0123456789"
def lowB (c : Nat) : Bool := decide (c ∈ cz letS)
def digB (c : Nat) : Bool := decide (c ∈ cz figS)
def nameB (x : Str) : Bool := decide (1 ≤ x.length ∧ x.length ≤ 12) && (cz x).all lowB
def countB (x : Str) : Bool := decide (1 ≤ x.length ∧ x.length ≤ 30) && (decide ((cz x).getD 0 0 ≠ 48) && (cz x).all digB)
def hatB (l : List Str) : Bool := decide (l.length = 3) && (decide (l.getD 0 ⟨#[]⟩ = "hat") && (nameB (l.getD 1 ⟨#[]⟩) && countB (l.getD 2 ⟨#[]⟩)))
def seesB (l : List Str) : Bool := decide (3 ≤ l.length) && (decide (l.getD 0 ⟨#[]⟩ = "sees") && (l.drop 1).all nameB)
theorem lowB_ne {c : Nat} (h : lowB c = true) : c ≠ 32 ∧ c ≠ 10 := by
  have h2 := of_decide_eq_true h
  have : ∀ c ∈ cz letS, c ≠ 32 ∧ c ≠ 10 := by decide +kernel
  exact this c h2
theorem digB_iff {c : Nat} : digB c = true ↔ 48 ≤ c ∧ c ≤ 57 := by
  unfold digB
  rw [decide_eq_true_iff, show cz figS = [48, 49, 50, 51, 52, 53, 54, 55, 56, 57] by decide +kernel]
  simp only [List.mem_cons, List.not_mem_nil, or_false]
  omega
theorem nameB_free {x : Str} (h : nameB x = true) : 32 ∉ cz x ∧ 10 ∉ cz x := by
  unfold nameB at h
  rw [Bool.and_eq_true, List.all_eq_true] at h
  exact ⟨fun z => (lowB_ne (h.2 _ z)).1 rfl, fun z => (lowB_ne (h.2 _ z)).2 rfl⟩
theorem countB_free {x : Str} (h : countB x = true) : 32 ∉ cz x ∧ 10 ∉ cz x := by
  unfold countB at h
  rw [Bool.and_eq_true, Bool.and_eq_true, List.all_eq_true] at h
  exact ⟨fun z => by have := digB_iff.mp (h.2.2 _ z); omega, fun z => by have := digB_iff.mp (h.2.2 _ z); omega⟩
theorem text_nat (n : Nat) : cz (Str.ofString (toString ((n : Nat) : Int))) = (Nat.toDigits 10 n).map Char.toNat := by
  show (Str.ofString (toString (Int.ofNat n))).cps.toList = _
  rw [text_ofNat n]
theorem digits_head : ∀ (n : Nat), 0 < n → ∃ c r, Nat.toDigits 10 n = c :: r ∧ c ≠ '0' := by
  intro n
  induction n using Nat.strongRecOn with
  | _ n ih =>
    intro h
    rw [Nat.toDigits_eq_if (by decide)]
    by_cases c : n < 10
    · rw [if_pos c]
      refine ⟨_, _, rfl, ?_⟩
      have : ∀ n, n < 10 → 0 < n → Nat.digitChar n ≠ '0' := by decide
      exact this n c h
    · rw [if_neg c]
      obtain ⟨d, r, e, hd⟩ := ih (n / 10) (by omega) (by omega)
      exact ⟨d, r ++ [Nat.digitChar (n % 10)], by rw [e]; rfl, hd⟩
theorem count_text {n : Nat} (h0 : 0 < n) (h30 : n < 10 ^ 30) : countB (Str.ofString (toString ((n : Nat) : Int))) = true ∧ intText? (Str.ofString (toString ((n : Nat) : Int))) = some (n : Int) := by
  have e := text_nat n
  have hd : ∀ c ∈ (Nat.toDigits 10 n).map Char.toNat, 48 ≤ c ∧ c ≤ 57 := fun c hc => by
    obtain ⟨d, hd, rfl⟩ := List.mem_map.mp hc
    have := Nat.isDigit_of_mem_toDigits (by decide) (by decide) hd
    simp only [Char.isDigit, Bool.and_eq_true, decide_eq_true_eq] at this
    exact this
  have hl : (Nat.toDigits 10 n).length ≤ 30 := (Nat.length_toDigits_le_iff (by decide) (by decide)).mpr h30
  have hp : 0 < (Nat.toDigits 10 n).length := Nat.length_toDigits_pos
  obtain ⟨c, r, ec, hc⟩ := digits_head n h0
  constructor
  · unfold countB
    rw [cz_length, e, List.length_map, decide_eq_true (show 1 ≤ (Nat.toDigits 10 n).length ∧ (Nat.toDigits 10 n).length ≤ 30 from ⟨hp, hl⟩), Bool.true_and, Bool.and_eq_true]
    refine ⟨decide_eq_true ?_, List.all_eq_true.mpr fun c hc => digB_iff.mpr (hd c hc)⟩
    rw [ec]
    show c.toNat ≠ 48
    intro z
    exact hc (Char.toNat_inj.mp z)
  · have e' : (Str.ofString (toString ((n : Nat) : Int))).cps.toList = (Nat.toDigits 10 n).map Char.toNat := e
    rw [intText_digits (by rw [e']; exact hd) (by rw [e', ec]; simp) (by rw [cz_length, e, List.length_map]; omega), e', PySem.W.KIN.val_back]
theorem blank_is : (Str.ofString " ") = ⟨#[32]⟩ := by decide +kernel
theorem join_part (c : Nat) : ∀ {l : List Str} {x : Str}, x ∈ l → x.length ≤ (Str.join ⟨#[c]⟩ l).length
  | [y], x, h => by rw [List.mem_singleton.mp h]; exact Nat.le_refl _
  | y :: z :: r, x, h => by
    have e : (Str.join ⟨#[c]⟩ (y :: z :: r)).length = y.length + 1 + (Str.join ⟨#[c]⟩ (z :: r)).length := by
      rw [cz_length, cz_join2, List.length_append, List.length_append, ← cz_length, ← cz_length]; rfl
    rcases List.mem_cons.mp h with rfl | h
    · omega
    · have := join_part c h
      omega
theorem split_part {z x : Str} (h : x ∈ Txt.split z ⟨#[32]⟩) : x.length ≤ z.length := by
  have := join_part 32 h
  rw [StrLaws.join_split] at this
  exact this
abbrev noS : Str := ⟨#[]⟩
def spIsName : Sp := fun vs H Q _ => ∃ z : Str, vs = [.str z] ∧ z.length ≤ 1000000 ∧ ∀ H', Same H H' → Q (.bl (nameB z)) H'
def spIsCount : Sp := fun vs H Q _ => ∃ z : Str, vs = [.str z] ∧ z.length ≤ 1000000 ∧ ∀ H', Same H H' → Q (.bl (countB z)) H'
structure Ws (K : PySem.W.Frag) (H : Hp) (p : Addr) (l : List Str) : Prop where
  sq : SqL K H p (l.map V.str)
  few : l.length ≤ 900
  short : ∀ x ∈ l, x.length ≤ 1000000
def spIsHat (K : PySem.W.Frag) : Sp := fun vs H Q _ => ∃ (p : Addr) (l : List Str), vs = [.ref p] ∧ Ws K H p l ∧ ∀ H', Same H H' → Q (.bl (hatB l)) H'
def spIsSees (K : PySem.W.Frag) : Sp := fun vs H Q _ => ∃ (p : Addr) (l : List Str), vs = [.ref p] ∧ Ws K H p l ∧ ∀ H', Same H H' → Q (.bl (seesB l)) H'
theorem small1M {n : Nat} (h : n ≤ 1000000) : n ≤ sizeLine := Nat.le_trans h (by decide)
theorem str_item {l : List Str} {k : Nat} (h : k < l.length) : (l.map V.str)[k]? = some (.str (l.getD k noS)) := by
  rw [List.getElem?_map, List.getElem?_eq_getElem h, List.getD_eq_getElem?_getD, List.getElem?_eq_getElem h]; rfl
theorem getD_memS {l : List Str} {k : Nat} (h : k < l.length) : l.getD k noS ∈ l := by
  rw [List.getD_eq_getElem?_getD, List.getElem?_eq_getElem h]; exact List.getElem_mem h
theorem all_signs (z : Str) (p : Nat → Bool) : ((List.range z.cps.size).map fun i => p ((z.cps[i]?).getD 0)).all id = (cz z).all p := by
  rw [List.all_map]
  have e : cz z = (List.range z.cps.size).map fun i => (z.cps[i]?).getD 0 := by
    apply List.ext_getElem?
    intro i
    by_cases hi : i < z.cps.size
    · rw [List.getElem?_map, List.getElem?_range hi, Array.getElem?_toList, Array.getElem?_eq_getElem hi]
      show some z.cps[i] = some ((z.cps[i]?).getD 0)
      rw [Array.getElem?_eq_getElem hi]; rfl
    · rw [List.getElem?_eq_none (by rw [Array.length_toList]; omega), List.getElem?_eq_none (by rw [List.length_map, List.length_range]; omega)]
  rw [e, List.all_map]
  rfl
theorem lc_signs {K : PySem.W.Frag} {z y : Str} {H : Hp} {Q : VK} (hz : z.length ≤ 1000000) (q : ∀ H', Same H H' → Q (.bl ((cz z).all fun c => decide (c ∈ cz y))) H') :
    rLC (gName 0) tTrue (tOp (fun x y H Q => ∃ i j, x = V.str i ∧ y = V.str j ∧ Q (V.bl !(Builtin.Str.occurrences j i 0 j.length 1).isEmpty) H) (tVar 0) (tC (.str y))) [none] (fun x H1 => rAll K [x] H1 Q) (Itx z) H := by
  refine lc1 itok_str (fun _ => true) (fun i => .bl (decide ((z.cps[i]?).getD 0 ∈ cz y))) (Nat.lt_of_le_of_lt hz (by decide)) ?_ ?_
  · intro i H1 A B hi hS hA _
    simp only [q_True, q_iT, q_ifT, q_Op, q_var0, q_C]
    refine ⟨_, _, rfl, rfl, ?_⟩
    rw [StrLaws.found_one]
    exact hA rfl _ (Same.refl _)
  · intro acc H1 hn s1 hacc
    rw [fil_all] at hacc
    refine ⟨acc, (List.range z.cps.size).map fun i => decide ((z.cps[i]?).getD 0 ∈ cz y), rfl, SqL.of (by rw [hacc, List.map_map]; rfl), ?_⟩
    rw [all_signs z fun c => decide (c ∈ cz y)]
    exact q H1 s1
end L2
namespace L2
open PySem PySem.Spec PyProof.Rows KM
theorem inV_strs (k : Str) (ns : List Str) : inV (.str k) (ns.map V.str) = decide (k ∈ ns) := by
  induction ns with
  | nil => simp [inV]
  | cons a r ih =>
    unfold inV at ih ⊢
    rw [List.map_cons, List.any_cons, ih]
    by_cases e : a = k
    · subst e; simp [eqV]
    · have : ¬ k = a := fun z => e z.symm
      simp [eqV, e, this]
theorem to_inS {K : PySem.W.Frag} {neg : Bool} {H : Hp} {Q : VK} {p : Addr} {k : Str} {a : List Str} (h : SqL K H p (a.map V.str) ∨ SqT K H p (a.map V.str)) (q : Q (.bl (if neg then !decide (k ∈ a) else decide (k ∈ a))) H) : rIn K neg (.str k) (.ref p) H Q := by
  refine ⟨p, _, rfl, h, rfl, ?_, ?_⟩
  · rw [List.all_map]; exact List.all_eq_true.mpr fun _ _ => rfl
  · rw [inV_strs]; exact q
def LowS (x : Str) : Prop := ∀ c ∈ cz x, lowB c = true
theorem LowS.append {a b : Str} (ha : LowS a) (hb : LowS b) : LowS (a ++ b) := fun c hc => by
  rw [cz_append] at hc
  rcases List.mem_append.mp hc with z | z
  · exact ha c z
  · exact hb c z
theorem len_append (a b : Str) : (a ++ b).length = a.length + b.length := by rw [cz_length, cz_append, List.length_append, ← cz_length, ← cz_length]
theorem name_of {x : Str} (h : LowS x) (h1 : 1 ≤ x.length) (h2 : x.length ≤ 12) : nameB x = true := by
  unfold nameB
  rw [decide_eq_true (show 1 ≤ x.length ∧ x.length ≤ 12 from ⟨h1, h2⟩), Bool.true_and]
  exact List.all_eq_true.mpr h
theorem low_of {x : Str} (h : nameB x = true) : LowS x ∧ 1 ≤ x.length ∧ x.length ≤ 12 := by
  unfold nameB at h
  rw [Bool.and_eq_true, List.all_eq_true] at h
  exact ⟨h.2, (of_decide_eq_true h.1).1, (of_decide_eq_true h.1).2⟩
theorem slice_to {x : Str} {k : Nat} (h : k ≤ x.length) : cz (StrLaws.sliceText x none (some (k : Int))) = (cz x).take k := by
  have h' : k ≤ x.cps.toList.length := by rw [cz_length] at h; exact h
  rw [StrLaws.sliceText_to ⟨by omega, by omega⟩]
  show List.take ((k : Int) - 0).toNat (List.drop 0 _) = _
  rw [List.drop_zero, show ((k : Int) - 0).toNat = k by omega]
theorem slice_from {x : Str} {k : Nat} (h : k ≤ x.length) : cz (StrLaws.sliceText x (some (k : Int)) none) = (cz x).drop k := by
  have h' : k ≤ x.cps.toList.length := by rw [cz_length] at h; exact h
  rw [StrLaws.sliceText_from ⟨by omega, by omega⟩]
  show List.take _ (List.drop ((k : Int)).toNat _) = _
  rw [Int.toNat_natCast, List.take_of_length_le (by rw [List.length_drop]; omega)]
theorem slice_back {x : Str} {k : Nat} (h0 : 1 ≤ k) (h : k ≤ x.length) : cz (StrLaws.sliceText x (some (-(k : Int))) none) = (cz x).drop ((cz x).length - k) := by
  have e := cz_length x
  rw [StrLaws.sliceText_from_neg (by omega) (by omega)]
  show List.take _ (List.drop (-(k : Int) + (x.length : Nat)).toNat _) = _
  rw [show (-(k : Int) + (x.length : Nat)).toNat = (cz x).length - k by omega, List.take_of_length_le (by rw [List.length_drop]; show (cz x).length - _ ≤ (((cz x).length : Int) - _).toNat; omega)]
theorem low_take {x y : Str} {k : Nat} (h : LowS x) (e : cz y = (cz x).take k) : LowS y := fun c hc => h c (List.mem_of_mem_take (by rw [← e]; exact hc))
theorem low_drop {x y : Str} {k : Nat} (h : LowS x) (e : cz y = (cz x).drop k) : LowS y := fun c hc => h c (List.mem_of_mem_drop (by rw [← e]; exact hc))
theorem low_one {c : Nat} {i : Nat} (h : (cz letS)[i]? = some c) : LowS ⟨#[c]⟩ := fun d hd => by
  have e : d = c := by simpa using hd
  subst e
  unfold lowB
  exact decide_eq_true (List.mem_of_getElem? h)
theorem letS_len : (cz letS).length = 26 := by decide +kernel
theorem let_at {i : Int} (h0 : 0 ≤ i) (h1 : i < 26) : ∃ c, atI (cz letS) i = some c ∧ LowS ⟨#[c]⟩ := by
  obtain ⟨n, rfl⟩ := Int.eq_ofNat_of_zero_le h0
  have hn : n < (cz letS).length := by rw [letS_len]; omega
  refine ⟨(cz letS).getD n 0, atI_getD rfl 0 hn, low_one (i := n) ?_⟩
  rw [List.getD_eq_getElem?_getD, List.getElem?_eq_getElem hn]; rfl
def spDrawsL : Sp := fun vs H Q _ => ∃ (cell : Int) (n : Nat), vs = [.int cell, .int n] ∧ n ≤ 100 ∧ ∀ (l : Addr) (ns : List Int) (H' : Hp), Same H H' → H l = none → H' l = some (.lst (ns.map V.int)) → ns.length = n → (∀ x ∈ ns, 0 ≤ x) → Q (.ref l) H'
def InvDw (H0 : Hp) (cell : Int) (n : Nat) (l : Addr) (k : Nat) (σ : St) (H : Hp) : Prop := ∃ (num : Int) (ns : List Int) (y : Option V), σ = [some (.int cell), some (.int n), some (.int num), some (.ref l), y] ∧ Same H0 H ∧ H l = some (.lst (ns.map V.int)) ∧ ns.length = k ∧ ∀ x ∈ ns, 0 ≤ x
def spFresh : Sp := fun vs H Q _ => ∃ (num : Int) (k : Nat), vs = [.int num, .int k] ∧ k ≤ 12 ∧ ∀ z : Str, z.length = k → LowS z → Q (.str z) H
def InvFr (H0 : Hp) (n : Nat) (k : Nat) (σ : St) (H : Hp) : Prop := ∃ (num : Int) (z : Str) (y : Option V), σ = [some (.int num), some (.int n), some (.str letS), some (.str z), y] ∧ H = H0 ∧ z.length = k ∧ LowS z
structure Nms (ns : List Str) (n : Nat) : Prop where
  few : ns.length ≤ n
  nd : ns.Nodup
  nm : ∀ x ∈ ns, nameB x = true
def spNames : Sp := fun vs H Q _ => ∃ (cell : Int) (n : Nat), vs = [.int cell, .int n] ∧ 1 ≤ n ∧ n ≤ 8 ∧ ∀ (l : Addr) (ns : List Str) (H' : Hp), Same H H' → H l = none → H' l = some (.lst (ns.map V.str)) → ns ≠ [] → Nms ns n → Q (.ref l) H'
def someS : List Str := ["hat", "sees", "put", "guess", "right", "ring", "order", "book", "sure", "share", "groups", "circle", "hats"]
theorem someS_ok : ∀ x ∈ someS, nameB x = true := by decide +kernel
def InvNm (H0 : Hp) (cell : Int) (n : Nat) (sm dr : Addr) (base : Str) (a : Nat) (l : Addr) (dn : List Int) (k : Nat) (σ : St) (H : Hp) : Prop := ∃ (ns : List Str) (y1 y2 y3 y4 : Option V), σ = [some (.int cell), some (.int n), some (.str letS), some (.ref sm), some (.ref dr), some (.str base), some (.int a), some (.ref l), y1, y2, y3, y4] ∧ Same H0 H ∧ H l = some (.lst (ns.map V.str)) ∧ H sm = some (.lst (someS.map V.str)) ∧ H dr = some (.lst (dn.map V.int)) ∧ Nms ns k ∧ (1 ≤ k → ns ≠ [])
def spCountL : Sp := fun vs H Q _ => ∃ (cell : Int) (k : Int), vs = [.int cell, .int k] ∧ ∀ (c : Nat) (H' : Hp), 0 < c → c < 10 ^ 30 → Same H H' → Q (.int (c : Int)) H'
end L2
namespace L2
open PySem PySem.Spec PyProof.Rows KM
theorem dt_strs {K : PySem.W.Frag} {H : Hp} : ∀ l : List Str, DtAll K H (l.map V.str) (l.map PyData.str)
  | [] => .nil
  | x :: r => .cons (.str x) (dt_strs r)
theorem depth_strs : ∀ l : List Str, PyData.depthAll (l.map PyData.str) ≤ 1
  | [] => by simp [PyData.depthAll]
  | x :: r => by
    have := depth_strs r
    simp only [List.map_cons, PyData.depthAll, PyData.depth]
    omega
theorem low_ok {x : Str} (h : LowS x) : PyData.strOk x = true := by
  show (x.cps.all fun x => decide (x < 1114112)) = true
  rw [← Array.all_toList, List.all_eq_true]
  intro c hc
  have h2 := of_decide_eq_true (h c hc)
  have : ∀ c ∈ cz letS, c < 1114112 := by decide +kernel
  exact decide_eq_true (this c h2)
theorem lay_strs : ∀ l : List Str, (∀ x ∈ l, LowS x) → PyData.canLayAll0 (l.map PyData.str) = true
  | [], _ => by simp [PyData.canLayAll0]
  | x :: r, h => by simp [PyData.canLayAll0, PyData.canLay0, lay_strs r fun x hx => h x (List.mem_cons_of_mem _ hx), low_ok (h x List.mem_cons_self)]
theorem eqvAll_strs : ∀ l : List Str, PyData.eqvAll (l.map PyData.str) (l.map PyData.str) = true
  | [] => by simp [PyData.eqvAll]
  | x :: r => by simp [PyData.eqvAll, PyData.eqv, eqvAll_strs r]
abbrev seesD (n : Str) (l : List Str) : PyData := .tuple [.str "sees", .str n, .tuple (l.map PyData.str)]
abbrev hatD (n : Str) (c : Int) : PyData := .tuple [.str "hat", .str n, .int c]
theorem shaped_of {d : PyData} (h1 : PyData.canLay0 d = true) (h2 : PyData.depth d ≤ 64) : PySem.SeqAt.shaped d = true := by
  show (PyData.canLay0 d && decide (PyData.depth d ≤ 64)) = true
  rw [h1, decide_eq_true h2]; rfl
theorem seesD_shaped {n : Str} {l : List Str} (hn : LowS n) (h : ∀ x ∈ l, LowS x) : PySem.SeqAt.shaped (seesD n l) = true := shaped_of
  (by simp [PyData.canLay0, PyData.canLayAll0, lay_strs l h, low_ok hn]; decide +kernel)
  (by have := depth_strs l; simp only [PyData.depth, PyData.depthAll]; omega)
theorem hatD_shaped {n : Str} {c : Int} (hn : LowS n) : PySem.SeqAt.shaped (hatD n c) = true := shaped_of
  (by simp [PyData.canLay0, PyData.canLayAll0, low_ok hn]; decide +kernel)
  (by simp [PyData.depth, PyData.depthAll])
theorem seesD_eqv (n : Str) (l : List Str) : PyData.eqv (seesD n l) (seesD n l) = true := by simp [PyData.eqv, PyData.eqvAll, eqvAll_strs l]
theorem hatD_eqv (n : Str) (c : Int) : PyData.eqv (hatD n c) (hatD n c) = true := by simp [PyData.eqv, PyData.eqvAll]
def SeesAt (H : Hp) (f : Addr) (n : Str) (l : List Str) : Prop := ∃ p, H f = some (.tup [.str "sees", .str n, .ref p]) ∧ H p = some (.tup (l.map V.str))
def HatAt (H : Hp) (f : Addr) (n : Str) (c : Int) : Prop := H f = some (.tup [.str "hat", .str n, .int c])
theorem SeesAt.dt {K : PySem.W.Frag} {H : Hp} {f : Addr} {n : Str} {l : List Str} (h : SeesAt H f n l) : Dt K H (.ref f) (seesD n l) := by
  obtain ⟨p, h1, h2⟩ := h
  exact .tup (SqT.of h1) (.cons (.str _) (.cons (.str _) (.cons (.tup (SqT.of h2) (dt_strs l)) .nil)))
theorem HatAt.dt {K : PySem.W.Frag} {H : Hp} {f : Addr} {n : Str} {c : Int} (h : HatAt H f n c) : Dt K H (.ref f) (hatD n c) :=
  .tup (SqT.of h) (.cons (.str _) (.cons (.str _) (.cons (.int _) .nil)))
theorem SeesAt.mono {H H' : Hp} {f : Addr} {n : Str} {l : List Str} (h : SeesAt H f n l) (s : Same H H') : SeesAt H' f n l := by
  obtain ⟨p, h1, h2⟩ := h
  exact ⟨p, s _ _ h1, s _ _ h2⟩
theorem HatAt.mono {H H' : Hp} {f : Addr} {n : Str} {c : Int} (h : HatAt H f n c) (s : Same H H') : HatAt H' f n c := s _ _ h
def Both (H : Hp) (f u : Addr) : Prop := (∃ n l, LowS n ∧ (∀ x ∈ l, LowS x) ∧ SeesAt H f n l ∧ SeesAt H u n l) ∨ (∃ n c, LowS n ∧ HatAt H f n c ∧ HatAt H u n c)
theorem join_len (c : Nat) : ∀ l : List Str, (Str.join ⟨#[c]⟩ l).length ≤ (l.map fun z => z.length + 1).sum
  | [] => by show (0 : Nat) ≤ _; omega
  | [x] => by show x.length ≤ (x.length + 1) + 0; omega
  | x :: y :: r => by
    have ih := join_len c (y :: r)
    have e : (Str.join ⟨#[c]⟩ (x :: y :: r)).length = x.length + 1 + (Str.join ⟨#[c]⟩ (y :: r)).length := by
      rw [cz_length, cz_join2, List.length_append, List.length_append, ← cz_length, ← cz_length]; rfl
    rw [e, List.map_cons, List.sum_cons]
    omega
theorem sum_le (b : Nat) : ∀ l : List Str, (∀ x ∈ l, x.length ≤ b) → (l.map fun z => z.length + 1).sum ≤ l.length * (b + 1)
  | [], _ => by simp
  | x :: r, h => by
    have ih := sum_le b r fun x hx => h x (List.mem_cons_of_mem _ hx)
    have := h x List.mem_cons_self
    rw [List.map_cons, List.sum_cons, List.length_cons, Nat.add_mul]
    omega
theorem count_len {x : Str} (h : countB x = true) : x.length ≤ 30 := by
  unfold countB at h
  rw [Bool.and_eq_true] at h
  exact (of_decide_eq_true h.1).2
end L2
namespace L2
open PySem PySem.Spec PyProof.Rows KM
section
variable {prog : Program} {w : World} {A : Around} {E : Value → Shared → Prop} {s : Shared} {κ : Type} [DecidableEq κ] {knd : KeyKind prog w κ}
end
section
variable {X : Cx} {o i value : Expr} {pos pos' : Pos} {td ty tv : TE}
end
section
variable {σ : St} {H : Hp} {Q : VK} {td ty : TE}
end
end L2
namespace L2
open PySem PySem.Spec PyProof.Rows KM
section
variable {X : Cx} {N W G : List Str} {K : PySem.W.Frag} {e : Expr} {t : TA} {p pos tpos : Pos} {elts : List Expr} {x1 : Nat}
end
end L2
namespace L2
open PySem PySem.Spec PyProof.Rows KM
end L2
namespace L2
open PySem PySem.Spec PyProof.Rows KM
section
variable {prog : Program} {w : World} {A : Around} {E : Value → Shared → Prop} {s : Shared}
end
section
variable {X : Cx} {K : PySem.W.Frag} {pos : Pos}
end
section
variable {X : Cx}
end
end L2
namespace L2
open PySem PySem.Spec PyProof.Rows KM
end L2
namespace L2
open PySem PySem.Spec PyProof.Rows KM
section
variable {ns : List Str} {cs ws : List Nat}
end
end L2
namespace L2
open PySem PySem.Spec PyProof.Rows KM
section
variable {ns : List Str} {cs ws : List Nat}
end
end L2
namespace L2
open PySem PySem.Spec PyProof.Rows KM
end L2
namespace L2
open PySem PySem.Spec PyProof.Rows KM
section
variable {X : Cx} {v : Expr} {tv : TE} {pos : Pos}
end
end L2
namespace L2
open PySem PySem.Spec PyProof.Rows KM
section
variable {X : Cx} {K : PySem.W.Frag} {e lo st : Expr} {te tl ts : TE} {pos p2 : Pos}
end
end L2
namespace L2
open PySem PySem.Spec PyProof.Rows KM
section
variable {ns : List Str} {cs ws : List Nat}
end
end L2
namespace L2
open PySem PySem.Spec PyProof.Rows KM
section
variable {M : Model} {A : Around} {E : Value → Shared → Prop}
variable {nm q : Str} {C N : Addr} {bs bm : List Value} {hdct : Bool} {sn : List Str} {sub : List Value} {ab : Bool} {col : Option Bool} {dd : Option Addr} {k0 k1 k2 k3 k5 : Option Value} {newId : String}
variable {nm' q' : Str} {D N' : Addr} {bs' bm' : List Value} {hdct' : Bool} {sn' : List Str} {sub' : List Value} {ab' : Bool} {col' : Option Bool} {dd' : Option Addr} {k0' k1' k2' k3' k5' : Option Value} {newId' : String}
end
end L2
namespace L2
open PySem PySem.Spec PyProof.Rows KM
def Fl (h : Heap) (a T C : Addr) (d : Option Addr) (fl : Value) : Prop :=
  ∃ oe vs oT ts, h.get? a = some oe ∧ oe.cls = .ref C ∧ oe.dict = d ∧ oe.data = .fields vs ∧ vs[1]? = some (.ref T) ∧ T ≠ a ∧ h.get? T = some oT ∧ oT.data = .fields ts ∧ ts[3]? = some fl
def FlyAt (h : Heap) (H : Hp) (a T C : Addr) (d : Option Addr) : Prop := Fl h a T C d .none ∧ H a = none ∧ H T = none
def CXE (P : Program) (w : World) : CXT := fun outer H s E e s' =>
  ∃ a T C d H', e = .ref a ∧ s'.os = s.os ∧ AllBare s'.gens ∧ Un (frs outer) [] H H' s.heap s'.heap ∧ HOk P w H' s'.heap ∧ s.heap.get? a = none ∧ s.heap.get? T = none ∧ FlyAt s'.heap H' a T C d ∧ E (.ref C) d H'
section
variable {P : Program} {w : World} {fs bad : List Addr} {H0 H1 : Hp} {h0 h1 h2 : Heap}
theorem un_exc (u : Un fs [] H0 H1 h0 h1) (hb : ∀ b ∈ bad, h0.get? b = none) (k : ∀ b o, h1.get? b = some o → b ∉ fs → b ∉ bad → h2.get? b = some o)
    (sl : ∀ b o, h1.get? b = some o → b ∈ fs → b ∉ bad → ∃ s, h2.get? b = some { o with slots := s }) : Un fs [] H0 H1 h0 h2 := by
  have nb : ∀ b o, h0.get? b = some o → b ∉ bad := fun b o e z => by rw [hb b z] at e; cases e
  refine ⟨fun b o e n hf hx => k b o (u.keep b o e n hf hx) hf (nb b o e), fun b o e n hf hx => ?_, u.free, fun b o e hx => ?_, u.tups, u.frzs, u.tbls⟩
  · obtain ⟨s1, e1⟩ := u.slot b o e n hf hx
    obtain ⟨s2, e2⟩ := sl b _ e1 hf (nb b o e)
    exact ⟨s2, e2⟩
  · obtain ⟨o1, e1⟩ := u.there b o e hx
    by_cases hf : b ∈ fs
    · obtain ⟨s2, e2⟩ := sl b _ e1 hf (nb b o e)
      exact ⟨_, e2⟩
    · exact ⟨_, k b _ e1 hf (nb b o e)⟩
theorem hok_exc (x : HOk P w H1 h1) (k : ∀ b o, h1.get? b = some o → b ∉ fs → b ∉ bad → h2.get? b = some o) (nf : ∀ b ∈ fs, H1 b = none) (nb : ∀ b ∈ bad, H1 b = none) : HOk P w H1 h2 := fun a o e =>
  (x a o e).stay (fun b u hb q => k b u q (fun z => by
    rcases hb with rfl | hb
    · rw [nf b z] at e; cases e
    · rw [nf b z] at hb; cases hb) (fun z => by
    rcases hb with rfl | hb
    · rw [nb b z] at e; cases e
    · rw [nb b z] at hb; cases hb)) (fun _ q => q) fun _ _ q => q
end
theorem HOk.there {P : Program} {w : World} {H : Hp} {h : Heap} {a : Addr} {o : HO} (x : HOk P w H h) (e : H a = some o) : ∃ u, h.get? a = some u := by
  have z := x a o e
  cases o with
  | lst xs => obtain ⟨_, _, _, _, e⟩ := z; exact ⟨_, e⟩
  | tup xs => obtain ⟨_, _, _, o, e, _⟩ := z; exact ⟨_, e⟩
  | dK kvs => obtain ⟨_, _, _, _, o, _, _, e, _⟩ := z; exact ⟨_, e⟩
  | dT kvs => obtain ⟨_, _, _, _, o, _, _, e, _⟩ := z; exact ⟨_, e⟩
  | set S n => obtain ⟨o, _, _, _, e, _⟩ := z; exact ⟨_, e⟩
  | ins C dx fs => obtain ⟨_, _, _, e, _⟩ := z; exact ⟨_, e⟩
  | own y => exact z
  | xd fs => obtain ⟨_, ⟨_, _, _, e, _⟩, _⟩ := z; exact ⟨_, e⟩
  | rng lo hi => obtain ⟨_, _, _, e⟩ := z; exact ⟨_, e⟩
  | frz ob u => obtain ⟨e, _⟩ := z; exact ⟨_, e⟩
  | tbl ps => exact ⟨_, z⟩
  | met f y => exact ⟨_, z⟩
  | ext φ => obtain ⟨_, e, _⟩ := z; exact e
theorem HOk.fresh' {P : Program} {w : World} {H : Hp} {h : Heap} {a : Addr} (x : HOk P w H h) (e : h.get? a = none) : H a = none := by
  cases q : H a with
  | none => rfl
  | some o => obtain ⟨u, z⟩ := x.there q; rw [e] at z; cases z
section
variable {X : Cx} {pins : List (Addr × Obj)} {σ : St} {H : Hp} {s : Shared} {h h' : Heap}
end
theorem dict_mapF (o : Obj) (f) : (o.mapFields f).dict = o.dict := by
  cases o with
  | mk c d dt sl => cases dt <;> rfl
section
variable {M : Model} {A : Around} {E : Value → Shared → Prop} {s : Shared} {base : Heap} {env : Env} {outer : List Env} {L a C : Addr} {d : Option Addr} {Q : Unit → Shared → Prop}
def Kept (l : List Addr) (bad : List Addr) (h h' : Heap) : Prop := (∀ b o, h.get? b = some o → b ∉ l → b ∉ bad → h'.get? b = some o) ∧ ∀ b o, h.get? b = some o → b ∉ bad → ∃ sl, h'.get? b = some { o with slots := sl }
theorem Kept.trans {l bad bad' : List Addr} {h h1 h2 : Heap} (x : Kept l bad h h1) (y : Kept l bad' h1 h2) (hs : ∀ b o, h.get? b = some o → b ∈ bad' → b ∈ bad) : Kept l bad h h2 := by
  refine ⟨fun b o e n1 n2 => y.1 b o (x.1 b o e n1 n2) n1 fun z => n2 (hs b o e z), fun b o e n2 => ?_⟩
  obtain ⟨s1, e1⟩ := x.2 b o e n2
  obtain ⟨s2, e2⟩ := y.2 b _ e1 fun z => n2 (hs b o e z)
  exact ⟨s2, e2⟩
theorem entry_new {oe : Obj} {vs : Array Value} {head : Value} {nx : Bool} (hfr : A.frames = some (env :: outer)) (hl : s.heap.FunFrames base (env :: outer)) (hf : env.frame = some L)
    (he : s.heap.get? a = some oe) (hc : oe.cls = .ref C) (hdi : oe.dict = d) (hd : oe.data = .fields vs) (hsz : 1 < vs.size)
    (h : ∀ h' T, s.heap.get? T = none → Fl h' a T C d (rawInt L) → Kept (frs (env :: outer)) [a] s.heap h' → Q () { s with heap := h' }) :
    wpAny M A (do let fr ← frameOf env; let pl ← entryPlaceOf L nx; let t ← EntryCells.newEntry head fr .none (rawInt L) .none pl; setField (.ref a) 1 t) Q E s := by
  have na : a ∉ (env :: outer).filterMap (·.frame) := fun hm => by
    obtain ⟨_, o, ho, hn⟩ := hl.mem hm
    rw [he] at ho; cases ho; exact hn vs hd
  refine wpAny_bind (wpAny_frameOf_fun hfr hl hf fun h1 s1 => ?_)
  refine wpAny_bind (wpAny_entryPlaceOf fun pl hpl => ?_)
  unfold EntryCells.newEntry newFields
  refine wpAny_bind (wpAny_newObj_type ?_ (hpl.sizeOk5 _ _ _ _ _))
  have e1 : h1.get? a = some oe := (s1.2.1 a na).trans he
  have lt : a < h1.objs.size := Heap.lt_size e1
  generalize hO : ({ cls := .type "traceback", dict := none, data := .fields ([head, .ref L, .none, rawInt L, .none] ++ (if pl.isEmpty then List.replicate 6 Value.none else pl)).toArray } : Obj) = oT
  have hOf : oT.isFreed = false := by rw [← hO]; rfl
  have e2 : (h1.push oT).get? a = some oe := Heap.get?_push_of_some _ e1
  have eT : (h1.push oT).get? h1.objs.size = some oT := Heap.get?_push_size h1 hOf
  refine wpAny_setField e2 hd hsz (h _ h1.objs.size (Heap.get?_none_of_le (Nat.le_of_eq s1.1.symm)) ?_ ⟨fun b o eb n1 n2 => ?_, fun b o eb n2 => ?_⟩)
  · have ne : h1.objs.size ≠ a := Nat.ne_of_gt lt
    have hd3 := Obj.data_mapFields hd (·.setIfInBounds 1 (Value.ref h1.objs.size))
    refine ⟨_, _, oT, _, Heap.get?_update_self _ e2 (Obj.isFreed_of_fields hd3), (Obj.cls_mapFields _ _).trans hc, (dict_mapF _ _).trans hdi, hd3, by simp [hsz], ne, (Heap.get?_update_other _ _ ne.symm).trans eT, by rw [← hO], ?_⟩
    first | (simp; done) | (rcases hpl with rfl | ⟨_, _, _, _, _, _, _, rfl⟩ <;> simp)
  · have hba : b ≠ a := fun z => n2 (by rw [z]; exact List.mem_cons_self)
    rw [Heap.get?_update_other _ _ hba.symm]
    exact Heap.get?_push_of_some _ ((s1.2.1 b n1).trans eb)
  · have hba : b ≠ a := fun z => n2 (by rw [z]; exact List.mem_cons_self)
    obtain ⟨sl, q⟩ := s1.2.2 b o eb
    refine ⟨sl, ?_⟩
    rw [Heap.get?_update_other _ _ hba.symm]
    exact Heap.get?_push_of_some _ q
theorem note_first {oe : Obj} {vs : Array Value} (hfr : A.frames = some (env :: outer)) (hl : s.heap.FunFrames base (env :: outer)) (hf : env.frame = some L)
    (he : s.heap.get? a = some oe) (hc : oe.cls = .ref C) (hdi : oe.dict = d) (hd : oe.data = .fields vs) (h1 : vs[1]? = some .none)
    (h : ∀ h' T, s.heap.get? T = none → Fl h' a T C d (rawInt L) → Kept (frs (env :: outer)) [a] s.heap h' → Q () { s with heap := h' }) : wpAny M A (noteFrame (.ref a) env) Q E s := by
  unfold noteFrame
  simp only [hf]
  refine wpAny_bind (wpAny_field he hd h1 ?_)
  rw [if_neg (by decide)]
  exact entry_new hfr hl hf he hc hdi hd (Array.getElem?_eq_some_iff.mp h1).1 h
theorem note_on {T : Addr} (hfr : A.frames = some (env :: outer)) (hl : s.heap.FunFrames base (env :: outer)) (hf : env.frame = some L) (f : Fl s.heap a T C d .none)
    (h : ∀ h' T', s.heap.get? T' = none → Fl h' a T' C d (rawInt L) → Kept (frs (env :: outer)) [a, T] s.heap h' → Q () { s with heap := h' }) : wpAny M A (noteFrame (.ref a) env) Q E s := by
  obtain ⟨oe, vs, oT, ts, he, hc, hdi, hd, h1, hTa, hT, hdT, h3⟩ := f
  unfold noteFrame
  simp only [hf]
  refine wpAny_bind (wpAny_field he hd h1 ?_)
  rw [if_pos (show (Value.ref T != Value.none) = true from by simp)]
  refine wpAny_bind (wpAny_field hT hdT h3 ?_)
  rw [if_neg (show ¬ ((Value.none == rawInt L) = true) from by simp [rawInt])]
  refine wpAny_bind (wpAny_setField hT hdT (Array.getElem?_eq_some_iff.mp h3).1 ?_)
  have oth : ∀ b, b ≠ T → (s.heap.update T (Obj.mapFields (·.setIfInBounds 3 Value.none))).get? b = s.heap.get? b := fun b hb => Heap.get?_update_other _ _ hb.symm
  have k0 : Kept (frs (env :: outer)) [a, T] s.heap (s.heap.update T (Obj.mapFields (·.setIfInBounds 3 Value.none))) := by
    refine ⟨fun b o e _ n => (oth b fun z => n (by simp [z])).trans e, fun b o e n => ⟨o.slots, (oth b fun z => n (by simp [z])).trans e⟩⟩
  have noT : ∀ b o, s.heap.get? b = some o → (∀ vs, o.data ≠ .fields vs) → b ≠ T := fun b o hb hn q => by rw [q, hT] at hb; cases hb; exact hn ts hdT
  refine entry_new hfr (hl.of_keeps fun b o hb hn => ⟨o, (oth b (noT b o hb hn)).trans hb, rfl⟩) hf ((oth a hTa.symm).trans he) hc hdi hd (Array.getElem?_eq_some_iff.mp h1).1 fun h' T' n' f' k' => ?_
  refine h h' T' ?_ f' (k0.trans k' fun b _ _ z => by rw [List.mem_singleton.mp z]; exact List.mem_cons_self)
  have hne : T' ≠ T := fun z => by
    rw [z, Heap.get?_update_self _ hT (Obj.isFreed_of_fields (Obj.data_mapFields hdT _))] at n'
    cases n'
  rw [← oth T' hne]; exact n'
theorem flight_none {T : Addr} {fl : Value} {l : List Addr} (f : Fl s.heap a T C d fl) (h : ∀ h', Fl h' a T C d .none → Kept l [T] s.heap h' → Q () { s with heap := h' }) : wpAny M A (setFlight (.ref a) none) Q E s := by
  obtain ⟨oe, vs, oT, ts, he, hc, hdi, hd, h1, hTa, hT, hdT, h3⟩ := f
  have hsz : 3 < ts.size := (Array.getElem?_eq_some_iff.mp h3).1
  unfold setFlight
  refine wpAny_bind (wpAny_field he hd h1 ?_)
  rw [if_pos (show (Value.ref T != Value.none) = true from by simp)]
  have oth : ∀ b, b ≠ T → (s.heap.update T (Obj.mapFields (·.setIfInBounds 3 ((none : Option Addr).elim Value.none fun f => rawInt f)))).get? b = s.heap.get? b := fun b hb => Heap.get?_update_other _ _ hb.symm
  refine wpAny_setField hT hdT hsz (h _ ⟨oe, vs, _, _, (oth a hTa.symm).trans he, hc, hdi, hd, h1, hTa, Heap.get?_update_self _ hT (Obj.isFreed_of_fields (Obj.data_mapFields hdT _)), Obj.data_mapFields hdT _, by simp [hsz]⟩ ?_)
  exact ⟨fun b o e _ n => (oth b fun z => n (by simp [z])).trans e, fun b o e n => ⟨o.slots, (oth b fun z => n (by simp [z])).trans e⟩⟩
theorem leave_first {oe : Obj} {vs : Array Value} (hfr : A.frames = some (env :: outer)) (hl : s.heap.FunFrames base (env :: outer)) (hf : env.frame = some L)
    (he : s.heap.get? a = some oe) (hc : oe.cls = .ref C) (hdi : oe.dict = d) (hd : oe.data = .fields vs) (h1 : vs[1]? = some .none)
    (h : ∀ h' T, s.heap.get? T = none → Fl h' a T C d .none → Kept (frs (env :: outer)) [a] s.heap h' → Q () { s with heap := h' }) : wpAny M A (leaving env (.ref a)) Q E s := by
  unfold leaving
  refine wpAny_bind (note_first hfr hl hf he hc hdi hd h1 fun h' T nT f k => ?_)
  refine flight_none (l := frs (env :: outer)) f fun h2 f2 k2 => h h2 T nT f2 (k.trans k2 fun b o e z => ?_)
  rw [List.mem_singleton.mp z, nT] at e; cases e
theorem leave_on {T : Addr} (hfr : A.frames = some (env :: outer)) (hl : s.heap.FunFrames base (env :: outer)) (hf : env.frame = some L) (f : Fl s.heap a T C d .none)
    (h : ∀ h' T', s.heap.get? T' = none → Fl h' a T' C d .none → Kept (frs (env :: outer)) [a, T] s.heap h' → Q () { s with heap := h' }) : wpAny M A (leaving env (.ref a)) Q E s := by
  unfold leaving
  refine wpAny_bind (note_on hfr hl hf f fun h' T' nT f k => ?_)
  refine flight_none (l := frs (env :: outer)) f fun h2 f2 k2 => h h2 T' nT f2 (k.trans k2 fun b o e z => ?_)
  rw [List.mem_singleton.mp z, nT] at e; cases e
end
section
variable {P : Program} {w : World} {K : PySem.W.Frag} {mg : Str → Option Value} {base : Heap} {N : List Str} {qual : Str} {scope : Scope} {f : Addr} {cd : Value} {A : Around} {outer : List Env} {s0 s : Shared} {H0 H : Hp} {E : XK} {pins : List (Addr × Obj)} {σ : St}
theorem left_ok {e T C : Addr} {d : Option Addr} {bad : List Addr} {h2 : Heap} (I : Inv (cxOf (CXE P w) P w K mg base N qual scope f cd A outer s0 H0 E) pins σ H s)
    (hb : ∀ b ∈ bad, s0.heap.get? b = none ∧ H b = none) (k : Kept (frs (envOfC qual scope s0.heap.objs.size f cd :: outer)) bad s.heap h2) (he : s0.heap.get? e = none) (nT : s.heap.get? T = none) (hH : H e = none)
    (fl : Fl h2 e T C d .none) (q : E (.ref C) d H) : CXE P w outer H0 s0 E (.ref e) { s with heap := h2 } := by
  have mfs : ∀ b, b ∉ frs outer → b ≠ (envOfC qual scope s0.heap.objs.size f cd).locals → b ∉ frs (envOfC qual scope s0.heap.objs.size f cd :: outer) := fun b h1 h2 z => by
    rcases List.mem_cons.mp (I.stkSub b z) with z | z
    · exact h2 z
    · exact h1 z
  have bad' : ∀ b ∈ (envOfC qual scope s0.heap.objs.size f cd).locals :: bad, s0.heap.get? b = none ∧ H b = none := fun b hm => by
    rcases List.mem_cons.mp hm with z | z
    · rw [z]; exact ⟨Heap.get?_none_of_le (Nat.le_refl _), I.free⟩
    · exact hb b z
  have k2 : ∀ b o, s.heap.get? b = some o → b ∉ frs outer → b ∉ (envOfC qual scope s0.heap.objs.size f cd).locals :: bad → h2.get? b = some o := fun b o e1 n1 n2 =>
    k.1 b o e1 (mfs b n1 fun z => n2 (by rw [z]; exact List.mem_cons_self)) fun z => n2 (List.mem_cons_of_mem _ z)
  have nfs : ∀ b ∈ frs outer, H b = none := fun b hm => I.stkFree b (by
    show b ∈ frs (envOfC qual scope s0.heap.objs.size f cd :: outer)
    unfold frs
    rw [List.filterMap_cons]
    exact List.mem_cons_of_mem _ hm)
  refine ⟨e, T, C, d, H, rfl, I.os, I.bare, un_exc I.base (fun b hm => (bad' b hm).1) k2 (fun b o e1 _ n => k.2 b o e1 fun z => n (List.mem_cons_of_mem _ z)), hok_exc I.hok k2 nfs fun b hm => (bad' b hm).2, he, ?_, ⟨fl, hH, I.hok.fresh' nT⟩, q⟩
  cases z : s0.heap.get? T with
  | none => rfl
  | some o =>
    obtain ⟨o', e'⟩ := I.base.there T o z (by simp [cxOf])
    rw [nT] at e'; cases e'
theorem new_there {a : Addr} (I : Inv (cxOf (CXE P w) P w K mg base N qual scope f cd A outer s0 H0 E) pins σ H s) (n : s.heap.get? a = none) : s0.heap.get? a = none := by
  cases z : s0.heap.get? a with
  | none => rfl
  | some o =>
    obtain ⟨o', e'⟩ := I.base.there a o z (by simp [cxOf])
    rw [n] at e'; cases e'
theorem leave_obj {e C : Addr} {d : Option Addr} {oe : Obj} {vs : Array Value} (I : Inv (cxOf (CXE P w) P w K mg base N qual scope f cd A outer s0 H0 E) pins σ H s)
    (he : s.heap.get? e = some oe) (n0 : s0.heap.get? e = none) (hH : H e = none) (hc : oe.cls = .ref C) (hdi : oe.dict = d) (hd : oe.data = .fields vs) (h1 : vs[1]? = some .none) (q : E (.ref C) d H) :
    (cxOf (CXE P w) P w K mg base N qual scope f cd A outer s0 H0 E).xe (.ref e) s := by
  refine leave_first (L := s0.heap.objs.size) I.ok.frames I.stack rfl he hc hdi hd h1 fun h2 T nT fl k => ?_
  exact left_ok I (fun b hb => by rw [List.mem_singleton.mp hb]; exact ⟨n0, hH⟩) k n0 nT hH fl q
theorem leave_pass {s' : Shared} {e : Value} (I : Inv (cxOf (CXE P w) P w K mg base N qual scope f cd A outer s0 H0 E) pins σ H s) (h : CXE P w (envOfC qual scope s0.heap.objs.size f cd :: outer) H s E e s') :
    (cxOf (CXE P w) P w K mg base N qual scope f cd A outer s0 H0 E).xe e s' := by
  obtain ⟨a, T, C, d, H', rfl, os, bare, un, hok, na, nT, ⟨fl, ha, hT⟩, q⟩ := h
  have I' : Inv (cxOf (CXE P w) P w K mg base N qual scope f cd A outer s0 H0 E) pins σ H' s' := I.call' (ch := []) os un hok bare fun b z => absurd z (by simp)
  refine leave_on (L := s0.heap.objs.size) I'.ok.frames I'.stack rfl fl fun h2 T' nT' fl' k => ?_
  refine left_ok I' (fun b hb => ?_) k (new_there I na) nT' ha fl' q
  rcases List.mem_cons.mp hb with z | z
  · rw [z]; exact ⟨new_there I na, ha⟩
  · rw [List.mem_singleton.mp z]; exact ⟨new_there I nT, hT⟩
theorem passes_cx : Passes (CXE P w) (cxOf (CXE P w) P w K mg base N qual scope f cd A outer s0 H0 E) E := fun _ _ _ _ _ _ I h => leave_pass I h
end
end L2
namespace L2
open PySem PySem.Spec PyProof.Rows KM
section
variable {prog : Program} {w : World} {A : Around} {E : Value → Shared → Prop} {h : Heap} {g : Array GenState} {d : Drawn} {t : Nat} {os : OsState} {a C : Addr} {oe : Obj} {od : Option Obj} {K : PySem.W.Frag} {name : Str}
theorem exc_check {M : Model} {nv : Value} {Q : Unit → Shared → Prop} (X : K.In h) (I : PySem.W.InstAt h a oe C od) (hb : PySem.W.mroIn K C (.type "BaseException") = some true) (hq : Q () ⟨h, g, d, t, os⟩) :
    wpAny M A (checkBuiltinCall "BaseException.__getattribute__" ⟨[.ref a, nv], []⟩) Q E ⟨h, g, d, t, os⟩ := by
  have hk : builtinKind "BaseException.__getattribute__" = some .slot := by decide +kernel
  have hs : splitId "BaseException.__getattribute__" = some ("BaseException", "__getattribute__") := by decide +kernel
  have L0 := I.type (M := M)
  have L1 := PySem.W.looks_mroIn (M := M) X hb
  have LI : PySem.W.Looks M h (isInstance (.ref a) (.type "BaseException")) true := L0.andThen L1
  have ha := F.args_bexc_ga (.ref a) nv
  simp only [checkBuiltinCall, hk, hs]
  refine wpAny_bind (LI.at ?_)
  repeat (first | assumption | wp_step)
theorem exc_entry_bind {tk : Tok} {gt at' v : Value} {Q : Fin → Shared → Prop} (X : K.In h) (I : PySem.W.InstAt h a oe C od) (hf : PySem.W.findObj K C od name = some (.bind gt at'))
    (hc : ∀ (A : Around) (R : Result → Shared → Prop) (s : Shared), s.heap = h → R (.ok (.ret v)) s → codeAny (model prog w) A (.call gt ⟨[at', .ref a, .ref C], []⟩) R s) (hq : Q (.done (.ret v)) ⟨h, g, d, t, os⟩) :
    wpAny (model prog w) A (Builtin.«object.__getattribute__» ⟨[.ref a, .str name tk], []⟩) Q E ⟨h, g, d, t, os⟩ := by
  have L0 := I.type (M := model prog w)
  have L1 := PySem.W.looks_find (M := model prog w) X I hf
  unfold Builtin.«object.__getattribute__»
  repeat (first | with_reducible refine L0.at ?_ | with_reducible refine L1.at ?_ | wp_step)
  refine hc _ _ _ rfl ?_
  repeat (first | assumption | wp_step)
theorem exc_entry_value {tk : Tok} {v : Value} {Q : Fin → Shared → Prop} (X : K.In h) (I : PySem.W.InstAt h a oe C od) (hf : PySem.W.findObj K C od name = some (.value v)) (hq : Q (.done (.ret v)) ⟨h, g, d, t, os⟩) :
    wpAny (model prog w) A (Builtin.«object.__getattribute__» ⟨[.ref a, .str name tk], []⟩) Q E ⟨h, g, d, t, os⟩ := by
  have L0 := I.type (M := model prog w)
  have L1 := PySem.W.looks_find (M := model prog w) X I hf
  unfold Builtin.«object.__getattribute__»
  repeat (first | with_reducible refine L0.at ?_ | with_reducible refine L1.at ?_ | assumption | wp_step)
structure ExcGet (K : PySem.W.Frag) (C : Addr) : Prop where
  ga : PySem.W.findIn K (.ref C) "__getattribute__" = some (some (.builtin "BaseException.__getattribute__"))
  no : PySem.W.findIn K (.ref C) "__getattr__" = some none
  base : PySem.W.mroIn K C (.type "BaseException") = some true
theorem exc_by {tk : Tok} {fill expr : Bool} {v : Value} {Q : Value → Shared → Prop} (X : K.In h) (I : PySem.W.InstAt h a oe C od) (G : ExcGet K C)
    (hc : ∀ (A : Around) (Q : Fin → Shared → Prop) (E : Value → Shared → Prop), Q (.done (.ret v)) ⟨h, g, d, t, os⟩ → wpAny (model prog w) A (Builtin.«object.__getattribute__» ⟨[.ref a, .str name tk], []⟩) Q E ⟨h, g, d, t, os⟩)
    (hv : PySem.W.handedIn v = true) (hq : Q v ⟨h, g, d, t, os⟩) : wpAny (model prog w) A (getAttrBy (.ref a) (.str name tk) fill expr) Q E ⟨h, g, d, t, os⟩ := by
  have L0 := I.type (M := model prog w)
  have L1 := PySem.W.looks_findIn (M := model prog w) X G.ga
  have L2 := PySem.W.looks_findIn (M := model prog w) X G.no
  have FB := F.excAttr_ValueError
  have f3 := FB.ga.bind (.ref a)
  have hx0 : (expr && onTheHeap (Value.builtin "BaseException.__getattribute__")) = false := by cases expr <;> rfl
  have hx2 : (Value.builtin "BaseException.__getattribute__" == Value.builtin "object.__getattribute__") = false := by decide +kernel
  have hx1 : (onTheHeap (Value.ref C) && Value.builtin "BaseException.__getattribute__" == Value.builtin "object.__getattribute__") = false := by rw [hx2]; rfl
  unfold getAttrBy getAttrByItsOwn hookBefore
  repeat (first | with_reducible refine L0.at ?_ | with_reducible refine L1.at ?_ | with_reducible refine L2.at ?_ | assumption | wp_step)
  refine codeAny_call_builtin FB.ga.plain F.entry_bexc_ga (exc_check X I G.base (hc _ _ _ ?_))
  exact PySem.W.handed_on hv hq
theorem exc_attr {expr : Bool} {v : Value} {Q : Value → Shared → Prop} (X : K.In h) (I : PySem.W.InstAt h a oe C od) (G : ExcGet K C) (hf : PySem.W.findObj K C od name = some (.value v))
    (hv : PySem.W.handedIn v = true) (hq : Q v ⟨h, g, d, t + 1, os⟩) : wpAny (model prog w) A (getAttr (.ref a) name expr) Q E ⟨h, g, d, t, os⟩ := by
  unfold getAttr
  refine wpAny_bind (wpAny_mkText ?_)
  exact exc_by X I G (fun A Q E q => exc_entry_value X I hf q) hv hq
theorem exc_isType {K : PySem.W.Frag} {C : Addr} {M : Model} {h : Heap} (X : K.In h) {t : Value} (z : PySem.W.mroIn K C t = some true) : PySem.W.Looks M h (isType (.ref C)) true := by
  unfold PySem.W.mroIn PySem.W.clsIn at z
  split at z
  · rename_i c' d' cd' sl' ho
    intro A' Q' E' s' k q
    unfold isType loadHead
    exact wpAny_bind (wpAny_loadPart (k _ _ (X _ _ ho)) (wpAny_pure q))
  · cases z
structure ExcCls (K : PySem.W.Frag) (C : Addr) : Prop extends ExcGet K C where
  cl : PySem.W.findIn K (.ref C) "__class__" = some (some (.builtin "object.__class__"))
  gt : PySem.W.specialIn K (.builtin "object.__class__") "__get__" = some (some (.builtin "getset_descriptor.__get__"))
  tk : PySem.W.takesIn K (.builtin "object.__class__") = some true
  ob : PySem.W.mroIn K C (.type "object") = some true
theorem exc_class {Q : Option Value → Shared → Prop} (X : K.In h) (I : PySem.W.InstAt h a oe C od) (G : ExcCls K C) (hq : Q (some (.ref C)) ⟨h, g, d, t + 1, os⟩) :
    wpAny (model prog w) A (getAttr? (.ref a) "__class__") Q E ⟨h, g, d, t, os⟩ := by
  have hcl : (PySem.W.clsIn K C).isSome = true := by
    have z := G.ob
    unfold PySem.W.mroIn at z
    cases q : PySem.W.clsIn K C with
    | none => rw [q] at z; cases z
    | some _ => rfl
  have hf : PySem.W.findObj K C od "__class__" = some (.bind (.builtin "getset_descriptor.__get__") (.builtin "object.__class__")) := by
    obtain ⟨cd, hc⟩ := Option.isSome_iff_exists.mp hcl
    unfold PySem.W.findObj
    rw [hc, Option.bind_some, G.cl, Option.bind_some]
    simp [G.gt, G.tk]
  unfold getAttr? getAttrBy?
  refine wpAny_bind (wpAny_mkText (wpAny_bind (wpAny_attempt ?_)))
  refine exc_by (v := .ref C) X I G.toExcGet (fun A Q E q => exc_entry_bind X I hf (fun A R s e r => ?_) q) rfl ?_
  · obtain ⟨hh, gg, dd, tt, oo⟩ := s
    cases e
    exact PySem.W.class_get X I G.ob r
  · exact wpAny_pure hq
theorem kitx_exc (G : ExcCls K C) : PySem.W.KitX K (.ref a) (.ref C) (fun h => PySem.W.InstAt h a oe C od) where
  ty := fun _ _ _ I => I.type
  it := fun _ _ X _ => by
    have z := G.ob
    unfold PySem.W.mroIn PySem.W.clsIn at z
    split at z
    · rename_i c' d' cd' sl' ho
      intro A' Q' E' s' k q
      unfold isType loadHead
      exact wpAny_bind (wpAny_loadPart (k _ _ (X _ _ ho)) (wpAny_pure q))
    · cases z
  ne := fun h tp dd its n sl X htp => by
    have z := G.ob
    refine Bool.eq_false_iff.mpr fun q => ?_
    have e : C = tp := Value.ref.inj (beq_iff_eq.mp q)
    subst e
    unfold PySem.W.mroIn PySem.W.clsIn at z
    split at z
    · rename_i c' d' cd' sl' ho
      have z := (X _ _ ho).symm.trans htp
      cases z
    · cases z
  ca := fun {_ _ _ _ _ s} X I k => by
    obtain ⟨hh, gg, dd, tt, oo⟩ := s
    exact exc_class X I G k
end
end L2
namespace L2
open PySem PySem.Spec PyProof.Rows KM
def isaE (x y : Str) : Bool := x == y || y == "HatError" || (y == "LineError" && (x == "NoLine" || x == "Twice" || x == "Unknown" || x == "TooMany"))
def hasIn (x : Str) : Bool := x == "LineError" || x == "NoLine" || x == "Twice" || x == "Unknown" || x == "TooMany"
def vmro : List Value := [.type "ValueError", .type "Exception", .type "BaseException", .type "object"]
def errOne (K : PySem.W.Frag) (C : Addr) : Bool :=
  PySem.W.findIn K (.ref C) "__getattribute__" == some (some (.builtin "BaseException.__getattribute__")) && PySem.W.findIn K (.ref C) "__getattr__" == some none && PySem.W.mroIn K C (.type "BaseException") == some true &&
  PySem.W.findIn K (.ref C) "__class__" == some (some (.builtin "object.__class__")) && PySem.W.specialIn K (.builtin "object.__class__") "__get__" == some (some (.builtin "getset_descriptor.__get__")) &&
  PySem.W.takesIn K (.builtin "object.__class__") == some true && PySem.W.mroIn K C (.type "object") == some true && PySem.W.typeIn K (.ref C) == some (.type "type") && PySem.W.kitOne K (.ref C) (.type "ValueError") == some true
def errOk (K : PySem.W.Frag) (names : List Str) (er : Str → Addr) : Bool :=
  names.all fun x => PySem.W.nsIn K mainGlobals x == some (some (.ref (er x))) && errOne K (er x) && (hasIn x || PySem.W.excIn K (er x) vmro "ValueError.__new__") &&
    names.all fun y => PySem.W.kitOne K (.ref (er x)) (.ref (er y)) == some (isaE x y) && PySem.W.mroIn K (er x) (.ref (er y)) == some (isaE x y)
structure ErrT (K : PySem.W.Frag) (mg : Str → Option Value) (names : List Str) (er : Str → Addr) : Prop where
  gl : ∀ x ∈ names, mg x = some (.ref (er x))
  cls : ∀ x ∈ names, ExcCls K (er x)
  ty : ∀ x ∈ names, PySem.W.typeIn K (.ref (er x)) = some (.type "type")
  val : ∀ x ∈ names, PySem.W.kitOne K (.ref (er x)) (.type "ValueError") = some true
  own : ∀ x ∈ names, hasIn x = false → PySem.W.excIn K (er x) vmro "ValueError.__new__" = true
  isi : ∀ x ∈ names, ∀ y ∈ names, PySem.W.kitOne K (.ref (er x)) (.ref (er y)) = some (isaE x y)
  mat : ∀ x ∈ names, ∀ y ∈ names, PySem.W.mroIn K (er x) (.ref (er y)) = some (isaE x y)
theorem errT_of {K : PySem.W.Frag} {h : Heap} {mg : Str → Option Value} {names : List Str} {er : Str → Addr} (X : K.In h) (G : h.Ns mainGlobals mg) (e : errOk K names er = true) : ErrT K mg names er := by
  have z : ∀ x ∈ names, _ := List.all_eq_true.mp e
  simp only [Bool.and_eq_true, Bool.or_eq_true, beq_iff_eq, errOne, List.all_eq_true] at z
  refine ⟨fun x hx => PySem.W.mg_of X G (z x hx).1.1.1, fun x hx => ?_, fun x hx => (z x hx).1.1.2.1.2, fun x hx => (z x hx).1.1.2.2, fun x hx hn => ?_, fun x hx y hy => ((z x hx).2 y hy).1, fun x hx y hy => ((z x hx).2 y hy).2⟩
  · obtain ⟨⟨⟨_, ⟨⟨⟨⟨⟨⟨⟨⟨a, b⟩, c⟩, d⟩, e⟩, f⟩, g⟩, _⟩, _⟩⟩, _⟩, _⟩ := z x hx
    exact ⟨⟨a, b, c⟩, d, e, f, g⟩
  · rcases (z x hx).1.2 with q | q
    · rw [hn] at q; cases q
    · exact q
section
variable {K : PySem.W.Frag} {h : Heap} {C : Addr} {bmB : List Value} {newId : String}
end
section
variable {X : Cx} {E : XK} {x : Str} {C : Addr} {np cpos pos : Pos} {e : Expr} {es : List Expr} {t : TA}
end
end L2
namespace L2
open PySem PySem.Spec PyProof.Rows KM
theorem exc_match {M : Model} {A : Around} {E : Value → Shared → Prop} {K : PySem.W.Frag} {h : Heap} {g : Array GenState} {d : Drawn} {t : Nat} {os : OsState} {a C D : Addr} {oe : Obj} {b : Bool} {Q : Bool → Shared → Prop} (X : K.In h)
    (he : h.get? a = some oe) (hc : oe.cls = .ref C) (hD : PySem.W.typeIn K (.ref D) = some (.type "type")) (GD : ExcCls K D) (hs : PySem.W.mroIn K C (.ref D) = some b) (hq : Q b ⟨h, g, d, t, os⟩) :
    wpAny M A (excMatches (.ref a) (.ref D)) Q E ⟨h, g, d, t, os⟩ := by
  have L0 : PySem.W.Looks M h (typeOf (.ref a)) (.ref C) := hc ▸ (PySem.W.Looks.ld he).andThen .now
  have L1 := PySem.W.looks_typeIn (M := M) X hD
  have L2 := PySem.W.looks_mroIn (M := M) X GD.base
  have L3 := PySem.W.looks_mroIn (M := M) X hs
  have L4 : PySem.W.Looks M h (isType (.ref D)) true := exc_isType X GD.base
  have f := tc_notTuple
  unfold excMatches isExcClass isInstance
  repeat (first | with_reducible refine L0.at ?_ | with_reducible refine L1.at ?_ | with_reducible refine L2.at ?_ | with_reducible refine L3.at ?_ | with_reducible refine L4.at ?_ | wp_step)
  all_goals (cases b <;> first | exact hq | (wp_walk; exact hq))
structure FnE (P : Program) (w : World) (K : PySem.W.Frag) (mg : Str → Option Value) (base : Heap) (k : Nat) (x : Str) (ps : List Str) (sp : Sp) : Prop where
  ex : ∃ f fd, FnOk P w K mg base (CXE P w) k f fd ps sp ∧ mg x = some (.ref f) ∧ PySem.W.keepIn K (.ref f) = true ∧ Binds K fd ps []
section
variable {P : Program} {w : World} {K : PySem.W.Frag} {mg : Str → Option Value} {base : Heap} {k : Nat} {x : Str} {N ps G : List Str} {sp : Sp} {st : Stmt}
theorem DS.cxE {CX : CXT} {sc : Scope} {q : Str} {f : Addr} {cdv : Value} {A : Around} {outer : List Env} {s : Shared} {H : Hp} {E : XK} (D : DS sc N ps G) : Sc (cxOf CX P w K mg base N q sc f cdv A outer s H E) N N G :=
  ⟨rfl, D.fs.nd, fun x hx => visB_of (D.vis x hx), fun x hx => ⟨D.loc x hx, .inl rfl⟩, fun x hx => glB_of (D.gl x hx)⟩
def Own (X : Cx) : Prop := X.stack = X.env :: X.outer ∧ X.env.frame = some X.env.locals
end
section
variable {X : Cx} {N W G : List Str} {k m : Nat} {x : Str} {ps : List Str} {sp : Sp} {p pos : Pos} {e : Expr} {es : List Expr} {t : TA} {E : XK}
end
abbrev TEx := St → Hp → VK → XK → Prop
abbrev TSx := Ends → (St → XK) → St → Hp → Prop
def XP (X : Cx) (pins : List (Addr × Obj)) (W : St → XK) (e : Value) (s' : Shared) : Prop := ∃ σ' H0 s0, Inv X pins σ' H0 s0 ∧ CXE X.prog X.w X.stack H0 s0 (W σ') e s'
structure QEx (X : Cx) (e : Expr) (t : TEx) : Prop where
  h : ∀ (pins : List (Addr × Obj)) (s : Shared) (σ : St) (H : Hp) (Q : VK) (E : XK), Inv X pins σ H s → t σ H Q E → wpAny (model X.prog X.w) X.A (eval e X.env) (EP X pins σ Q) (fun x s' => ∃ H0 s0, Inv X pins σ H0 s0 ∧ CXE X.prog X.w X.stack H0 s0 E x s') s
structure QSx (X : Cx) (st : Stmt) (t : TSx) : Prop where
  h : ∀ (pins : List (Addr × Obj)) (s : Shared) (σ : St) (H : Hp) (D : Ends) (W : St → XK), Inv X pins σ H s → t D W σ H → wpAny (model X.prog X.w) X.A (exec st X.env) (SP X pins D) (XP X pins W) s
structure QSsx (X : Cx) (st : List Stmt) (t : TSx) : Prop where
  h : ∀ (pins : List (Addr × Obj)) (s : Shared) (σ : St) (H : Hp) (D : Ends) (W : St → XK), Inv X pins σ H s → t D W σ H → wpAny (model X.prog X.w) X.A (execs st X.env) (SP X pins D) (XP X pins W) s
def tCallX (sp : Sp) (t : TA) : TEx := fun σ H Q E => t σ H fun vs H1 => sp vs H1 Q E
def tAsgX (te : TEx) (g : TG) : TSx := fun D W σ H => te σ H (fun x H1 => g x σ H1 D.nx) (W σ)
def tIfX (c : TT) (t u : TSx) : TSx := fun D W σ H => c σ H fun b H1 => if b = true then t D W σ H1 else u D W σ H1
section
variable {X : Cx} {N W G : List Str} {k m : Nat} {x : Str} {ps : List Str} {sp : Sp} {p pos pos' : Pos} {e c : Expr} {es : List Expr} {t : TA} {te : TEx} {tc : TT} {u v : TSx} {st : Stmt} {sts l l' : List Stmt}
theorem kfx (S : Sc X N W G) (hxe : X.xe = fun _ _ => False) (g : Nat) (F : FnE X.prog X.w X.K X.mg X.base k x ps sp) (hr : Room m X.A) (ha : QB X (e :: es) t) (hk : k ≤ m := by decide) (hg : G[g]? = some x := by rfl) :
    QEx X (.Call (.Name x p) (e :: es) [] pos) (tCallX sp t) := by
  obtain ⟨f, fd, F, hm, hkp, hb⟩ := F.ex
  have q := S.gl x (List.mem_of_getElem? hg)
  refine ⟨fun pins s σ H Q E I h => ?_⟩
  refine wpAny_Call_Name_kw (ld_glob I q.1 hm ?_ q.2.1)
  refine PySem.W.callWith_K (h₀ := X.base) I.ok.mod.kin hkp (wpAny_mono (ha.h.pa pos pins s σ H _ I h) (fun us s1 ⟨vs, H1, I1, r, q⟩ => ⟨I1.kIn, ?_⟩) fun x s' z => by rw [hxe] at z; exact z.elim) (star_cons ha.h.he) (plain_of ha.h.hes)
  have hl : us.length = ps.length := by rw [← r.length]; exact F.len _ _ _ _ q
  have hbd := hb s1 us I1.kIn (by rw [List.append_nil]; exact hl)
  rw [List.append_nil] at hbd
  refine wpAny_call (codeAny_mono (F.run X.A X.stack s1 H1 ⟨us, []⟩ us vs Q E (hr.mono hk) I1.env0 hbd r q) fun r s' hq => ?_)
  cases r with
  | error e => exact ⟨H1, s1, I1, hq⟩
  | ok fl =>
    cases fl with
    | ret u => exact I1.after hq
    | next => exact False.elim hq
    | brk => exact False.elim hq
    | cont => exact False.elim hq
theorem xset (S : Sc X N W G) (i : Nat) (he : QEx X e te) (h : N[i]? = some x := by rfl) (hw : W[i]? = some x := by rfl) (hs : swapsWith e (some (.Name x pos')) pos.line X.env = pure false := by rfl) :
    QSx X (.Assign [.Name x pos'] e pos) (tAsgX te (gName i)) := by
  have q := S.sto x (List.mem_of_getElem? hw)
  refine ⟨fun pins s σ H D W I z => wpAny_Assign_Name (wpAny_mono (he.h pins s σ H _ _ I z) (fun v s1 ⟨y, H1, I1, r1, q1⟩ => ?_) fun x s' ⟨H0, s0, I0, z⟩ => ⟨σ, H0, s0, I0, z⟩) hs⟩
  exact store_ok I1 (by rw [S.eN]; exact S.nd) (by rw [S.eN]; exact h) q.1 r1 (fun s2 I2 => ⟨_, H1, I2, q1⟩) q.2
theorem xif (hxe : X.xe = fun _ _ => False) (hc : QT X c tc) (ha : QSsx X l u) (hb : QSsx X l' v) : QSx X (.If c l l' pos) (tIfX tc u v) := by
  refine ⟨fun pins s σ H D W I h => wpAny_If (wpAny_mono (hc.h pins s σ H _ I h) (fun d s1 ⟨H1, I1, q1⟩ => ?_) fun x s' z => by rw [hxe] at z; exact z.elim)⟩
  cases d with
  | true => exact ha.h pins s1 σ H1 D W I1 q1
  | false => exact hb.h pins s1 σ H1 D W I1 q1
theorem xs_one (h1 : QSx X st u) : QSsx X [st] u := by
  refine ⟨fun pins s σ H D W I h => wpAny_execs_cons (thn (h1.h pins s σ H D W I h) fun f s1 q => ?_)⟩
  cases f with
  | next => exact wpAny_execs_nil q
  | ret v => exact q
  | brk => exact q
  | cont => exact q
end
end L2
namespace L2
open PySem PySem.Spec PyProof.Rows KM
section
variable {X : Cx} {pins : List (Addr × Obj)} {σ : St} {H : Hp} {s : Shared}
theorem goes_ok {M : Model} {A : Around} {E : Value → Shared → Prop} {i : Nat} {x : Str} {pos : Pos} {Q : Unit → Shared → Prop} (I : Inv X pins σ H s) (hN : X.N.Nodup) (hi : X.N[i]? = some x) (hk : X.env.kindOf x = some .local)
    (h : ∀ s', Inv X pins (σ.set i none) H s' → Q () s') : wpAny M A (do bindName X.env x .none; unbindBehindTheSuite X.env x pos) Q E s := by
  obtain ⟨m, hn, hl⟩ := id I.loc
  have hcls : (X.env.scope.kind == .class || (X.env.scope.kind == .module && X.env.locals != X.env.globals)) = false := by rw [I.ok.kind]; rfl
  refine wpAny_nameGoes_keeps hk hn hcls fun h' v hn' hs => h _ ?_
  have ab : ∀ b o, X.s₀.heap.get? b = some o → b ≠ X.env.locals := fun b o e => Nat.ne_of_lt (Nat.lt_of_lt_of_le (Heap.lt_size e) I.ok.above)
  refine ⟨I.ok, I.os, I.bare, ⟨fun b o e n hb hx => (hs.2 b (ab b o e)).trans (I.base.keep b o e n hb hx), fun b o e n hb hx => ?_, I.base.free, fun b o e hx => ?_, I.base.tups, I.base.frzs, I.base.tbls⟩,
    ⟨_, hn', fun j y v' e1 e2 e3 => ?_⟩, fun y c e => ?_, I.free, I.freeC, fun p hp => ?_, fun b ob e => ?_, by simpa using I.len⟩
  · obtain ⟨sl, e1⟩ := I.base.slot b o e n hb hx
    exact ⟨sl, (hs.2 b (ab b o e)).trans e1⟩
  · obtain ⟨o', e1⟩ := I.base.there b o e hx
    exact ⟨o', (hs.2 b (ab b o e)).trans e1⟩
  · by_cases hj : j = i
    · subst hj
      rw [List.getElem?_set_self (by rw [I.len]; exact (List.getElem?_eq_some_iff.mp hi).1)] at e2
      cases e2
    · rw [List.getElem?_set_ne (Ne.symm hj)] at e2
      obtain ⟨u', r', q⟩ := hl j y v' e1 e2 e3
      refine ⟨u', r', ?_⟩
      rcases q with ⟨k, e⟩ | ⟨k, c, e, z⟩
      · have : y ≠ x := fun e => hj (nodup_ix hN e1 (e ▸ hi))
        exact .inl ⟨k, by simp [this, e]⟩
      · exact .inr ⟨k, c, e, z.sameBut hs (I.cne y c e)⟩
  · obtain ⟨w', z⟩ := I.cell y c e
    exact ⟨w', z.sameBut hs (I.cne y c e)⟩
  · obtain ⟨e, n, ne, nf, d⟩ := I.pin p hp
    exact ⟨(hs.2 p.1 ne).trans e, n, ne, nf, d⟩
  · refine (I.hok b ob e).stay (fun c w' hc q => (hs.2 c ?_).trans q) (fun _ q => q) fun _ _ q => q
    rintro rfl
    rcases hc with rfl | hc
    · rw [I.free] at e; cases e
    · rw [I.free] at hc; cases hc
end
def Cx.held (X : Cx) (a : Addr) : Cx := { X with A := X.A.mark (some (.ref a)), calm := false }
section
variable {X : Cx} {pins : List (Addr × Obj)} {σ : St} {H : Hp} {s : Shared} {a : Addr} {o : Obj}
theorem Inv.held (I : Inv X pins σ H s) (a : Addr) : Inv (X.held a) pins σ H s :=
  ⟨⟨I.ok.mod, I.ok.kind, I.ok.glob, I.ok.blt, I.ok.above, I.ok.inj, I.ok.has, I.ok.cab, (fun z => by cases z), I.ok.frames, I.ok.stk, I.ok.exf, I.ok.bs, I.ok.bsz, I.ok.noex, I.ok.exfs, I.ok.funs, I.ok.frf⟩, I.os, I.bare, I.base, I.loc, I.cell, I.free, I.freeC, I.pin, I.hok, I.len⟩
def ErrO (o : Obj) (C : Addr) (d : Option Addr) : Prop := o.cls = .ref C ∧ o.dict = d ∧ ∃ vs, o.data = .fields vs
end
end L2
namespace L2
open PySem PySem.Spec PyProof.Rows KM
def ErrV (H : Hp) : Option Addr → Prop
  | none => True
  | some dx => ∃ fs, H dx = some (.xd fs)
section
variable {X : Cx} {N W G names : List Str} {er : Str → Addr} {x y : Str} {a : Addr} {o : Obj} {d : Option Addr} {pos : Pos}
theorem kcl (S : Sc X N W G) (g : Nat) (ER : ErrT X.K X.mg names er) (hy : y ∈ names) (hg : G[g]? = some y := by rfl) : QE X (.Name y pos) (tC (.ref (er y))) := by
  have q := S.gl y (List.mem_of_getElem? hg)
  exact ⟨pe_glob q.1 (ER.gl y hy) rfl q.2.1⟩
end
section
variable {a : Addr} {d : Option Addr} {c : V} {b : Bool} {H : Hp} {Q : VK} {σ : St} {E : XK} {C : Addr} {t : TA} {D : Ends}
theorem q_callX {sp : Sp} {Q : VK} : tCallX sp t σ H Q E = t σ H fun vs H1 => sp vs H1 Q E := rfl
theorem q_asgX {te : TEx} {g : TG} {W : St → XK} : tAsgX te g D W σ H = te σ H (fun x H1 => g x σ H1 D.nx) (W σ) := rfl
theorem q_ifX {c : TT} {u v : TSx} {W : St → XK} : tIfX c u v D W σ H = c σ H fun b H1 => if b = true then u D W σ H1 else v D W σ H1 := rfl
end
end L2
namespace L2
open PySem PySem.Spec PyProof.Rows KM
theorem boot_ValueError : bootBuiltins "ValueError" = some (.type "ValueError") := by decide +kernel
end L2
namespace L2
open PySem PySem.Spec PyProof.Rows KM
theorem dt_bls {K : PySem.W.Frag} {H : Hp} : ∀ bs : List Bool, DtAll K H (bs.map V.bl) (bs.map PyData.bool)
  | [] => .nil
  | b :: bs => .cons (.bl b) (dt_bls bs)
end L2
namespace L2
open PySem PySem.Spec PyProof.Rows KM
section
variable {k : Int} (t : Tok) (l : Addr) (dd : Option Addr) (it : Value) (n : Nat) (sl : Array (Option Value))
end
end L2
namespace L2
open PySem PySem.Spec PyProof.Rows KM
structure MDef (K : PySem.W.Frag) (C : Addr) (m qual : Str) (st : Stmt) : Prop where
  ex : ∃ f fd, Fun K m qual st f fd ∧ Meth K C m f
theorem mdef_mk {K : PySem.W.Frag} {C : Addr} {m qual : Str} {st : Stmt} {f : Addr} {oc : Value} {od an : Option Addr} {osl : Array (Option Value)} {kV doc pm cdv ct : Value}
    (a : PySem.W.findIn K (.ref C) m = some (some (.ref f))) (l : K.lookup f = some ⟨oc, od, .func (PySem.W.fnOf m qual (defArgs st) (defBody st) (defScope st) .none kV doc pm an cdv ct), osl⟩)
    (c : PySem.W.codeIn K cdv qual = true) (k : PySem.W.keepIn K (.ref f) = true) (i : PySem.W.isFn K (.ref f) = true) : MDef K C m qual st := ⟨f, _, fun_mk l c k, a, i, k⟩
def clsSt (s : Stmt) (j : Nat) : Stmt := match s with
  | .ClassDef _ _ _ body _ _ _ _ _ _ _ => body.getD j (.Pass ⟨0, 0, 0, 0⟩)
  | _ => .Pass ⟨0, 0, 0, 0⟩
structure FnM (P : Program) (w : World) (K : PySem.W.Frag) (mg : Str → Option Value) (base : Heap) (k : Nat) (C : Addr) (m : Str) (ps : List Str) (sp : Sp) : Prop where
  ex : ∃ f fd, FnOk P w K mg base (CXE P w) k f fd ps sp ∧ Meth K C m f ∧ Binds K fd ps []
section
variable {P : Program} {w : World} {K : PySem.W.Frag} {mg : Str → Option Value} {base : Heap} {k : Nat} {x m qual : Str} {C : Addr} {N ps G : List Str} {sp : Sp} {st : Stmt}
theorem FnOk.lift {f : Addr} {fd : FuncData} (F : FnOk P w K mg base CX0 k f fd ps sp) : FnOk P w K mg base (CXE P w) k f fd ps sp :=
  ⟨F.len, fun A outer s H args us vs Q E hr e0 hb hv hs => codeAny_mono (F.run A outer s H args us vs Q E hr e0 hb hv hs) fun r s' z => by
    cases r with
    | error e => exact False.elim z
    | ok fl => cases fl <;> exact z⟩
theorem MDef.gq (D : MDef K C m qual st) (S : DS (defScope st) N ps G)
    (hb : ∀ (kV doc pm : Value) (an : Option Addr) (cdv ct : Value) (us : List Value), us.length = ps.length → bindArgs (PySem.W.fnOf m qual (defArgs st) (defBody st) (defScope st) .none kV doc pm an cdv ct) ⟨us, []⟩ = pure (ps.zip us))
    (len : ∀ vs H Q E, sp vs H Q E → vs.length = ps.length)
    (hbody : ∀ (X : Cx), Sc X N N G → X.prog = P → X.w = w → X.K = K → X.mg = mg → X.base = base → X.calm = true → X.env.scope = defScope st → X.xe = (fun _ _ => False) → Room k X.A → X.A.units + 64 < cLine →
      ∀ (H : Hp) (vs : List V) (Q : VK) (E : XK), sp vs H Q E → ∃ t, QSs X (defBody st) t ∧ t { nx := fun _ H' => Q .non H', rt := Q } (L2.start N vs) H) : FnM P w K mg base (k + 1) C m ps sp := by
  obtain ⟨f, fd, F, M⟩ := D.ex
  refine ⟨f, fd, FnOk.lift ?_, M, F.binds hb⟩
  refine F.ok S.fs len fun cdv A outer s H vs Q E hr h => ?_
  obtain ⟨t, z, y⟩ := hbody _ S.cx rfl rfl rfl rfl rfl rfl rfl rfl hr hr.units H vs Q E h
  exact ⟨t, z.h, y⟩
end
section
variable {X : Cx} {N W G fields : List Str} {k n : Nat} {x f m : Str} {C : Addr} {ps : List Str} {sp : Sp} {p pos pos' apos : Pos} {e o value : Expr} {es : List Expr} {t : TA} {ta tv : TE} {E : XK}
end
section
variable {C : Addr} {f m : Str} {ta tv : TE} {σ : St} {H : Hp} {Q : VK} {D : Ends} {sp : Sp} {E : XK} {t : TA}
end
end L2
namespace L2
open PySem PySem.Spec PyProof.Rows KM
section
variable {K : PySem.W.Frag} {a r C dx : Addr} {fs : List (Str × V)} {H H' : Hp} {xs : List V}
end
end L2
namespace L2
open PySem PySem.Spec PyProof.Rows KM
end L2
namespace L2
open PySem PySem.Spec PyProof.Rows KM
end L2
namespace L2
open PySem PySem.Spec PyProof.Rows KM
end L2
namespace L2
open PySem PySem.Spec PyProof.Rows KM
end L2
namespace L2
open PySem PySem.Spec PyProof.Rows KM
end L2
namespace L2
open PySem PySem.Spec PyProof.Rows KM
end L2
namespace L2
open PySem PySem.Spec PyProof.Rows KM
end L2
namespace L2
open PySem PySem.Spec PyProof.Rows KM
theorem seqJ {A B : TS} {D : Ends} {σ : L2.St} {H : Hp} (I : L2.St → Hp → Prop) (h2 : ∀ σ' H', I σ' H' → B D σ' H') (h1 : ∀ R : L2.St → Hp → Prop, (∀ σ' H', I σ' H' → R σ' H') → A { D with nx := R } σ H) : tSeq A B D σ H := h1 (B D) h2
end L2
namespace L2
open PySem PySem.Spec PyProof.Rows KM
def ErrF (a C : Addr) (d : Option Addr) : Heap → Prop := fun h => ∃ oe, h.get? a = some oe ∧ ErrO oe C d
def errH (a C : Addr) (d : Option Addr) : HO := .ext (ErrF a C d)
theorem errH_ok {P : Program} {w : World} {H : Hp} {h : Heap} {a C : Addr} {d : Option Addr} {oe : Obj} (e : h.get? a = some oe) (o : ErrO oe C d) : ObjOk P w H h a (errH a C d) :=
  ⟨⟨oe, e, o⟩, ⟨oe, e⟩, fun h1 h2 ⟨o1, e1, p1⟩ k => ⟨o1, k _ e1, p1⟩⟩
section
variable {X : Cx} {pins : List (Addr × Obj)} {σ : St} {H : Hp} {s : Shared} {a : Addr} {o : HO}
theorem Inv.track (I : Inv X pins σ H s) (n : H a = none) (n0 : X.s₀.heap.get? a = none) (ne : a ≠ X.env.locals) (nc : ∀ x c, X.env.cells.lookup x = some c → c ≠ a) (np : ∀ p ∈ X.pn ++ pins, p.1 ≠ a) (new : ObjOk X.prog X.w (upd H a o) s.heap a o) : Inv X pins σ (upd H a o) s := by
  have ne' : ∀ b u, H b = some u → b ≠ a := fun b u e => ne_of_none e n
  refine ⟨I.ok, I.os, I.bare, ⟨I.base.keep, I.base.slot, fun b u e nb hx => ?_, I.base.there, fun b xs e => ?_, fun b u v e => ?_, fun b ps e => ?_⟩, I.loc, I.cell, ?_, fun x c e => ?_, fun p hp => ?_, fun b u e => ?_, I.len⟩
  · rw [upd_ne (fun z => by rw [z, n0] at e; cases e)]; exact I.base.free b u e nb hx
  · have := I.base.tups b xs e; rw [upd_ne (ne' _ _ this)]; exact this
  · have := I.base.frzs b u v e; rw [upd_ne (ne' _ _ this)]; exact this
  · obtain ⟨more, z⟩ := I.base.tbls b ps e; exact ⟨more, by rw [upd_ne (ne' _ _ z)]; exact z⟩
  · rw [upd_ne (Ne.symm ne)]; exact I.free
  · rw [upd_ne (nc x c e)]; exact I.freeC x c e
  · obtain ⟨e, q, r⟩ := I.pin p hp; exact ⟨e, by rw [upd_ne (np p hp)]; exact q, r⟩
  · by_cases hb : b = a
    · subst hb; rw [upd_same] at e; cases e; exact new
    · rw [upd_ne hb] at e
      exact (I.hok b u e).stay (fun c v _ q => q) (fun c q => by rw [upd_ne (ne' _ _ q)]; exact q) fun c xs q => by rw [upd_ne (ne' _ _ q)]; exact q
theorem Inv.unheld (hc : X.calm = true → X.A.handled = none) (hf : X.A.frames = some X.stack) (I : Inv (X.held a) pins σ H s) : Inv X pins σ H s :=
  ⟨⟨I.ok.mod, I.ok.kind, I.ok.glob, I.ok.blt, I.ok.above, I.ok.inj, I.ok.has, I.ok.cab, hc, hf, I.ok.stk, I.ok.exf, I.ok.bs, I.ok.bsz, I.ok.noex, I.ok.exfs, I.ok.funs, I.ok.frf⟩, I.os, I.bare, I.base, I.loc, I.cell, I.free, I.freeC, I.pin, I.hok, I.len⟩
theorem Sc.held {N W G : List Str} (S : Sc X N W G) : Sc (X.held a) N W G := ⟨S.eN, S.nd, S.vis, S.sto, S.gl⟩
end
def tTryH (names : List Str) (er : Str → Addr) (tb : TSx) (i : Nat) (y : Str) (th : Addr → TS) : TS := fun D σ H =>
  tb D (fun σ' C d H' => ∃ x, x ∈ names ∧ C = .ref (er x) ∧ isaE x y = true ∧ ∀ a, H' a = none → th a { nx := fun σ'' => D.nx (σ''.set i none), rt := D.rt, bk := fun σ'' => D.bk (σ''.set i none), ct := fun σ'' => D.ct (σ''.set i none) } (σ'.set i (some (.ref a))) (upd H' a (errH a (er x) d))) σ H
section
variable {X : Cx}
theorem stryH {N W G : List Str} {names : List Str} {er : Str → Addr} {y n : Str} {np hpos pos : Pos} {b0 : Stmt} {suite body : List Stmt} {rest : List ExceptHandler} {tb : TSx} {th : Addr → TS} (S : Sc X N W G) (g i : Nat)
    (hxe : X.xe = fun _ _ => False) (hc : X.calm = true) (ho : Own X) (hex : X.ex = []) (ER : ErrT X.K X.mg names er) (hy : y ∈ names) (hb : QSsx X body tb)
    (hh : ∀ (a : Addr), Sc (X.held a) N W G → QSs (X.held a) (b0 :: suite) (th a))
    (hk : X.env.scope.names.lookup n = some .local) (hg : G[g]? = some y := by rfl) (hi : N[i]? = some n := by rfl) (hw : W[i]? = some n := by rfl) :
    QS X (.Try body (.ExceptHandler (some (.Name y np)) (some n) (b0 :: suite) hpos :: rest) [] [] pos) (tTryH names er tb i y th) := by
  have qg := S.gl y (List.mem_of_getElem? hg)
  have qs := S.sto n (List.mem_of_getElem? hw)
  have hN : X.N.Nodup := by rw [S.eN]; exact S.nd
  have hiN : X.N[i]? = some n := by rw [S.eN]; exact hi
  refine ⟨fun pins s σ H D I h => ?_⟩
  refine wpAny_Try_except (wpAny_mono (hb.h pins s σ H D _ I h) (fun f s1 q => ?_) fun e s1 ⟨σ', H0, s0, I0, z⟩ => ?_)
  · cases f with
    | next => exact wpAny_execs_nil q
    | ret v => exact q
    | brk => exact q
    | cont => exact q
  obtain ⟨a, T, C, d, H', rfl, os, bare, un, hok, na, nT, ⟨fl, ha, hT⟩, x, hx, hC, hxy, w⟩ := z
  cases hC
  have J : Inv X pins σ' H' s1 := I0.call' (ch := []) os un hok bare fun b z => absurd z (by simp)
  have fr : X.A.frames = some (X.env :: X.outer) := by rw [I.ok.frames, ho.1]
  have stk : s1.heap.FunFrames X.base (X.env :: X.outer) := by rw [← ho.1]; exact J.stack
  refine note_on fr stk ho.2 fl fun h4 T4 nT4 f4 k4 => ?_
  refine flight_none (l := frs (X.env :: X.outer)) f4 fun h5 f5 k5 => ?_
  have k45 : Kept (frs (X.env :: X.outer)) [a, T] s1.heap h5 := k4.trans k5 fun b o e z => by rw [List.mem_singleton.mp z, nT4] at e; cases e
  have step : ∀ (bad : List Addr) (h2 : Heap), (∀ b ∈ bad, s0.heap.get? b = none ∧ H' b = none) → Kept (frs (X.env :: X.outer)) bad s1.heap h2 → Inv X pins σ' H' { s1 with heap := h2 } := fun bad h2 hbad k => by
    refine I0.call' (ch := []) os ?_ ?_ bare fun b z => absurd z (by simp)
    · exact un_exc un (fun b hb => (hbad b hb).1) (fun b o e n1 n2 => k.1 b o e (by rw [← ho.1]; exact n1) n2) fun b o e _ n2 => k.2 b o e n2
    · exact hok_exc hok (fun b o e n1 n2 => k.1 b o e (by rw [← ho.1]; exact n1) n2) J.stkFree fun b hb => (hbad b hb).2
  have bad1 : ∀ b ∈ [a, T], s0.heap.get? b = none ∧ H' b = none := fun b hb => by
    rcases List.mem_cons.mp hb with z | z
    · rw [z]; exact ⟨na, ha⟩
    · rw [List.mem_singleton.mp z]; exact ⟨nT, hT⟩
  have I5 : Inv X pins σ' H' { s1 with heap := h5 } := step _ _ bad1 k45
  obtain ⟨oe5, vs5, oT5, ts5, he5, hc5, hd5, hdt5, _⟩ := id f5
  refine wpAny_handleBy_cons (codeAny_handlers_test (ld_glob (X := X.held a) (I5.held a) qg.1 (ER.gl y hy) ?_ qg.2.1)) (by intro q; cases q)
  refine exc_match (K := X.K) I5.kIn he5 hc5 (ER.ty y hy) (ER.cls y hy) ((ER.mat x hx y hy).trans (by rw [hxy])) ?_
  show codeAny _ _ _ _ _
  refine codeAny_handlers_suite_as ?_
  refine flight_none (l := frs (X.env :: X.outer)) f5 fun h6 f6 k6 => ?_
  have k56 : Kept (frs (X.env :: X.outer)) [a, T] s1.heap h6 := k45.trans k6 fun b o e z => by rw [List.mem_singleton.mp z, nT4] at e; cases e
  have I6 : Inv X pins σ' H' { s1 with heap := h6 } := step _ _ bad1 k56
  obtain ⟨oe6, vs6, oT6, ts6, he6, hc6, hd6, hdt6, _⟩ := id f6
  have nal : a ≠ X.env.locals := fun z => by
    obtain ⟨m, ⟨o, es, ep, e1, e2, _⟩, _⟩ := I6.loc
    rw [← z, he6] at e1; cases e1
    rw [hdt6] at e2; cases e2
  have n0 : X.s₀.heap.get? a = none := by
    cases z : X.s₀.heap.get? a with
    | none => rfl
    | some o =>
      obtain ⟨o', e'⟩ := I0.base.there a o z (by rw [hex]; simp)
      rw [na] at e'; cases e'
  have nc : ∀ x c, X.env.cells.lookup x = some c → c ≠ a := fun x c e z => by
    obtain ⟨v, o, e1, _⟩ := I0.cell x c e
    rw [z, na] at e1; cases e1
  have np : ∀ p ∈ X.pn ++ pins, p.1 ≠ a := fun p hp z => by
    have e1 := (I0.pin p hp).1
    rw [z, na] at e1; cases e1
  have I7 : Inv (X.held a) pins σ' (upd H' a (errH a (er x) d)) { s1 with heap := h6 } := (I6.track ha n0 nal nc np (errH_ok he6 ⟨hc6, hd6, vs6, hdt6⟩)).held a
  refine store_ok (X := X.held a) (v := .ref a) I7 hN hiN qs.1 rfl (fun s7 I8 => ?_) qs.2
  refine wpAny_mono ((hh a S.held).h pins s7 _ _ _ I8 (w a ha)) (fun f s8 q => ?_) fun e s8 z => ?_
  · cases f with
    | next =>
      obtain ⟨σ8, H8, I9, q⟩ := q
      exact goes_ok (I9.unheld I.ok.hd I.ok.frames) hN hiN hk fun s9 I10 => ⟨_, H8, I10, q⟩
    | brk =>
      obtain ⟨σ8, H8, I9, q⟩ := q
      exact goes_ok (I9.unheld I.ok.hd I.ok.frames) hN hiN hk fun s9 I10 => ⟨_, H8, I10, q⟩
    | cont =>
      obtain ⟨σ8, H8, I9, q⟩ := q
      exact goes_ok (I9.unheld I.ok.hd I.ok.frames) hN hiN hk fun s9 I10 => ⟨_, H8, I10, q⟩
    | ret u =>
      obtain ⟨v, σ8, H8, I9, r, q⟩ := q
      exact goes_ok (I9.unheld I.ok.hd I.ok.frames) hN hiN hk fun s9 I10 => ⟨v, _, H8, I10, r, q⟩
  · have z' : X.xe e s8 := z
    rw [hxe] at z'; exact z'.elim
end
section
variable {P : Program} {w : World} {K : PySem.W.Frag} {mg : Str → Option Value} {base : Heap} {k : Nat} {x : Str} {N ps G : List Str} {sp : Sp} {st : Stmt}
theorem Def.gz (D : Def K mg x st) (S : DS (defScope st) N ps G)
    (hb : ∀ (kV doc pm : Value) (an : Option Addr) (cdv ct : Value) (us : List Value), us.length = ps.length → bindArgs (PySem.W.fnOf x x (defArgs st) (defBody st) (defScope st) .none kV doc pm an cdv ct) ⟨us, []⟩ = pure (ps.zip us))
    (len : ∀ vs H Q E, sp vs H Q E → vs.length = ps.length)
    (hbody : ∀ (X : Cx), Sc X N N G → X.prog = P → X.w = w → X.K = K → X.mg = mg → X.base = base → X.calm = true → X.env.scope = defScope st → Own X → X.ex = [] → X.xe = (fun _ _ => False) → Room k X.A → X.A.units + 64 < cLine →
      ∀ (H : Hp) (vs : List V) (Q : VK) (E : XK), sp vs H Q E → ∃ t, QSs X (defBody st) t ∧ t { nx := fun _ H' => Q .non H', rt := Q } (L2.start N vs) H) : Fn P w K mg base (k + 1) x ps sp := by
  refine D.fn S.fs hb len fun f cdv A outer s H vs Q E hr h => ?_
  obtain ⟨t, z, y⟩ := hbody _ S.cx rfl rfl rfl rfl rfl rfl rfl ⟨rfl, rfl⟩ rfl rfl hr hr.units H vs Q E h
  exact ⟨t, z.h, y⟩
structure RoomH (k : Nat) (A : Around) : Prop where
  dp : A.depth + 3 * k + 5 < recursionLimit
  un : A.units + 16 * k + 200 < cLine
theorem Room.h {k : Nat} {A : Around} (r : Room k A) : RoomH k A := ⟨r.dp, r.un⟩
end
section
variable {X : Cx} {N W G : List Str} {k m : Nat} {x : Str} {ps : List Str} {sp : Sp} {p pos : Pos} {e : Expr} {es : List Expr} {t : TA}
end
section
variable {X : Cx} {N W G names : List Str} {er : Str → Addr} {x y : Str} {a : Addr} {d : Option Addr} {pos : Pos}
theorem err_inst {pins : List (Addr × Obj)} {σ : St} {H : Hp} {s : Shared} (I : Inv X pins σ H s) (h : H a = some (errH a (er x) d)) (v : ErrV H d) : ∃ o od, PySem.W.InstAt s.heap a o (er x) od := by
  obtain ⟨⟨o, e, h1, h2, vs, h3⟩, _⟩ := I.hok a _ h
  have hn : PySem.W.notCls o = true := by unfold PySem.W.notCls; rw [h3]
  cases d with
  | none => exact ⟨o, none, ⟨e, h1, hn, by rw [h2]; trivial⟩⟩
  | some dx =>
    obtain ⟨fs, q⟩ := v
    obtain ⟨u, z⟩ := I.hok.there q
    exact ⟨o, some u, ⟨e, h1, hn, by rw [h2]; exact z⟩⟩
def rIsX (names : List Str) (er : Str → Addr) (y : Str) : List V → Hp → VK → Prop := fun xs H Q => ∃ a x d, xs = [.ref a, .ref (er y)] ∧ x ∈ names ∧ H a = some (errH a (er x) d) ∧ ErrV H d ∧ Q (.bl (isaE x y)) H
def rIsXV (names : List Str) (er : Str → Addr) : List V → Hp → VK → Prop := fun xs H Q => ∃ a x d, xs = [.ref a, .ty "ValueError"] ∧ x ∈ names ∧ H a = some (errH a (er x) d) ∧ ErrV H d ∧ Q (.bl true) H
theorem call_isX (ER : ErrT X.K X.mg names er) (hy : y ∈ names) : CallR X (.builtin "isinstance") (rIsX names er y) := by
  intro pins s σ H xs us Q I r h
  obtain ⟨a, x, d, rfl, hx, hH, v, q⟩ := h
  obtain ⟨u1, u2, rfl, r1, r2⟩ := r.two
  cases (show u1 = Value.ref a from r1)
  cases (show u2 = Value.ref (er y) from r2)
  obtain ⟨o, od, J⟩ := err_inst I hH v
  exact PySem.W.kia_one (kitx_exc (ER.cls x hx)) I.kIn J (ER.isi x hx y hy) (by intro z; cases z) fun tk => ⟨.bl _, H, I.tok tk, rfl, q⟩
theorem call_isXV (ER : ErrT X.K X.mg names er) : CallR X (.builtin "isinstance") (rIsXV names er) := by
  intro pins s σ H xs us Q I r h
  obtain ⟨a, x, d, rfl, hx, hH, v, q⟩ := h
  obtain ⟨u1, u2, rfl, r1, r2⟩ := r.two
  cases (show u1 = Value.ref a from r1)
  cases (show u2 = Value.type "ValueError" from r2)
  obtain ⟨o, od, J⟩ := err_inst I hH v
  exact PySem.W.kia_one (kitx_exc (ER.cls x hx)) I.kIn J (ER.val x hx) (by intro z; cases z) fun tk => ⟨.bl _, H, I.tok tk, rfl, q⟩
end
section
variable {X : Cx} {N W G fields : List Str} {k n : Nat} {x m : Str} {C : Addr} {ps : List Str} {sp : Sp} {p pos apos : Pos} {e o : Expr} {es : List Expr} {t : TA} {ta : TE}
end
end L2
namespace L2
open PySem PySem.Spec PyProof.Rows KM
def endsV : List Value → Bool
  | [] => false
  | v :: r => (v :: r == vmro) || (match v with | .ref _ => endsV r | _ => false)
theorem endsV_has {t : String} : ∀ {l : List Value}, endsV l = true → l.contains (.type t) = vmro.contains (.type t)
  | [], e => by cases e
  | v :: r, e => by
    unfold endsV at e
    rcases Bool.or_eq_true_iff.mp e with q | q
    · rw [beq_iff_eq.mp q]
    · cases v with
      | ref a => rw [List.contains_cons, endsV_has (l := r) q]; rfl
      | _ => cases q
theorem endsV_pass (self : Value) : ∀ {l : List Value}, endsV l = true → refuseLoop self "__setattr__" l = pure ()
  | [], e => by cases e
  | v :: r, e => by
    unfold endsV at e
    rcases Bool.or_eq_true_iff.mp e with q | q
    · rw [beq_iff_eq.mp q]; exact PySem.F.store_ValueError.passes self
    · cases v with
      | ref a => rw [refuseLoop_ref]; exact endsV_pass self q
      | _ => cases q
structure ShE (h : Heap) (C : Addr) (bm : List Value) : Prop where
  obj : ∃ nm qn N bs sn sub ab col dd k0 k1 k2 k3 k5, h.get? C = some (excClassObj nm qn C N bs bm true sn sub ab col dd k0 k1 k2 k3 k5 "ValueError.__new__")
  ends : endsV bm = true
def shapeE (K : PySem.W.Frag) (C : Addr) : Bool := match K.lookup C with
  | some ⟨.type "type", _, .cls cd, sl⟩ => (match cd.mro, sl.toList with
    | .ref C' :: bm, [_, _, _, _, some (.builtin n), _] => C' == C && n == "ValueError.__new__" && !cd.hasDel && cd.hasDict && endsV bm
    | _, _ => false)
  | _ => false
theorem shape_of {K : PySem.W.Frag} {h : Heap} {C : Addr} (X : K.In h) (q : shapeE K C = true) : ∃ bm, ShE h C bm ∧ ∃ cd, PySem.W.clsIn K C = some cd ∧ cd.hasDict = true ∧ cd.mro = .ref C :: bm := by
  unfold shapeE at q
  split at q
  · rename_i dd cd sl ho
    split at q
    · rename_i C' bm k0 k1 k2 k3 n k5 hm hs
      simp only [Bool.and_eq_true, beq_iff_eq, Bool.not_eq_true'] at q
      obtain ⟨⟨⟨⟨q1, q2⟩, q3⟩, q4⟩, q5⟩ := q
      subst q1 q2
      have hc : PySem.W.clsIn K C' = some cd := by unfold PySem.W.clsIn; rw [ho]
      refine ⟨bm, ⟨?_, q5⟩, cd, hc, q4, hm⟩
      obtain ⟨nm, bs, mro, ns, qn, hd, sn, sub, ab, col, del⟩ := cd
      dsimp only at hm q3 q4
      subst hm q3 q4
      obtain ⟨l⟩ := sl
      dsimp only at hs
      subst hs
      exact ⟨nm, qn, ns, bs, sn, sub, ab, col, dd, k0, k1, k2, k3, k5, X _ _ ho⟩
    · cases q
  · cases q
abbrev excObj (C t : Addr) (d : Option Addr) : Obj := { cls := .ref C, dict := d, data := .fields #[.ref t, .none, .none, .none, .bool false, .none] }
abbrev argTup (us : List Value) : Obj := { cls := .type "tuple", data := .seq us.toArray }
section
variable {M : Model} {prog : Program} {w : World} {A : Around} {E : Value → Shared → Prop} {R : Result → Shared → Prop} {h : Heap} {g : Array GenState} {d : Drawn} {t : Nat} {os : OsState} {C : Addr} {bm us : List Value} {K : PySem.W.Frag}
theorem err_chk {Q : Unit → Shared → Prop} (S : ShE h C bm) (q : Q () ⟨h, g, d, t, os⟩) : wpAny M A (checkBuiltinCall "ValueError.__new__" ⟨.ref C :: us, []⟩) Q E ⟨h, g, d, t, os⟩ := by
  obtain ⟨⟨nm, qn, N, bs, sn, sub, ab, col, dd, k0, k1, k2, k3, k5, hC⟩, hb⟩ := S
  have FB := PySem.F.excBase_ValueError
  have hv : (Value.ref C :: bm).contains (.type "ValueError") = true := by rw [List.contains_cons, endsV_has hb, show vmro.contains (.type "ValueError") = true by decide +kernel]; rfl
  have st := FB.noStar
  simp only [checkBuiltinCall, FB.newKind, FB.newSplit, FB.newRow]
  repeat (first | refine wpAny_loadPart_at hC ?_ | (refine wpAny_isSubtype_exc hC ?_; rw [hv]) | refine wpAny_staticBase_exc hC ?_ | refine wpAny_madeBy_exc hC ?_ | simp only [bne_self_eq_false, Bool.false_eq_true, if_false] | wp_step)
  exact q
theorem err_new (S : ShE h C bm) (hl : us.length ≤ sizeLine) (q : R (.ok (.ret (.ref (h.objs.size + 1)))) ⟨(h.push (argTup us)).push (excObj C h.objs.size none), g, d, t, os⟩) : codeAny (model prog w) A (.builtin "ValueError.__new__" ⟨.ref C :: us, []⟩) R ⟨h, g, d, t, os⟩ := by
  obtain ⟨⟨nm, qn, N, bs, sn, sub, ab, col, dd, k0, k1, k2, k3, k5, hC⟩, hb⟩ := S
  have FB := PySem.F.excBase_ValueError
  have e1 := FB.ends
  have b1 : (Value.ref C :: bm).contains (.type "ValueError") = true := by rw [List.contains_cons, endsV_has hb, show vmro.contains (.type "ValueError") = true by decide +kernel]; rfl
  have b2 : (Value.ref C :: bm).contains (.type "AttributeError") = false := by rw [List.contains_cons, endsV_has hb, show vmro.contains (.type "AttributeError") = false by decide +kernel]; rfl
  have b3 : (Value.ref C :: bm).contains (.type "NameError") = false := by rw [List.contains_cons, endsV_has hb, show vmro.contains (.type "NameError") = false by decide +kernel]; rfl
  refine codeAny_builtinAt FB.entry ?_; unfold Builtin.«BaseException.__new__»
  refine PySem.wpAt_bind ?_
  show PySem.wpAt _ _ _ (stack >>= _) _ _ _; refine PySem.wpAt_bind (PySem.wpAt_stack fun p below => PySem.wpAt_of_wpAny ?_)
  wp_walk
  refine PySem.wpAt_of_wpAny ?_
  rw [FB.owner]
  repeat (first | with_reducible refine wpAny_madeHere_exc FB.canon hC ?_ | with_reducible refine wpAny_loadPart_at hC ?_ | (with_reducible refine wpAny_isSubtype_exc hC ?_; first | rw [b1] | rw [b2] | rw [b3]) | wp_step)
  show R _ _; rw [Heap.size_push]; exact q
theorem make_err {f : Addr} (X : K.In h) (S : ShE h C bm) (hl : us.length ≤ sizeLine) (hi : PySem.W.findIn K (.ref C) "__init__" = some (some (.ref f))) (hf : PySem.W.typeIn K (.ref f) = some (.type "function"))
    (hcl : PySem.W.specialIn K (.ref C) "__call__" = some (some (.builtin "type.__call__"))) (hty : PySem.W.instIn K (.ref C) (.type "type") = some true)
    (q : codeAny (model prog w) (A.under (.builtin "type.__call__" ⟨.ref C :: us, []⟩)) (.call (.ref f) ⟨.ref (h.objs.size + 1) :: us, []⟩) (PySem.W.InitBack (h.objs.size + 1) R) ⟨(h.push (argTup us)).push (excObj C h.objs.size none), g, d, t, os⟩) :
    codeAny (model prog w) A (.call (.ref C) ⟨us, []⟩) R ⟨h, g, d, t, os⟩ := by
  have S0 := S
  obtain ⟨⟨nm, qn, N, bs, sn, sub, ab, col, dd, k0, k1, k2, k3, k5, hC⟩, hb⟩ := S
  have FB := PySem.F.excBase_ValueError
  have cal := PySem.W.looks_specialIn (M := model prog w) X hcl
  refine codeAny_of_tree ?_
  show wpAny _ _ (callAny (.ref C) _) _ _ _; refine PySem.W.nd_load hC ?_
  show wpAny _ _ (callAny.viaDunder (.ref C) _) _ _ _; unfold callAny.viaDunder
  refine wpAny_bind (cal.at ?_); dsimp only; rw [tc_bind]
  refine wpAny_bind (wpAny_pure (wpAny_bind (wpAny_pure (wpAny_pure (a := Fin.again (.call (.builtin "type.__call__") ⟨.ref C :: us, []⟩)) (And.intro rfl ?_)))))
  refine codeAny_call_builtin_at (Code.quiet_builtin _ (by decide +kernel)) entry_typeCall (PySem.W.check_slot tc_kind tc_split (PySem.W.looks_instIn X hty) (PySem.W.tc_args _ _ _) ?_)
  unfold Builtin.«type.__call__»
  repeat (first | with_reducible refine wpAny_loadPart_at hC ?_ | with_reducible refine wpAny_madeBy_exc hC ?_ | with_reducible refine wpAny_call ?_ | wp_step)
  refine codeAny_call_builtin_code (Code.quiet_builtin _ FB.quiet) (err_chk S0 (err_new S0 hl ?_)); show wpAny _ _ _ _ _ _
  have k : ∀ b o, h.get? b = some o → ((h.push (argTup us)).push (excObj C h.objs.size none)).get? b = some o := fun b o e => Heap.get?_push_of_some _ (Heap.get?_push_of_some _ e)
  have X1 := X.keeps k
  have hx : ((h.push (argTup us)).push (excObj C h.objs.size none)).get? (h.objs.size + 1) = some (excObj C h.objs.size none) := by heap_get
  have cc : (Value.ref C :: bm).contains (.ref C) = true := by simp
  have hC1 := k _ _ hC
  have i1 := PySem.W.looks_findIn (M := model prog w) X1 hi
  have b1 := PySem.W.bind_fn (M := model prog w) X1 (.ref (h.objs.size + 1)) hf
  unfold isInstance
  repeat (first | with_reducible refine wpAny_loadPart_at hx ?_ | (with_reducible refine wpAny_isSubtype_exc hC1 ?_; rw [cc]) | wp_step)
  show wpAny _ _ (typeLookup (.ref C) _) _ _ _; refine i1.at ?_
  refine wpAny_holding (wpAny_bind (b1.at ?_)); refine wpAny_bind (wpAny_call (codeAny_mono q fun r s' z => ?_))
  rcases r with e | (v | _ | _ | _) <;> first | exact z | exact z.elim | skip
  obtain ⟨rfl, z⟩ := z
  wp_walk; exact z
end
section
variable {prog : Program} {w : World} {A : Around} {E : Value → Shared → Prop} {s : Shared} {C e t : Addr} {K : PySem.W.Frag} {name : Str} {v : Value}
theorem set_err {Q : Unit → Shared → Prop} (X : K.In s.heap) (he : s.heap.get? e = some (excObj C t none)) (hs : PySem.W.findIn K (.ref C) "__setattr__" = some (some (.builtin "object.__setattr__"))) (ha : PySem.W.findIn K (.ref C) name = some none)
    (hsh : shapeE K C = true) (q : ∀ h', h'.get? e = some (excObj C t (some s.heap.objs.size)) → h'.Ns1 s.heap.objs.size (fun y => if y = name then some v else none) → (∀ b o, b ≠ e → s.heap.get? b = some o → h'.get? b = some o) → Q () { s with heap := h', toks := s.toks + 2 }) :
    wpAny (model prog w) A (setAttr (.ref e) name v) Q E s := by
  have J : PySem.W.InstAt s.heap e (excObj C t none) C none := ⟨he, rfl, rfl, trivial⟩
  obtain ⟨bm, S, cd, hc, hd, hm⟩ := shape_of X hsh
  have SF := PySem.F.store_object
  have L1 : PySem.W.Looks (model prog w) s.heap (mroOf (.ref C)) (.ref C :: bm) := by rw [← hm]; exact (PySem.W.looks_clsIn X hc).andThen .now
  have hob : (Value.ref C :: bm).contains (.type "object") = true := by rw [List.contains_cons, endsV_has S.ends, show vmro.contains (.type "object") = true by decide +kernel]; rfl
  have L2 : PySem.W.Looks (model prog w) s.heap (isInstance (.ref e) (.type "object")) true := J.type.andThen (PySem.W.looks_mroIn X (by unfold PySem.W.mroIn; rw [hc, Option.bind_some, hm, if_neg (by simp), hob]))
  refine PySem.W.set_plain X J hs ?_
  refine codeAny_call_builtin SF.slot.plain SF.entry (@PySem.W.check_slot (model prog w) _ _ { s with toks := s.toks + 1 } "object.__setattr__" "object" "__setattr__" (.ref e) [.str name s.toks, v] [] _ SF.kind SF.split L2 (SF.args (.ref e) (.str name s.toks) v) ?_)
  rw [PySem.W.osa_eq, refuse_eq]
  refine wpAny_bind (wpAny_bind (PySem.W.Looks.here (s := { s with toks := s.toks + 1 }) J.type (wpAny_bind (PySem.W.Looks.here (s := { s with toks := s.toks + 1 }) L1 ?_))))
  rw [refuseLoop_ref, endsV_pass _ S.ends]
  refine wpAny_pure (wpAny_bind (PySem.W.Looks.here (s := { s with toks := s.toks + 1 }) J.type (wpAny_bind (PySem.W.Looks.here (s := { s with toks := s.toks + 1 }) (PySem.W.looks_findIn X ha) (wpAny_bind (wpAny_pure ?_))))))
  have hx : s.heap.get? e = some ⟨.ref C, none, .fields #[.ref t, .none, .none, .none, .bool false, .none], #[]⟩ := he
  refine wpAny_bind (wpAny_pure (wpAny_bind (wpAny_bind (wpAny_loadPart hx (wpAny_bind (PySem.W.Looks.here (s := { s with toks := s.toks + 1 }) (PySem.W.looks_clsIn X hc) ?_))))))
  rw [hd]
  have hx1 : (s.heap.push PySem.W.emptyDict).get? e = some (excObj C t none) := Heap.get?_push_of_some _ he
  have hes : e ≠ s.heap.objs.size := Nat.ne_of_lt (Heap.lt_size he)
  refine wpAny_bind (wpAny_alloc' ?_)
  refine wpAny_bind (wpAny_update' hx1 ?_)
  refine wpAny_pure ?_
  have hx2 : ((s.heap.push PySem.W.emptyDict).update e fun o => { cls := o.cls, dict := some s.heap.objs.size, data := o.data, slots := o.slots }).get? e = some (excObj C t (some s.heap.objs.size)) := Heap.get?_update_self _ hx1 rfl
  have hgd : ((s.heap.push PySem.W.emptyDict).update e fun o => { cls := o.cls, dict := some s.heap.objs.size, data := o.data, slots := o.slots }).get? s.heap.objs.size = some PySem.W.emptyDict := (Heap.get?_update_ne _ _ _ _ hes.symm).trans (Heap.get?_push_at rfl rfl)
  have hnd : ((s.heap.push PySem.W.emptyDict).update e fun o => { cls := o.cls, dict := some s.heap.objs.size, data := o.data, slots := o.slots }).Ns s.heap.objs.size (fun _ => none) := ⟨_, #[], _, hgd, rfl, fun e he => absurd he (by simp), fun _ => rfl⟩
  show wpAny _ _ (Builtin.ObjectAttr.storeInDict s.heap.objs.size (.str name s.toks) name v) _ _ _
  unfold Builtin.ObjectAttr.storeInDict Builtin.ObjectAttr.newKeyGuard
  refine wpAny_bind (wpAny_pure (wpAny_bind (wpAny_nsSet1 (Heap.Ns1.of_empty hnd) fun h' hn' hs => ?_)))
  obtain ⟨oD, esD, epD, hoD, hdD, hcD⟩ := hn'.count (Within.cons name v Within.nil)
  refine wpAny_bind (wpAny_lookBehind hoD (by rw [hdD]; exact pastItsLine_dict (Nat.le_trans hcD (by rw [List.length_cons, List.length_nil, sizeLine_eq]; omega))) ?_)
  refine wpAny_pure ?_
  show Q _ _
  refine q h' ((hs.2 e hes).trans hx2) hn' fun b o hb e => ?_
  exact (hs.2 b (Nat.ne_of_lt (Heap.lt_size e))).trans ((Heap.get?_update_ne _ _ _ _ hb).trans (Heap.get?_push_of_some _ e))
theorem raise_err {M : Model} {env : Env} {x : Sem Value} {Q : Flow → Shared → Prop} (hh : A.handled = none) (h : wpAny M A x (fun v s1 => ∃ e t C d bm, v = .ref e ∧ ShE s1.heap C bm ∧ s1.heap.get? e = some (excObj C t d) ∧ E (.ref e) s1) E s) : wpAny M A (raiseStmt env (some x) none) Q E s := by
  unfold raiseStmt
  refine wpAny_bind (wpAny_mono h (fun v s1 h1 => ?_) fun _ _ x => x)
  obtain ⟨e, t, C, d, bm, rfl, ⟨⟨nm, qn, N, bs, sn, sub, ab, col, dd, k0, k1, k2, k3, k5, hC⟩, hb⟩, he, hE⟩ := h1
  have hv : (Value.ref C :: bm).contains (.type "BaseException") = true := by rw [List.contains_cons, endsV_has hb, show vmro.contains (.type "BaseException") = true by decide +kernel]; rfl
  obtain ⟨hp, g, dr, tk, os⟩ := s1
  repeat (first | with_reducible refine wpAny_loadPart_at he ?_ | with_reducible refine wpAny_loadPart_at hC ?_ | (with_reducible refine wpAny_isSubtype_exc hC ?_; rw [hv]) | wp_step)
  exact wpAny_raiseNew_none hh hE
end
end L2
namespace L2
open PySem PySem.Spec PyProof.Rows KM
structure IniE (K : PySem.W.Frag) (C L : Addr) : Prop where
  sh : shapeE K C = true
  ini : PySem.W.findIn K (.ref C) "__init__" = PySem.W.findIn K (.ref L) "__init__"
  cal : PySem.W.specialIn K (.ref C) "__call__" = some (some (.builtin "type.__call__"))
  ty : PySem.W.instIn K (.ref C) (.type "type") = some true
  sa : PySem.W.findIn K (.ref C) "__setattr__" = some (some (.builtin "object.__setattr__"))
  no : PySem.W.findIn K (.ref C) "line" = some none
  kp : PySem.W.keepIn K (.ref C) = true
def iniOne (K : PySem.W.Frag) (C L : Addr) : Bool :=
  shapeE K C && PySem.W.findIn K (.ref C) "__init__" == PySem.W.findIn K (.ref L) "__init__" && PySem.W.specialIn K (.ref C) "__call__" == some (some (.builtin "type.__call__")) && PySem.W.instIn K (.ref C) (.type "type") == some true &&
  PySem.W.findIn K (.ref C) "__setattr__" == some (some (.builtin "object.__setattr__")) && PySem.W.findIn K (.ref C) "line" == some none && PySem.W.keepIn K (.ref C)
def iniOk (K : PySem.W.Frag) (names : List Str) (er : Str → Addr) : Bool := names.all fun x => !hasIn x || iniOne K (er x) (er "LineError")
def IniT (K : PySem.W.Frag) (names : List Str) (er : Str → Addr) : Prop := ∀ x ∈ names, hasIn x = true → IniE K (er x) (er "LineError")
theorem iniT_of {K : PySem.W.Frag} {names : List Str} {er : Str → Addr} (e : iniOk K names er = true) : IniT K names er := fun x hx hh => by
  have z := List.all_eq_true.mp e x hx
  rw [hh] at z
  simp only [Bool.not_true, Bool.false_or, iniOne, Bool.and_eq_true, beq_iff_eq] at z
  obtain ⟨⟨⟨⟨⟨⟨a, b⟩, c⟩, d⟩, e⟩, f⟩, g⟩ := z
  exact ⟨a, b, c, d, e, f, g⟩
def ErrM (a C : Addr) (d : Option Addr) : Heap → Prop := fun h => ∃ t, h.get? a = some (excObj C t d)
def mkH (a C : Addr) (d : Option Addr) : HO := .ext (ErrM a C d)
theorem mkH_ok {P : Program} {w : World} {H : Hp} {h : Heap} {a C t : Addr} {d : Option Addr} (e : h.get? a = some (excObj C t d)) : ObjOk P w H h a (mkH a C d) := ⟨⟨t, e⟩, ⟨_, e⟩, fun h1 h2 ⟨t1, e1⟩ k => ⟨t1, k _ e1⟩⟩
theorem xd_ok {P : Program} {w : World} {H : Hp} {h : Heap} {dx : Addr} {y : V} {u : Value} (n : h.Ns1 dx (fun z => if z = "line" then some u else none)) (r : RelV y u) : ObjOk P w H h dx (.xd [("line", y)]) := by
  refine ⟨_, n, fun f => ?_⟩
  show RelO (List.lookup f [("line", y)]) (if f = "line" then some u else none)
  by_cases c : f = "line"
  · have hb : (f == ("line" : Str)) = true := beq_iff_eq.mpr c
    simp only [List.lookup, hb, if_pos c]; exact r
  · have hb : (f == ("line" : Str)) = false := beq_eq_false_iff_ne.mpr c
    simp only [List.lookup, hb, if_neg c]; exact trivial
def rmv (H : Hp) (a : Addr) : Hp := fun b => if b = a then none else H b
section
variable {X : Cx} {pins : List (Addr × Obj)} {σ : St} {H : Hp} {s : Shared} {a : Addr} {φ ψ : Heap → Prop}
theorem Inv.drop (I : Inv X pins σ H s) (e : H a = some (.ext φ)) : Inv X pins σ (rmv H a) s := by
  have r1 : ∀ b, H b = none → rmv H a b = none := fun b h => by unfold rmv; split <;> first | rfl | exact h
  have r2 : ∀ b u, H b = some u → (∀ ψ, u ≠ .ext ψ) → rmv H a b = some u := fun b u h n => by
    unfold rmv
    rw [if_neg fun z => by rw [z, e] at h; cases h; exact n _ rfl]
    exact h
  refine ⟨I.ok, I.os, I.bare, ⟨I.base.keep, I.base.slot, fun b u q n hx => r1 b (I.base.free b u q n hx), I.base.there, fun b xs q => r2 b _ (I.base.tups b xs q) (fun _ z => by cases z), fun b u v q => r2 b _ (I.base.frzs b u v q) (fun _ z => by cases z), fun b ps q => ?_⟩, I.loc, I.cell, r1 _ I.free, fun x c q => r1 _ (I.freeC x c q), fun p hp => ?_, fun b u q => ?_, I.len⟩
  · obtain ⟨more, z⟩ := I.base.tbls b ps q; exact ⟨more, r2 b _ z (fun _ z => by cases z)⟩
  · obtain ⟨q1, q2, q3⟩ := I.pin p hp; exact ⟨q1, r1 _ q2, q3⟩
  · have hb : H b = some u := by
      unfold rmv at q
      by_cases c : b = a
      · rw [if_pos c] at q; cases q
      · rw [if_neg c] at q; exact q
    exact (I.hok b u hb).stay (fun c v _ q => q) (fun c q => r2 c _ q (fun _ z => by cases z)) fun c xs q => r2 c _ q (fun _ z => by cases z)
theorem Inv.less (I : Inv X pins σ H s) (e : H a = some (.ext φ)) (new : ObjOk X.prog X.w (upd H a (.ext ψ)) s.heap a (.ext ψ)) : Inv X pins σ (upd H a (.ext ψ)) s :=
  I.write (x := a) (e := a) (o := .ext ψ) (h' := s.heap) (t' := s.toks) (by rw [e]; exact True.intro) (.inl rfl) (fun b u _ q => q) (I.hok.there e) new
end
def sLe (names : List Str) (er : Str → Addr) (ta tv : TE) : TS := fun D σ H => tv σ H fun y H1 => ta σ H1 fun x H2 => ∃ a n, x = .ref a ∧ n ∈ names ∧ hasIn n = true ∧ H2 a = some (mkH a (er n) none) ∧
  ∀ dx, H2 dx = none → D.nx σ (upd (upd H2 a (mkH a (er n) (some dx))) dx (.xd [("line", y)]))
section
variable {X : Cx} {N W G names : List Str} {er : Str → Addr} {k n : Nat} {x : Str} {p pos pos' : Pos} {e o value : Expr} {ta tv : TE} {t : TA} {E : XK}
theorem sle (IT : IniT X.K names er) (ha : QE X o ta) (hv : QE X value tv) (hs : swapsWith value (some (.Attribute o "line" pos')) pos.line X.env = pure false := by rfl) : QS X (.Assign [.Attribute o "line" pos'] value pos) (sLe names er ta tv) := by
  refine ⟨fun pins s σ H D I h => plainObj_wpAny_Assign_Attribute (thn (hv.h pins s σ H _ I h) fun u s1 ⟨y, H1, I1, ry, q⟩ => thn (ha.h pins s1 σ H1 _ I1 q) fun ov s2 ⟨x, H2, I2, rx, a, n, ex, hn, hh, ea, q2⟩ => ?_) hs⟩
  subst ex
  obtain rfl : ov = Value.ref a := rx
  have T := IT n hn hh
  obtain ⟨⟨t, et⟩, _⟩ := I2.hok a _ ea
  refine set_err I2.kIn et T.sa T.no T.sh fun h' e1 n1 k1 => ?_
  have hfree : H2 s2.heap.objs.size = none := I2.hok.fresh (Nat.le_refl _)
  have hne : s2.heap.objs.size ≠ a := (ne_of_none ea hfree).symm
  have J1 : Inv X pins σ (upd H2 a (mkH a (er n) (some s2.heap.objs.size))) { s2 with heap := h', toks := s2.toks + 2 } := I2.write (x := a) (e := a) (by rw [ea]; exact True.intro) (.inl rfl) k1 ⟨_, e1⟩ (mkH_ok e1)
  refine ⟨σ, _, J1.track (a := s2.heap.objs.size) (o := .xd [("line", y)]) (by rw [upd_ne hne]; exact hfree) (Heap.get?_none_of_le I2.sz) (Nat.ne_of_gt I2.lt) (fun z c ez => ?_) (fun pp hp => ?_) (xd_ok n1 ry), q2 _ hfree⟩
  · obtain ⟨v, ob, hob, _⟩ := I2.cell z c ez
    exact Nat.ne_of_lt (Heap.lt_size hob)
  · exact Nat.ne_of_lt (Heap.lt_size (I2.pin pp hp).1)
def spIni (names : List Str) (er : Str → Addr) : Sp := fun vs H Q _ => ∃ a n v, vs = [.ref a, v] ∧ n ∈ names ∧ hasIn n = true ∧ H a = some (mkH a (er n) none) ∧ ∀ dx, H dx = none → Q .non (upd (upd H a (mkH a (er n) (some dx))) dx (.xd [("line", v)]))
theorem mk_err (S : Sc X N W G) (g : Nat) (ER : ErrT X.K X.mg names er) (IT : IniT X.K names er) (F : FnM X.prog X.w X.K X.mg X.base k (er "LineError") "__init__" ["self", "line"] (spIni names er)) (hr : Room n X.A) (hx : x ∈ names) (hh : hasIn x = true) (ha : QB X [e] t)
    (hk : k + 1 ≤ n) (hg : G[g]? = some x) {pins : List (Addr × Obj)} {s : Shared} {σ : St} {H : Hp} {R : V → Hp → Prop} (I : Inv X pins σ H s) (h : t σ H fun vs H1 => ∃ v, vs = [v] ∧ R v H1) :
    wpAny (model X.prog X.w) X.A (eval (.Call (.Name x p) [e] [] pos) X.env) (fun u s' => ∃ a dx v H1, u = .ref a ∧ Inv X pins σ (upd (upd H1 a (mkH a (er x) (some dx))) dx (.xd [("line", v)])) s' ∧ H1 a = none ∧ H1 dx = none ∧ dx ≠ a ∧ X.s₀.heap.get? a = none ∧ R v H1) X.xe s := by
  obtain ⟨f, fd, F, Me, hb⟩ := F.ex
  have T := IT x hx hh
  have qg := S.gl x (List.mem_of_getElem? hg)
  refine wpAny_Call_Name_kw (ld_glob I qg.1 (ER.gl x hx) ?_ qg.2.1)
  refine PySem.W.callWith_K (h₀ := X.base) I.ok.mod.kin T.kp (thn (ha.h.pa pos pins s σ H _ I h) fun us s1 ⟨vs, H1, I1, r, v, ev, q⟩ => ⟨I1.kIn, ?_⟩) (star_cons ha.h.he) (plain_of ha.h.hes)
  subst ev
  obtain ⟨u, rfl, ru⟩ := vals1 r
  obtain ⟨bm, Sh, _⟩ := shape_of I1.kIn T.sh
  have na : H1 (s1.heap.objs.size + 1) = none := I1.hok.fresh (Nat.le_succ _)
  have nt : H1 s1.heap.objs.size = none := I1.hok.fresh (Nat.le_refl _)
  have kk : ∀ b o, s1.heap.get? b = some o → ((s1.heap.push (argTup [u])).push (excObj (er x) s1.heap.objs.size none)).get? b = some o := fun b o e => Heap.get?_push_of_some _ (Heap.get?_push_of_some _ e)
  have hat : ((s1.heap.push (argTup [u])).push (excObj (er x) s1.heap.objs.size none)).get? (s1.heap.objs.size + 1) = some (excObj (er x) s1.heap.objs.size none) := by heap_get
  have I2 : Inv X pins σ (upd H1 (s1.heap.objs.size + 1) (mkH (s1.heap.objs.size + 1) (er x) none)) { s1 with heap := (s1.heap.push (argTup [u])).push (excObj (er x) s1.heap.objs.size none) } := I1.laid (t' := s1.toks) kk (Nat.le_succ _) (mkH_ok hat)
  let Q : VK := fun z H2 => z = .non ∧ ∃ dx, H1 dx = none ∧ dx ≠ s1.heap.objs.size + 1 ∧ H2 = upd (upd H1 (s1.heap.objs.size + 1) (mkH (s1.heap.objs.size + 1) (er x) (some dx))) dx (.xd [("line", v)])
  have hsp : spIni names er [.ref (s1.heap.objs.size + 1), v] (upd H1 (s1.heap.objs.size + 1) (mkH (s1.heap.objs.size + 1) (er x) none)) Q E0 := by
    refine ⟨_, x, v, rfl, hx, hh, upd_same, fun dx hd => ⟨rfl, dx, ?_, ?_, by rw [upd_upd]⟩⟩
    · have ne : dx ≠ s1.heap.objs.size + 1 := fun z => by rw [z, upd_same] at hd; cases hd
      rw [upd_ne ne] at hd; exact hd
    · exact fun z => by rw [z, upd_same] at hd; cases hd
  have r2 : Vals [V.ref (s1.heap.objs.size + 1), v] [Value.ref (s1.heap.objs.size + 1), u] := .cons rfl (.cons ru .nil)
  have hbd := hb { s1 with heap := (s1.heap.push (argTup [u])).push (excObj (er x) s1.heap.objs.size none) } [Value.ref (s1.heap.objs.size + 1), u] I2.kIn rfl
  rw [List.append_nil] at hbd
  obtain ⟨hp1, g1, d1, t1, os1⟩ := s1
  refine wpAny_call (make_err (f := f) I1.kIn Sh (by show 1 ≤ sizeLine; decide) (T.ini.trans Me.at_) (beq_iff_eq.mp Me.fn) T.cal T.ty (codeAny_mono (F.run _ X.stack _ _ ⟨[Value.ref (hp1.objs.size + 1), u], []⟩ _ _ Q E0 ((hr.mono hk).make (er x) [u] []) (I2.env0.make (er x) [u] []) hbd r2 hsp) fun r s' hq' => ?_))
  cases r with
  | error e =>
    obtain ⟨_, _, _, _, _, _, _, _, _, _, _, _, _, z⟩ := hq'
    exact z.elim
  | ok fl =>
    cases fl with
    | ret u =>
      obtain ⟨v', H', I3, rv, ev, dx, hd, hne, eH⟩ := I2.after hq'
      subst ev eH
      exact ⟨rv, ⟨hp1.objs.size + 1, dx, v, H1, rfl, I3, na, hd, hne, Heap.get?_none_of_le (Nat.le_trans I1.sz (Nat.le_succ _)), q⟩⟩
    | next => exact False.elim hq'
    | brk => exact False.elim hq'
    | cont => exact False.elim hq'
def tMkE (er : Str → Addr) (x : Str) (t : TA) : TE := fun σ H Q => t σ H fun vs H1 => ∃ v, vs = [v] ∧ ∀ a dx, H1 a = none → H1 dx = none → dx ≠ a → Q (.ref a) (upd (upd H1 dx (.xd [("line", v)])) a (errH a (er x) (some dx)))
theorem kmke (S : Sc X N W G) (g : Nat) (ER : ErrT X.K X.mg names er) (IT : IniT X.K names er) (F : FnM X.prog X.w X.K X.mg X.base k (er "LineError") "__init__" ["self", "line"] (spIni names er)) (hr : Room n X.A) (ha : QB X [e] t) (hx : x ∈ names := by decide) (hh : hasIn x = true := by decide)
    (hk : k + 1 ≤ n := by decide) (hg : G[g]? = some x := by rfl) : QE X (.Call (.Name x p) [e] [] pos) (tMkE er x t) := by
  refine ⟨fun pins s σ H Q I h => thn (mk_err S g ER IT F hr hx hh ha hk hg I h) fun u s' ⟨a, dx, v, H1, eu, J, na, nd, ne, _, q⟩ => ?_⟩
  subst eu
  have ea : upd (upd H1 a (mkH a (er x) (some dx))) dx (.xd [("line", v)]) a = some (mkH a (er x) (some dx)) := by rw [upd_ne ne.symm, upd_same]
  obtain ⟨⟨t1, et⟩, _⟩ := J.hok a _ ea
  have J2 := J.less (ψ := ErrF a (er x) (some dx)) ea (errH_ok et ⟨rfl, rfl, _, rfl⟩)
  have eH : upd (upd (upd H1 a (mkH a (er x) (some dx))) dx (.xd [("line", v)])) a (.ext (ErrF a (er x) (some dx))) = upd (upd H1 dx (.xd [("line", v)])) a (errH a (er x) (some dx)) := by
    funext b; unfold upd errH
    by_cases c : b = a
    · rw [if_pos c, if_pos c]
    · rw [if_neg c, if_neg c, if_neg c]
  exact ⟨.ref a, _, J2, rfl, by rw [eH]; exact q a dx na nd ne⟩
def RaisesF (X : Cx) (E : XK) : Prop := ∀ (pins : List (Addr × Obj)) (σ : St) (H : Hp) (s : Shared) (e C t : Addr) (d : Option Addr), Inv X pins σ H s → s.heap.get? e = some (excObj C t d) → X.s₀.heap.get? e = none → H e = none → E (.ref C) d H → X.xe (.ref e) s
def tRaiseF (E : XK) (er : Str → Addr) (x : Str) (t : TA) : TS := fun _ σ H => t σ H fun vs H1 => ∃ v, vs = [v] ∧ ∀ dx, H1 dx = none → E (.ref (er x)) (some dx) (upd H1 dx (.xd [("line", v)]))
theorem sraisef {cpos : Pos} (S : Sc X N W G) (g : Nat) (hc : X.calm = true) (hx : RaisesF X E) (ER : ErrT X.K X.mg names er) (IT : IniT X.K names er) (F : FnM X.prog X.w X.K X.mg X.base k (er "LineError") "__init__" ["self", "line"] (spIni names er)) (hr : Room n X.A) (ha : QB X [e] t)
    (hxn : x ∈ names := by decide) (hh : hasIn x = true := by decide) (hk : k + 1 ≤ n := by decide) (hg : G[g]? = some x := by rfl) : QS X (.Raise (some (.Call (.Name x p) [e] [] cpos)) none pos) (tRaiseF E er x t) := by
  refine ⟨fun pins s σ H D I h => ?_⟩
  rw [arm_exec_Raise]
  have go := mk_err (p := p) (pos := cpos) S g ER IT F hr hxn hh ha hk hg I h
  refine wpAny_bind (wpAny_standAt (raise_err (I.ok.hd hc) (wpAny_bind (wpAny_mono go (fun u s' ⟨a, dx, v, H1, eu, J, na, nd, ne, n0, q⟩ => wpAny_bind (wpAny_standAt (wpAny_pure ?_))) fun _ _ z => z))))
  subst eu
  have ea : upd (upd H1 a (mkH a (er x) (some dx))) dx (.xd [("line", v)]) a = some (mkH a (er x) (some dx)) := by rw [upd_ne ne.symm, upd_same]
  obtain ⟨⟨t1, et⟩, _⟩ := J.hok a _ ea
  obtain ⟨bm, Sh, _⟩ := shape_of J.kIn (IT x hxn hh).sh
  have eH : rmv (upd (upd H1 a (mkH a (er x) (some dx))) dx (.xd [("line", v)])) a = upd H1 dx (.xd [("line", v)]) := by
    funext b; unfold rmv upd
    by_cases c : b = a
    · rw [if_pos c, c, if_neg (Ne.symm ne), na]
    · rw [if_neg c, if_neg c]
  refine ⟨a, t1, er x, some dx, bm, rfl, Sh, et, hx pins σ _ s' a (er x) t1 (some dx) (J.drop ea) et n0 ?_ ?_⟩
  · unfold rmv; rw [if_pos rfl]
  · rw [eH]; exact q dx nd
def tErL (names : List Str) (er : Str → Addr) (ta : TE) : TE := fun σ H Q => ta σ H fun x H1 => ∃ a n dx v, x = .ref a ∧ n ∈ names ∧ hasIn n = true ∧ H1 a = some (errH a (er n) (some dx)) ∧ H1 dx = some (.xd [("line", v)]) ∧ Q v H1
theorem kle (ER : ErrT X.K X.mg names er) (IT : IniT X.K names er) (he : QE X e ta) (hb : attributeBase e "line" X.env (eval e X.env) = eval e X.env := by rfl) : QE X (.Attribute e "line" pos) (tErL names er ta) := by
  refine ⟨fun pins s σ H Q I h => attr_of hb (thn (he.h pins s σ H _ I h) fun u s1 ⟨x, H1, I1, rx, a, n, dx, v, ex, hn, hh, ea, ed, q⟩ => ?_)⟩
  subst ex
  obtain rfl : u = Value.ref a := rx
  obtain ⟨⟨o, eo, h1, h2, vs, h3⟩, _⟩ := I1.hok a _ ea
  obtain ⟨mA, ns, r⟩ := I1.hok dx _ ed
  obtain ⟨od, hod, hl⟩ := lookIn_ns ns
  have T := IT n hn hh
  obtain ⟨bm, Sh, cd, hc, hd, _⟩ := shape_of I1.kIn T.sh
  obtain ⟨u, hu, ru⟩ := RelO.some_of (v := v) (o := mA "line") (r "line")
  have J : PySem.W.InstAt s1.heap a o (er n) (some od) := ⟨eo, h1, by unfold PySem.W.notCls; rw [h3], by rw [h2]; exact hod⟩
  obtain ⟨hp, g, d, t, os⟩ := s1
  exact exc_attr (K := X.K) I1.kIn J (ER.cls n hn).toExcGet (PySem.W.findObj_own (by unfold PySem.W.hasDictIn; rw [hc]; exact hd) T.no rfl (by rw [hl, hu])) (handed_of ru) ⟨v, H1, I1.tok _, ru, q⟩
end
section
variable {σ : St} {H : Hp} {Q : VK} {D : Ends} {E : XK} {t : TA} {ta tv : TE} {names : List Str} {er : Str → Addr} {x : Str}
theorem q_sle : sLe names er ta tv D σ H = tv σ H fun y H1 => ta σ H1 fun x H2 => ∃ a n, x = .ref a ∧ n ∈ names ∧ hasIn n = true ∧ H2 a = some (mkH a (er n) none) ∧ ∀ dx, H2 dx = none → D.nx σ (upd (upd H2 a (mkH a (er n) (some dx))) dx (.xd [("line", y)])) := rfl
theorem q_mke : tMkE er x t σ H Q = t σ H fun vs H1 => ∃ v, vs = [v] ∧ ∀ a dx, H1 a = none → H1 dx = none → dx ≠ a → Q (.ref a) (upd (upd H1 dx (.xd [("line", v)])) a (errH a (er x) (some dx))) := rfl
theorem q_raisef : tRaiseF E er x t D σ H = t σ H fun vs H1 => ∃ v, vs = [v] ∧ ∀ dx, H1 dx = none → E (.ref (er x)) (some dx) (upd H1 dx (.xd [("line", v)])) := rfl
theorem q_le : tErL names er ta σ H Q = ta σ H fun x H1 => ∃ a n dx v, x = .ref a ∧ n ∈ names ∧ hasIn n = true ∧ H1 a = some (errH a (er n) (some dx)) ∧ H1 dx = some (.xd [("line", v)]) ∧ Q v H1 := rfl
end
section
variable {P : Program} {w : World} {K : PySem.W.Frag} {mg : Str → Option Value} {base : Heap} {k : Nat} {x : Str} {N ps G : List Str} {p1 p2 : Str} {i : Int} {sp : Sp} {st : Stmt}
structure FnG (P : Program) (w : World) (K : PySem.W.Frag) (mg : Str → Option Value) (base : Heap) (k : Nat) (x p1 p2 : Str) (i : Int) (sp : Sp) : Prop where
  ex : ∃ f fd t, FnOk P w K mg base (CXE P w) k f fd [p1, p2] sp ∧ mg x = some (.ref f) ∧ PySem.W.keepIn K (.ref f) = true ∧ Binds K fd [p1, p2] [] ∧ Binds K fd [p1, p2] [.int i t] ∧ KBinds K fd [p1, p2] [p2] g11 g11
theorem DefD.gf (D : DefD K mg x st i) (S : DS (defScope st) N [p1, p2] G) (hb : bindD x st p1 p2)
    (len : ∀ vs H Q E, sp vs H Q E → vs.length = 2)
    (hbody : ∀ (X : Cx) (E : XK), Sc X N N G → X.prog = P → X.w = w → X.K = K → X.mg = mg → X.base = base → X.calm = true → X.env.scope = defScope st → RaisesF X E → Passes (CXE P w) X E → Room k X.A → X.A.units + 64 < cLine →
      ∀ (H : Hp) (vs : List V) (Q : VK), sp vs H Q E → ∃ t, QSs X (defBody st) t ∧ t { nx := fun _ H' => Q .non H', rt := Q } (L2.start N vs) H) : FnG P w K mg base (k + 1) x p1 p2 i sp := by
  obtain ⟨f, fd, t, F, hm⟩ := D.ex
  obtain ⟨oc, od, T, kV, doc, pm, an, cdv, ct, osl, o, n, rfl, lk, hcd, lt, ld⟩ := F.ex
  refine ⟨f, _, t, fn_of lk hcd S.fs len fun A outer s H vs Q E hr hsp => ?_, hm, F.kp, fun s us hK hl => ?_, fun s us hK hl => ?_, fun s us ws hK hl => ?_, fun a b => g11_vals a b⟩
  · obtain ⟨t, h, q⟩ := hbody _ E S.cxE rfl rfl rfl rfl rfl rfl rfl (fun _ _ _ _ _ _ _ _ I e n hn q => leave_obj I e n hn rfl rfl rfl rfl q) passes_cx hr hr.units H vs Q hsp
    exact ⟨t, h.h, q⟩
  · rw [List.append_nil] at hl ⊢
    match us, hl with
    | [u, v], _ =>
      obtain ⟨k, e1, e2⟩ := (hb T kV doc pm an cdv ct u v).2.1
      exact PySem.W.binds_K hK rfl lt ld e1 (e2 _)
  · obtain ⟨u, rfl⟩ : ∃ u, us = [u] := by
      rw [List.length_append] at hl
      have : us.length = 1 := by simpa using hl
      exact List.length_eq_one_iff.mp this
    obtain ⟨k, e1, e2⟩ := (hb T kV doc pm an cdv ct u u).1
    exact PySem.W.binds_K hK rfl lt ld e1 (e2 _)
  · obtain ⟨u, v, rfl, rfl⟩ : ∃ u v, us = [u] ∧ ws = [v] := by
      match us, ws, hl with
      | [u], [v], _ => exact ⟨u, v, rfl, rfl⟩
    obtain ⟨k, e1, e2⟩ := (hb T kV doc pm an cdv ct u v).2.2
    exact PySem.W.binds_K hK rfl lt ld e1 (e2 _)
end
def tCallX1 (sp : Sp) (i : Int) (t : TA) : TEx := fun σ H Q E => t σ H fun vs H1 => sp (vs ++ [.int i]) H1 Q E
def tCallXK (sp : Sp) (t tk : TA) : TEx := fun σ H Q E => t σ H fun vs H1 => tk σ H1 fun zs H2 => sp (g11 vs zs) H2 Q E
section
variable {X : Cx} {N W G : List Str} {k m : Nat} {x p1 p2 : Str} {i : Int} {sp : Sp} {p pos kpos : Pos} {e e2 : Expr} {t tk : TA} {E : XK}
theorem kgx1 (S : Sc X N W G) (hxe : X.xe = fun _ _ => False) (g : Nat) (F : FnG X.prog X.w X.K X.mg X.base k x p1 p2 i sp) (hr : Room m X.A) (ha : QB X [e] t) (hk : k ≤ m := by decide) (hg : G[g]? = some x := by rfl) :
    QEx X (.Call (.Name x p) [e] [] pos) (tCallX1 sp i t) := by
  obtain ⟨f, fd, t', F, hm, hkp, _, hb, _⟩ := F.ex
  have q := S.gl x (List.mem_of_getElem? hg)
  refine ⟨fun pins s σ H Q E I h => ?_⟩
  refine wpAny_Call_Name_kw (ld_glob I q.1 hm ?_ q.2.1)
  refine PySem.W.callWith_K (h₀ := X.base) I.ok.mod.kin hkp (wpAny_mono (ha.h.pa pos pins s σ H _ I h) (fun us s1 ⟨vs, H1, I1, r, q⟩ => ⟨I1.kIn, ?_⟩) fun x s' z => by rw [hxe] at z; exact z.elim) (star_cons ha.h.he) (plain_of ha.h.hes)
  have r2 : Vals (vs ++ [.int i]) (us ++ [.int i t']) := r.append (.cons ⟨t', rfl⟩ .nil)
  have hl : (us ++ [Value.int i t']).length = 2 := by rw [← r2.length]; exact F.len _ _ _ _ q
  refine wpAny_call (codeAny_mono (F.run X.A X.stack s1 H1 ⟨us, []⟩ (us ++ [.int i t']) (vs ++ [.int i]) Q E (hr.mono hk) I1.env0 (hb s1 us I1.kIn hl) r2 q) fun r s' hq => ?_)
  cases r with
  | error e => exact ⟨H1, s1, I1, hq⟩
  | ok fl =>
    cases fl with
    | ret u => exact I1.after hq
    | next => exact False.elim hq
    | brk => exact False.elim hq
    | cont => exact False.elim hq
theorem kgx2 (S : Sc X N W G) (hxe : X.xe = fun _ _ => False) (g : Nat) (F : FnG X.prog X.w X.K X.mg X.base k x p1 p2 i sp) (hr : Room m X.A) (ha : QB X [e, e2] t) (hk : k ≤ m := by decide) (hg : G[g]? = some x := by rfl) :
    QEx X (.Call (.Name x p) [e, e2] [] pos) (tCallX sp t) := by
  obtain ⟨f, fd, t', F, hm, hkp, hb, _⟩ := F.ex
  exact kfx S hxe g ⟨f, fd, F, hm, hkp, hb⟩ hr ha hk hg
theorem kgxK (S : Sc X N W G) (hxe : X.xe = fun _ _ => False) (g : Nat) (F : FnG X.prog X.w X.K X.mg X.base k x p1 p2 i sp) (hr : Room m X.A) {te : TE} (ha : QB X [e] t) (hv : QE X e2 te) (hk : k ≤ m := by decide) (hg : G[g]? = some x := by rfl) :
    QEx X (.Call (.Name x p) [e] [⟨some p2, e2, kpos⟩] pos) (tCallXK sp t (tCons te tNil)) := by
  obtain ⟨f, fd, t', F, hm, hkp, _, _, hb⟩ := F.ex
  have q := S.gl x (List.mem_of_getElem? hg)
  have hpl : ((backTo pos (starEach [e] X.env)).any (·.1) || (backToKw pos (keywordEach [⟨some p2, e2, kpos⟩] X.env)).any (·.1.isNone)) = false := by rw [star_cons ha.h.he]; rfl
  refine ⟨fun pins s σ H Q E I h => ?_⟩
  refine wpAny_Call_Name_kw (ld_glob I q.1 hm ?_ q.2.1)
  refine PySem.W.callWith_KW (h₀ := X.base) I.ok.mod.kin hkp rfl (wpAny_mono (ha.h.pa pos pins s σ H _ I h) (fun us s1 ⟨vs, H1, I1, r, q⟩ => ?_) fun x s' z => by rw [hxe] at z; exact z.elim) hpl (star_cons ha.h.he)
  refine wpAny_mono (pk_cons hv.h pk_nil pos pins s1 σ H1 _ I1 q) (fun ws s2 ⟨zs, H2, I2, rz, q2⟩ => ⟨I2.kIn, ?_⟩) fun x s' z => by rw [hxe] at z; exact z.elim
  have r2 := hb.rel r rz
  have hl : (g11 us ws).length = 2 := by rw [← r2.length]; exact F.len _ _ _ _ q2
  refine wpAny_call (codeAny_mono (F.run X.A X.stack s2 H2 ⟨us, [p2].zip ws⟩ (g11 us ws) (g11 vs zs) Q E (hr.mono hk) I2.env0 (hb.to s2 us ws I2.kIn hl) r2 q2) fun r s' hq => ?_)
  cases r with
  | error e => exact ⟨H2, s2, I2, hq⟩
  | ok fl =>
    cases fl with
    | ret u => exact I2.after hq
    | next => exact False.elim hq
    | brk => exact False.elim hq
    | cont => exact False.elim hq
theorem q_callX1 {σ : St} {H : Hp} {Q : VK} : tCallX1 sp i t σ H Q E = t σ H fun vs H1 => sp (vs ++ [.int i]) H1 Q E := rfl
theorem q_callXK {σ : St} {H : Hp} {Q : VK} : tCallXK sp t tk σ H Q E = t σ H fun vs H1 => tk σ H1 fun zs H2 => sp (g11 vs zs) H2 Q E := rfl
end
end L2
namespace L2
open PySem PySem.Spec PyProof.Rows KM
theorem foldl_size (x : Array Nat) : ∀ (k : Nat) (a : Array Nat), ((List.replicate k x).foldl (· ++ ·) a).size = a.size + x.size * k
  | 0, a => by simp
  | k + 1, a => by rw [List.replicate_succ, List.foldl_cons, foldl_size x k, Array.size_append, Nat.mul_succ]; omega
theorem foldl_mem (x : Array Nat) {c : Nat} : ∀ (k : Nat) (a : Array Nat), c ∈ ((List.replicate k x).foldl (· ++ ·) a).toList → c ∈ a.toList ∨ c ∈ x.toList
  | 0, a, h => .inl h
  | k + 1, a, h => by
    rw [List.replicate_succ, List.foldl_cons] at h
    rcases foldl_mem x k _ h with z | z
    · rw [Array.toList_append, List.mem_append] at z; exact z
    · exact .inr z
def rMulS : R2 := fun x y H Q => ∃ (i : Str) (k : Nat), x = .str i ∧ y = .int (k : Int) ∧ 2 ≤ k ∧ k ≤ 1000 ∧ 1 ≤ i.length ∧ i.length ≤ 1000 ∧ ∀ r : Str, r.length = i.length * k → (∀ c ∈ cz r, c ∈ cz i) → Q (.str r) H
section
variable {X : Cx}
theorem op_mul_str : OpR X (binaryOp .Mult) rMulS := by
  intro pins s σ H x y v u Q I rx ry h
  obtain ⟨i, k, rfl, rfl, h1, h2, h3, h4, q⟩ := h
  obtain ⟨t, rfl⟩ := rx
  obtain ⟨t', rfl⟩ := ry
  have hk : ¬ ((k : Int) < 1) := by omega
  have hs : (1000000 : Nat) ≤ sizeLine := by decide
  have hz : i.length * k ≤ 1000 * 1000 := Nat.mul_le_mul h4 h2
  have c' : ((k : Int) == 1 || i.length == 0) = false := by
    rw [Bool.or_eq_false_iff]
    exact ⟨beq_eq_false_iff_ne.mpr (by omega), beq_eq_false_iff_ne.mpr (by omega)⟩
  refine PySem.P.mul_str ?_ (fun _ _ z => ?_) (fun _ _ => ?_) ?_
  · rw [decide_eq_false (by omega), decide_eq_false (by omega)]; rfl
  · have hm : (i.length : Int) * (k : Int) ≤ 2 ^ 63 - 1 := by
      have : ((i.length * k : Nat) : Int) ≤ 1000000 := by omega
      rw [Int.natCast_mul] at this
      omega
    have := Int.le_ediv_of_mul_le (by omega) hm
    omega
  · unfold Builtin.Str.tooLong
    rw [Int.toNat_natCast]
    exact decide_eq_false (by omega)
  · rw [if_neg hk, c', if_neg (by decide)]
    have e : (⟨(List.replicate (k : Int).toNat i.cps).foldl (· ++ ·) #[]⟩ : Str).length = i.length * k := by
      show ((List.replicate (k : Int).toNat i.cps).foldl (· ++ ·) #[]).size = _
      rw [foldl_size, Int.toNat_natCast]; show 0 + i.length * k = _; omega
    exact ⟨by rw [e]; omega, .str _, H, I.tok _, ⟨_, rfl⟩, q _ e fun c hc => (foldl_mem i.cps _ #[] hc).elim (fun z => nomatch z) id⟩
def rCountS : V → List V → Hp → VK → Prop := fun x vs H Q => ∃ z y, x = .str z ∧ vs = [.str y] ∧ Q (.int ((Builtin.Str.occurrences z y 0 z.length (z.length + 1)).length : Int)) H
theorem mt_str_count : MtR X "str.count" rCountS := by
  intro pins s σ H x vs v us Q I rx rv h
  obtain ⟨z, y, rfl, rfl, q⟩ := h
  obtain ⟨t, rfl⟩ := rx
  obtain ⟨u, rfl, t', rfl⟩ := vals1 rv
  exact call_gives F.slot_str_count (typeIs_str s z t) F.entry_str_count (F.args_str_count_2 _ _) (gives_str_count z y t t') ⟨.int _, H, I.tok _, ⟨_, rfl⟩, q⟩
end
theorem occ_mem {z : Str} {c : Nat} (h : 0 < (Builtin.Str.occurrences z ⟨#[c]⟩ 0 z.length (z.length + 1)).length) : c ∈ cz z := by
  obtain ⟨i, hi⟩ := List.exists_mem_of_length_pos h
  obtain ⟨h1, h2⟩ := StrLaws.occ_spec z ⟨#[c]⟩ 0 z.length (z.length + 1) i hi
  have h1 : i + 1 ≤ z.cps.size := h1
  have h2 : z.cps.extract i (i + 1) = #[c] := beq_iff_eq.mp h2
  have e : (z.cps.extract i (i + 1))[0]? = some c := by rw [h2]; rfl
  rw [Array.getElem?_extract] at e
  split at e
  · rw [← Array.getElem?_toList] at e
    exact List.mem_of_getElem? e
  · cases e
theorem mem_join {c k : Nat} : ∀ {l : List Str}, k ∈ cz (Str.join ⟨#[c]⟩ l) → k = c ∨ ∃ x ∈ l, k ∈ cz x
  | [], h => by cases h
  | [x], h => .inr ⟨x, List.mem_singleton.mpr rfl, h⟩
  | x :: y :: r, h => by
    rw [cz_join2, List.mem_append, List.mem_append] at h
    rcases h with (h | h) | h
    · exact .inr ⟨x, List.mem_cons_self, h⟩
    · exact .inl (List.mem_singleton.mp h)
    · rcases mem_join h with z | ⟨w, hw, z⟩
      · exact .inl z
      · exact .inr ⟨w, List.mem_cons_of_mem _ hw, z⟩
theorem join_cnt (c : Nat) : ∀ {l : List Str}, l.length ≤ (Str.join ⟨#[c]⟩ l).length + 1
  | [] => by simp
  | [x] => by simp
  | x :: y :: r => by
    have ih := join_cnt c (l := y :: r)
    have e : (Str.join ⟨#[c]⟩ (x :: y :: r)).length = x.length + 1 + (Str.join ⟨#[c]⟩ (y :: r)).length := by
      rw [cz_length, cz_join2, List.length_append, List.length_append, ← cz_length, ← cz_length]; rfl
    rw [List.length_cons]
    omega
theorem split_cnt (z : Str) : (Txt.split z ⟨#[32]⟩).length ≤ z.length + 1 := by
  have := join_cnt 32 (l := Txt.split z ⟨#[32]⟩)
  rw [StrLaws.join_split] at this
  exact this
theorem hat_free {l : List Str} (h : hatB l = true) : ∀ x ∈ l, 10 ∉ cz x := by
  unfold hatB at h
  rw [Bool.and_eq_true, Bool.and_eq_true, Bool.and_eq_true] at h
  obtain ⟨h1, h2, h3, h4⟩ := h
  match l, of_decide_eq_true h1 with
  | [a, b, c], _ =>
    intro x hx
    have e : a = "hat" := of_decide_eq_true h2
    rcases List.mem_cons.mp hx with rfl | hx
    · rw [e]; decide +kernel
    rcases List.mem_cons.mp hx with rfl | hx
    · exact (nameB_free h3).2
    rw [List.mem_singleton.mp hx]
    exact (countB_free h4).2
theorem sees_free {l : List Str} (h : seesB l = true) : ∀ x ∈ l, 10 ∉ cz x := by
  unfold seesB at h
  rw [Bool.and_eq_true, Bool.and_eq_true] at h
  obtain ⟨h1, h2, h3⟩ := h
  match l, of_decide_eq_true h1 with
  | a :: r, _ =>
    intro x hx
    have e : a = "sees" := of_decide_eq_true h2
    rcases List.mem_cons.mp hx with rfl | hx
    · rw [e]; decide +kernel
    · exact (nameB_free (List.all_eq_true.mp h3 x hx)).2
theorem nl_none {z : Str} (h : 10 ∈ cz z) : hatB (Txt.split z ⟨#[32]⟩) = false ∧ seesB (Txt.split z ⟨#[32]⟩) = false := by
  have h' : 10 ∈ cz (Str.join ⟨#[32]⟩ (Txt.split z ⟨#[32]⟩)) := by rw [StrLaws.join_split]; exact h
  rcases mem_join h' with q | ⟨x, hx, q⟩
  · cases q
  · exact ⟨Bool.eq_false_iff.mpr fun e => hat_free e x hx q, Bool.eq_false_iff.mpr fun e => sees_free e x hx q⟩
theorem count_int {x : Str} (h : countB x = true) : ∃ c : Int, intText? x = some c := by
  have h30 := count_len h
  unfold countB at h
  rw [Bool.and_eq_true, Bool.and_eq_true, List.all_eq_true] at h
  refine ⟨_, intText_digits (fun c hc => digB_iff.mp (h.2.2 c hc)) ?_ (by omega)⟩
  have := (of_decide_eq_true h.1).1
  rw [cz_length] at this
  intro e
  rw [show (cz x).length = 0 by show x.cps.toList.length = 0; rw [e]; rfl] at this
  omega
theorem slice_fromM {x : Str} (k : Nat) : cz (StrLaws.sliceText x (some (k : Int)) none) = (cz x).drop k := by
  by_cases h : k ≤ x.length
  · exact slice_from h
  · have e : StrLaws.sliceText x (some (k : Int)) none = StrLaws.sliceText x (some ((x.length : Nat) : Int)) none := by
      unfold StrLaws.sliceText
      have : Builtin.Str.strSliceIndices (some (k : Int)) none 1 x.length = Builtin.Str.strSliceIndices (some ((x.length : Nat) : Int)) none 1 x.length := by
        unfold Builtin.Str.strSliceIndices
        dsimp only
        rw [if_neg (show ¬ ((k : Int) < 0) by omega), if_neg (show ¬ (((x.length : Nat) : Int) < 0) by omega), if_pos (by decide), if_pos (by decide), if_pos (by decide), show max (0 : Int) (min (k : Int) (x.length : Int)) = max 0 (min ((x.length : Nat) : Int) (x.length : Int)) by omega]
      rw [this]
    rw [e, slice_from (Nat.le_refl _), List.drop_eq_nil_of_le (by rw [cz_length]; omega), List.drop_eq_nil_of_le (by rw [cz_length] at h; omega)]
theorem slice_toM {x : Str} (k : Nat) : cz (StrLaws.sliceText x none (some (k : Int))) = (cz x).take k := by
  by_cases h : k ≤ x.length
  · exact slice_to h
  · have e : StrLaws.sliceText x none (some (k : Int)) = StrLaws.sliceText x none (some ((x.length : Nat) : Int)) := by
      unfold StrLaws.sliceText
      have : Builtin.Str.strSliceIndices none (some (k : Int)) 1 x.length = Builtin.Str.strSliceIndices none (some ((x.length : Nat) : Int)) 1 x.length := by
        unfold Builtin.Str.strSliceIndices
        dsimp only
        rw [if_neg (show ¬ ((k : Int) < 0) by omega), if_neg (show ¬ (((x.length : Nat) : Int) < 0) by omega), show max (0 : Int) (min (k : Int) (x.length : Int)) = max 0 (min ((x.length : Nat) : Int) (x.length : Int)) by omega]
        rfl
      rw [this]
    rw [e, slice_to (Nat.le_refl _), List.take_of_length_le (by rw [cz_length]; omega), List.take_of_length_le (by rw [cz_length] at h; omega)]
theorem slice_lenF {x : Str} (k : Nat) : (StrLaws.sliceText x (some (k : Int)) none).length ≤ x.length := by rw [cz_length, slice_fromM, cz_length, List.length_drop]; omega
theorem slice_lenT {x : Str} (k : Nat) : (StrLaws.sliceText x none (some (k : Int))).length ≤ x.length := by rw [cz_length, slice_toM, cz_length, List.length_take]; omega
theorem forS {z : Str} {g : TG} {tb : TS} {D : Ends} {σ : St} {H : Hp} (I : Nat → St → Hp → Prop) (h0 : I 0 σ H)
    (step : ∀ i σ H, i < (cz z).length → I i σ H → g (.str ⟨#[(cz z).getD i 0]⟩) σ H fun σ2 H2 => tb { D with nx := I (i + 1), ct := I (i + 1), bk := D.nx } σ2 H2)
    (fin : ∀ σ H, I (cz z).length σ H → D.nx σ H) : ∃ y, V.str z = .str y ∧ rFor g tb D σ (Itx y) H := by
  refine ⟨z, rfl, fun i m σ H => m = z.cps.size - i ∧ i ≤ z.cps.size ∧ I i σ H, ⟨_, rfl, Nat.zero_le _, h0⟩, ?_⟩
  rintro i m σ H ⟨rfl, hi, p⟩
  by_cases hlt : i < z.cps.size
  · refine .inr ⟨hlt, I (i + 1), fun σ' H' p' => ⟨z.cps.size - (i + 1), by omega, rfl, hlt, p'⟩, fun x H' y => ?_⟩
    obtain ⟨rfl, c, e, rfl⟩ := y
    have := step i σ _ (by rw [Array.length_toList]; exact hlt) p
    rw [show (cz z).getD i 0 = c by rw [List.getD_eq_getElem?_getD, Array.getElem?_toList, e]; rfl] at this
    exact this
  · have e : i = z.cps.size := by omega
    refine .inl ⟨by show z.cps.size ≤ i; omega, fin σ H ?_⟩
    rw [Array.length_toList, ← e]; exact p
def OkS (z : Str) : Prop := ∀ c ∈ cz z, c < 1114112
theorem OkS.app {a b : Str} (ha : OkS a) (hb : OkS b) : OkS (a ++ b) := fun c hc => by
  rw [cz_append] at hc
  exact (List.mem_append.mp hc).elim (ha c) (hb c)
theorem OkS.slF {z : Str} (h : OkS z) (k : Nat) : OkS (StrLaws.sliceText z (some (k : Int)) none) := fun c hc => h c (List.mem_of_mem_drop (by rw [slice_fromM] at hc; exact hc))
theorem OkS.slT {z : Str} (h : OkS z) (k : Nat) : OkS (StrLaws.sliceText z none (some (k : Int))) := fun c hc => h c (List.mem_of_mem_take (by rw [slice_toM] at hc; exact hc))
theorem OkS.join {l : List Str} (h : ∀ x ∈ l, OkS x) : OkS (Str.join ⟨#[32]⟩ l) := fun c hc => by
  rcases mem_join hc with z | ⟨x, hx, z⟩
  · omega
  · exact h x hx c z
theorem part_mem {c k : Nat} : ∀ {l : List Str} {x : Str}, x ∈ l → k ∈ cz x → k ∈ cz (Str.join ⟨#[c]⟩ l)
  | [], x, h, _ => nomatch h
  | [y], x, h, hk => by rw [← List.mem_singleton.mp h]; exact hk
  | y :: z :: r, x, h, hk => by
    rw [cz_join2, List.mem_append, List.mem_append]
    rcases List.mem_cons.mp h with rfl | h
    · exact .inl (.inl hk)
    · exact .inr (part_mem h hk)
theorem OkS.part {z x : Str} (h : OkS z) (hx : x ∈ Txt.split z ⟨#[32]⟩) : OkS x := fun c hc => h c (by
  have := part_mem (c := 32) hx hc
  rw [StrLaws.join_split] at this
  exact this)
theorem OkS.ok {z : Str} (h : OkS z) : PyData.strOk z = true := by
  show (z.cps.all fun x => decide (x < 1114112)) = true
  rw [← Array.all_toList, List.all_eq_true]
  exact fun c hc => decide_eq_true (h c hc)
theorem lay_okS : ∀ l : List Str, (∀ x ∈ l, OkS x) → PyData.canLayAll0 (l.map PyData.str) = true
  | [], _ => by simp [PyData.canLayAll0]
  | x :: r, h => by simp [PyData.canLayAll0, PyData.canLay0, lay_okS r fun x hx => h x (List.mem_cons_of_mem _ hx), (h x List.mem_cons_self).ok]
theorem list_shaped {l : List Str} (h : ∀ x ∈ l, OkS x) : PySem.SeqAt.shaped (.list (l.map PyData.str)) = true := shaped_of
  (by simp [PyData.canLay0, lay_okS l h])
  (by have := depth_strs l; simp only [PyData.depth]; omega)
theorem eqvS_nil (l : List Str) : PyData.eqv (.list (l.map PyData.str)) (.list []) = l.isEmpty := by cases l <;> simp [PyData.eqv, PyData.eqvAll]
theorem OkS.low {z : Str} (h : LowS z) : OkS z := fun c hc => by
  have h2 := of_decide_eq_true (h c hc)
  have : ∀ c ∈ cz letS, c < 1114112 := by decide +kernel
  exact this c h2
theorem OkS.count {z : Str} (h : countB z = true) : OkS z := fun c hc => by
  unfold countB at h
  rw [Bool.and_eq_true, Bool.and_eq_true, List.all_eq_true] at h
  have := digB_iff.mp (h.2.2 c hc)
  omega
theorem OkS.of {z : Str} (h : (cz z).all (fun c => decide (c < 1114112)) = true) : OkS z := fun c hc => of_decide_eq_true (List.all_eq_true.mp h c hc)
end L2
namespace L2
open PySem PySem.Spec PyProof.Rows KM
abbrev wz (z : Str) : List Str := Txt.split z ⟨#[32]⟩
def errK (z : Str) : Option Nat := if hatB (wz z) = true then none else if seesB (wz z) = true then (if ((wz z).drop 1).Nodup then none else some 1) else some 0
def errN : Nat → Str
  | 0 => "NoLine"
  | 1 => "Twice"
  | 2 => "Unknown"
  | _ => "TooMany"
def Told (H : Hp) (f : Addr) (z : Str) : Prop := (hatB (wz z) = true ∧ ∃ c, intText? ((wz z).getD 2 noS) = some c ∧ HatAt H f ((wz z).getD 1 noS) c) ∨ (hatB (wz z) = false ∧ seesB (wz z) = true ∧ SeesAt H f ((wz z).getD 1 noS) ((wz z).drop 2))
theorem errK_hat {z : Str} (h : hatB (wz z) = true) : errK z = none := by unfold errK; rw [if_pos h]
theorem errK_no {z : Str} (h : hatB (wz z) = false) (s : seesB (wz z) = false) : errK z = some 0 := by unfold errK; rw [h, s]; rfl
theorem errK_twice {z : Str} (h : hatB (wz z) = false) (s : seesB (wz z) = true) (n : ¬ ((wz z).drop 1).Nodup) : errK z = some 1 := by unfold errK; rw [h, s, if_neg (by decide), if_pos rfl, if_neg n]
theorem errK_sees {z : Str} (h : hatB (wz z) = false) (s : seesB (wz z) = true) (n : ((wz z).drop 1).Nodup) : errK z = none := by unfold errK; rw [h, s, if_neg (by decide), if_pos rfl, if_pos n]
theorem errK_lt {z : Str} {k : Nat} (h : errK z = some k) : k < 2 := by
  unfold errK at h
  split at h
  · cases h
  split at h
  · split at h
    · cases h
    · cases h; decide
  · cases h; decide
theorem Told.mono {H H' : Hp} {f : Addr} {z : Str} (h : Told H f z) (s : Same H H') : Told H' f z := by
  rcases h with ⟨a, c, e, t⟩ | ⟨a, b, t⟩
  · exact .inl ⟨a, c, e, t.mono s⟩
  · exact .inr ⟨a, b, t.mono s⟩
theorem Told.both {H : Hp} {f u : Addr} {z : Str} (h : Told H f z) (h' : Told H u z) : Both H f u := by
  rcases h with ⟨a, c, e, t⟩ | ⟨a, b, t⟩
  · rcases h' with ⟨a', c', e', t'⟩ | ⟨a', b', t'⟩
    · rw [e] at e'; cases e'
      refine .inr ⟨_, c, (low_of ?_).1, t, t'⟩
      unfold hatB at a
      rw [Bool.and_eq_true, Bool.and_eq_true, Bool.and_eq_true] at a
      exact a.2.2.1
    · rw [a] at a'; cases a'
  · rcases h' with ⟨a', c', e', t'⟩ | ⟨a', b', t'⟩
    · rw [a] at a'; cases a'
    · have hb := b
      unfold seesB at hb
      rw [Bool.and_eq_true, Bool.and_eq_true] at hb
      have h3 : 3 ≤ (wz z).length := of_decide_eq_true hb.1
      have hn : ∀ x ∈ (wz z).drop 1, nameB x = true := List.all_eq_true.mp hb.2.2
      refine .inl ⟨_, _, (low_of (hn _ ?_)).1, fun x hx => (low_of (hn x ?_)).1, t, t'⟩
      · rw [show (wz z).getD 1 noS = ((wz z).drop 1).getD 0 noS by rw [List.getD_eq_getElem?_getD, List.getD_eq_getElem?_getD, List.getElem?_drop]]
        exact getD_memS (by rw [List.length_drop]; omega)
      · rw [show (wz z).drop 2 = ((wz z).drop 1).drop 1 by rw [List.drop_drop]] at hx
        exact List.mem_of_mem_drop hx
theorem both_eq {K : PySem.W.Frag} {H : Hp} {f u : Addr} (h : Both H f u) : ∃ d d', Dt K H (.ref f) d ∧ Dt K H (.ref u) d' ∧ PySem.SeqAt.shaped d = true ∧ PySem.SeqAt.shaped d' = true ∧ PyData.eqv d d' = true := by
  rcases h with ⟨n, l, hn, hl, h1, h2⟩ | ⟨n, c, hn, h1, h2⟩
  · exact ⟨_, _, h1.dt, h2.dt, seesD_shaped hn hl, seesD_shaped hn hl, seesD_eqv n l⟩
  · exact ⟨_, _, h1.dt, h2.dt, hatD_shaped hn, hatD_shaped hn, hatD_eqv n c⟩
theorem Both.tup {H : Hp} {f u : Addr} (h : Both H f u) : (∃ xs, H f = some (.tup xs)) ∧ ∃ xs, H u = some (.tup xs) := by
  rcases h with ⟨n, l, hn, hl, ⟨p, h1, _⟩, ⟨p', h2, _⟩⟩ | ⟨n, c, hn, h1, h2⟩
  · exact ⟨⟨_, h1⟩, ⟨_, h2⟩⟩
  · exact ⟨⟨_, h1⟩, ⟨_, h2⟩⟩
def spReadR (er : Str → Addr) : Sp := fun vs H Q E => ∃ (z : Str) (i : Int), vs = [.str z, .int i] ∧ z.length ≤ 800 ∧ (∀ f H', errK z = none → Same H H' → Told H' f z → Q (.ref f) H') ∧
  (∀ k dx H', errK z = some k → Same H H' → H' dx = some (.xd [("line", .int i)]) → E (.ref (er (errN k))) (some dx) H')
def spDue02 : Sp := fun vs H Q _ => ∃ z : Str, vs = [.str z] ∧ z.length ≤ 800 ∧ OkS z ∧ (∀ u H', errK z = none → Same H H' → Told H' u z → Q (.ref u) H') ∧ (∀ (k : Nat) u H', errK z = some k → Same H H' → H' u = some (.lst [.int (k : Int)]) → Q (.ref u) H')
def allIn (z y : Str) : Bool := (cz z).all fun c => decide (c ∈ cz y)
def spMadeOf : Sp := fun vs H Q _ => ∃ (z y : Str) (m : Nat), vs = [.str z, .str y, .int (m : Int)] ∧ z.length ≤ 1000000 ∧ Q (.bl (allIn z y && decide (1 ≤ z.length ∧ z.length ≤ m))) H
def InvMo (H0 : Hp) (z y : Str) (m : Nat) (i : Nat) (σ : St) (H : Hp) : Prop := (∃ y3 : Option V, σ = [some (.str z), some (.str y), some (.int (m : Int)), y3]) ∧ H = H0 ∧ ((cz z).take i).all (fun c => decide (c ∈ cz y)) = true
def kinds02 (x : Str) : List Bool := [isaE x "NoLine", isaE x "Twice", isaE x "Unknown", isaE x "TooMany", isaE x "LineError", isaE x "HatError", true, isaE x "NoAsk", isaE x "NoName", isaE x "NoHats", isaE x "NoGroups", isaE x "NoPlan"]
def dueK (k : Int) : List Bool := (List.range 4).map (fun i : Nat => decide (((i : Nat) : Int) = k)) ++ [true, true, true, false, false, false, false, false]
def namesL : List Str := ["LineError", "NoLine", "Twice", "Unknown", "TooMany"]
theorem kinds_due : ∀ k : Nat, k < 5 → kinds02 (namesL.getD k noS) = dueK ((k : Int) - 1) := by decide +kernel
theorem kinds_err {k : Nat} (h : k < 2) : kinds02 (errN k) = dueK (k : Int) := by
  have : ∀ k : Nat, k < 2 → kinds02 (errN k) = dueK (k : Int) := by decide +kernel
  exact this k h
def spKinds02 (names : List Str) (er : Str → Addr) : Sp := fun vs H Q _ => ∃ a x dx fs, vs = [.ref a] ∧ x ∈ names ∧ H a = some (errH a (er x) (some dx)) ∧ H dx = some (.xd fs) ∧ ∀ l H', Same H H' → H' l = some (.lst ((kinds02 x).map V.bl)) → Q (.ref l) H'
def spDueK : Sp := fun vs H Q _ => ∃ k : Int, vs = [.int k] ∧ ∀ l H', Same H H' → H' l = some (.lst ((dueK k).map V.bl)) → Q (.ref l) H'
def spAsked02 : Sp := fun vs H Q _ => ∃ (z : Str) (how n : Int), vs = [.str z, .int how, .int n] ∧ z.length ≤ 800 ∧
  (∀ t k f H', errK z = none → Same H H' → H' t = some (.tup [.ref k, .int 0, .ref f]) → H' k = some (.lst []) → Told H' f z → Q (.ref t) H') ∧
  (∀ j t k H', errK z = some j → Same H H' → H' t = some (.tup [.ref k, .int (if how = 0 then 0 else n), .non]) → H' k = some (.lst ((kinds02 (errN j)).map V.bl)) → Q (.ref t) H')
def InvAk (H0 : Hp) (z : Str) (how n : Int) (σ : St) (H : Hp) : Prop := Same H0 H ∧ ∃ (k : Addr), 
  ((∃ f, errK z = none ∧ σ = [some (.str z), some (.int how), some (.int n), some (.ref k), some (.int 0), some (.ref f), none] ∧ H k = some (.lst []) ∧ Told H f z) ∨
   (∃ j, errK z = some j ∧ σ = [some (.str z), some (.int how), some (.int n), some (.ref k), some (.int (if how = 0 then 0 else n)), some .non, none] ∧ H k = some (.lst ((kinds02 (errN j)).map V.bl))))
def spWhole02 : Sp := fun vs H Q _ => ∃ i : Int, vs = [.int i] ∧ Q (.bl true) H
def spMade02 : Sp := fun vs H Q _ => ∃ n : Int, vs = [.int n] ∧ ∀ H', Same H H' → Q (.bl true) H'
def spRight02 : Sp := fun vs H Q _ => ∃ (z : Str) (how n : Int), vs = [.str z, .int how, .int n] ∧ z.length ≤ 800 ∧ OkS z ∧ ∀ H', Same H H' → Q (.bl true) H'
structure Dn (H : Hp) (dr : Addr) (dn : List Int) (m : Nat) : Prop where
  at_ : H dr = some (.lst (dn.map V.int))
  len : dn.length = m
  nn : ∀ x ∈ dn, 0 ≤ x
def spWords02 : Sp := fun vs H Q _ => ∃ (dr : Addr) (cell : Int) (dn : List Int), vs = [.ref dr, .int cell] ∧ Dn H dr dn 30 ∧ ∀ l (ws : List Str) H', Same H H' → H' l = some (.lst (ws.map V.str)) → ws.length ≤ 11 → (∀ x ∈ ws, x.length ≤ 60 ∧ OkS x) → Q (.ref l) H'
def spSpoil02 : Sp := fun vs H Q _ => ∃ (z : Str) (dr : Addr) (dn : List Int), vs = [.str z, .ref dr] ∧ Dn H dr dn 30 ∧ z.length ≤ 700 ∧ OkS z ∧ ∀ (z' : Str) H', z'.length ≤ 720 → OkS z' → Same H H' → Q (.str z') H'
theorem q_tryM {D : Ends} {σ : St} {H : Hp} {names : List Str} {er : Str → Addr} {tb : TSx} {i : Nat} {y : Str} {th : Addr → TS} : tTryH names er tb i y th D σ H =
  tb D (fun σ' C d H' => ∃ x, x ∈ names ∧ C = .ref (er x) ∧ isaE x y = true ∧ ∀ a, H' a = none → th a { nx := fun σ'' => D.nx (σ''.set i none), rt := D.rt, bk := fun σ'' => D.bk (σ''.set i none), ct := fun σ'' => D.ct (σ''.set i none) } (σ'.set i (some (.ref a))) (upd H' a (errH a (er x) d))) σ H := rfl
theorem nw {H H1 : Hp} {p : Addr} {o : HO} (hp : H p = none) (e : upd H p o = H1) : Same H H1 ∧ H1 p = some o := by subst e; exact ⟨Same.new hp _, upd_same⟩
section
variable {K : PySem.W.Frag} {H : Hp} {Q : VK} {a b : Addr} {xs zs : List V}
theorem to_catV (h : SqL K H a xs) (h' : SqL K H b zs) (hz : xs.length + zs.length ≤ sizeLine) (q : ∀ p H', Same H H' → H p = none → H' p = some (.lst (xs ++ zs)) → Q (.ref p) H') : rCatL K (.ref a) (.ref b) H Q :=
  ⟨a, b, xs, zs, rfl, rfl, h, h', hz, fun p hp => q p _ (Same.new hp _) hp upd_same⟩
theorem to_repV (k : Nat) (h : H a = some (.lst xs)) (hk : k ≤ 1000) (hz : xs.length * k ≤ sizeLine) (q : ∀ p H', Same H H' → H p = none → H' p = some (.lst (List.replicate k xs).flatten) → Q (.ref p) H') : rRep (.ref a) (.int (k : Int)) H Q :=
  ⟨a, k, xs, rfl, rfl, h, by omega, by omega, by rw [Int.toNat_natCast]; exact hz, fun p hp => q p _ (Same.new hp _) hp (by rw [Int.toNat_natCast]; exact upd_same)⟩
theorem to_slF (k : Nat) (h : SqL K H a xs) (q : ∀ p H', Same H H' → H p = none → H' p = some (.lst (xs.drop k)) → Q (.ref p) H') : rSlL K (.ref a) (some (k : Int)) none H Q :=
  ⟨a, xs, rfl, h, fun p hp => q p _ (Same.new hp _) hp (by rw [cut_dropM]; exact upd_same)⟩
theorem to_slT (k : Nat) (h : SqL K H a xs) (q : ∀ p H', Same H H' → H p = none → H' p = some (.lst (xs.take k)) → Q (.ref p) H') : rSlL K (.ref a) none (some (k : Int)) H Q :=
  ⟨a, xs, rfl, h, fun p hp => q p _ (Same.new hp _) hp (by rw [cut_takeM]; exact upd_same)⟩
theorem to_pickS {ss : List Str} {i : Int} (h : SqL K H a (ss.map V.str)) (h0 : 0 ≤ i) (h1 : i < ss.length) (q : ∀ x ∈ ss, Q (.str x) H) : rIxL K (.ref a) (.int i) H Q := by
  obtain ⟨m, rfl⟩ := Int.eq_ofNat_of_zero_le h0
  exact to_ixL' h (atI_at (str_item (by omega))) (q _ (getD_memS (by omega)))
theorem to_drn {dn : List Int} {dr : Addr} {i : Int} {m : Nat} (h : Dn H dr dn m) (h0 : 0 ≤ i) (h1 : i < m) (q : ∀ x : Int, 0 ≤ x → Q (.int x) H) : rIxL K (.ref dr) (.int i) H Q := by
  obtain ⟨k, rfl⟩ := Int.eq_ofNat_of_zero_le h0
  have hm : k < dn.length := by have := h.len; omega
  exact to_ixL' (SqL.of h.at_) (atI_at (by rw [List.getElem?_map, List.getElem?_eq_getElem hm]; rfl)) (q _ (h.nn _ (List.getElem_mem hm)))
theorem Dn.mono {H' : Hp} {dr : Addr} {dn : List Int} {m : Nat} (h : Dn H dr dn m) (s : Same H H') : Dn H' dr dn m := ⟨s _ _ h.at_, h.len, h.nn⟩
end
theorem tryM {D : Ends} {σ : St} {H : Hp} {names : List Str} {er : Str → Addr} {tb : TSx} {i : Nat} {y : Str} {th : Addr → TS} (P : St → XK) (h1 : ∀ W : St → XK, (∀ σ' C d H', P σ' C d H' → W σ' C d H') → tb D W σ H)
    (h2 : ∀ σ' C d H', P σ' C d H' → ∃ x, x ∈ names ∧ C = .ref (er x) ∧ isaE x y = true ∧ ∀ a, H' a = none → th a { nx := fun σ'' => D.nx (σ''.set i none), rt := D.rt, bk := fun σ'' => D.bk (σ''.set i none), ct := fun σ'' => D.ct (σ''.set i none) } (σ'.set i (some (.ref a))) (upd H' a (errH a (er x) d))) : tTryH names er tb i y th D σ H := h1 _ h2
def WdOk (n : Nat) (x : Str) : Prop := x.length ≤ n ∧ OkS x
theorem WdOk.mono {n m : Nat} {x : Str} (h : WdOk n x) (hm : n ≤ m) : WdOk m x := ⟨Nat.le_trans h.1 hm, h.2⟩
def wdB (n : Nat) (x : Str) : Bool := decide (x.length ≤ n) && (cz x).all fun c => decide (c < 1114112)
theorem wdB_ok {n : Nat} {x : Str} (h : wdB n x = true) : WdOk n x := by
  unfold wdB at h
  rw [Bool.and_eq_true] at h
  exact ⟨of_decide_eq_true h.1, OkS.of h.2⟩
def InvW1 (H0 : Hp) (dr : Addr) (cell : Int) (σ : St) (H : Hp) : Prop := ∃ (nm : Addr) (ws : List Str) (y3 y4 y5 y6 : Option V), σ = [some (.ref dr), some (.int cell), some (.ref nm), y3, y4, y5, y6] ∧ Same H0 H ∧ H nm = some (.lst (ws.map V.str)) ∧ ws.length ≤ 9 ∧ ∀ x ∈ ws, WdOk 13 x
def InvW2 (H0 : Hp) (dr : Addr) (cell : Int) (nm : Addr) (ws : List Str) (σ : St) (H : Hp) : Prop := ∃ (ct : Str) (y3 y4 y6 : Option V), σ = [some (.ref dr), some (.int cell), some (.ref nm), y3, y4, some (.str ct), y6] ∧ Same H0 H ∧ H nm = some (.lst (ws.map V.str)) ∧ WdOk 59 ct
def InvW3 (H0 : Hp) (dr : Addr) (cell : Int) (nm : Addr) (ws : List Str) (ct : Str) (σ : St) (H : Hp) : Prop := ∃ (hd : Str) (y3 y4 : Option V), σ = [some (.ref dr), some (.int cell), some (.ref nm), y3, y4, some (.str ct), some (.str hd)] ∧ Same H0 H ∧ H nm = some (.lst (ws.map V.str)) ∧ WdOk 9 hd
def InvSp (H0 : Hp) (dr sm : Addr) (sg : Str) (n : Nat) (k : Nat) (σ : St) (H : Hp) : Prop := ∃ (z : Str) (y4 y5 y6 y7 : Option V), σ = [some (.str z), some (.ref dr), some (.str sg), some (.ref sm), y4, y5, y6, y7] ∧ Same H0 H ∧ WdOk (n + 2 * k) z
def smS : List Str := [" ", "  ", " 1", "0", "\n", "a", "9", " a", "A", "_", "-", "1"]
theorem smS_ok : ∀ x ∈ smS, WdOk 2 x := by
  have h : ∀ x ∈ smS, wdB 2 x = true := by decide +kernel
  exact fun x hx => wdB_ok (h x hx)
end L2
namespace K02
open PySem L2 PyProof.Rows KM
def top (i : Nat) : Stmt := PySem.Challenge.pw_hatsight_k02_lines_refused.main.body.getD i (.Pass ⟨0, 0, 0, 0⟩)
abbrev s_is_name : Stmt := top 17
abbrev s_is_count : Stmt := top 18
abbrev s_is_hat_line : Stmt := top 19
abbrev s_is_sees_line : Stmt := top 20
abbrev s_read_line : Stmt := top 21
abbrev s_law_draws : Stmt := top 23
abbrev s_law_cell_at : Stmt := top 24
abbrev s_law_fresh : Stmt := top 25
abbrev s_law_names : Stmt := top 26
abbrev s_law_count : Stmt := top 27
abbrev s_law_words : Stmt := top 28
abbrev s_law_spoiled : Stmt := top 29
abbrev s_law_made_of : Stmt := top 30
abbrev s_law_due : Stmt := top 31
abbrev s_law_kinds : Stmt := top 32
abbrev s_law_due_kinds : Stmt := top 33
abbrev s_law_asked : Stmt := top 34
abbrev s_law_whole : Stmt := top 35
abbrev s_law_made : Stmt := top 36
abbrev s_law_right : Stmt := top 37
abbrev s_law : Stmt := top 38
abbrev s_LineError___init__ : Stmt := clsSt (top 2) 0
structure Bn (mg : Str → Option Value) : Prop where
  range : mg "range" = none
  len : mg "len" = none
  all : mg "all" = none
  int : mg "int" = none
  str : mg "str" = none
  set : mg "set" = none
  tuple : mg "tuple" = none
  list : mg "list" = none
  isinstance : mg "isinstance" = none
  bool : mg "bool" = none
  ValueError : mg "ValueError" = none
structure Cs (mg : Str → Option Value) : Prop where
  LETTERS : ∃ t, mg "LETTERS" = some (.str "abcdefghijklmnopqrstuvwxyz" t)
  FIGURES : ∃ t, mg "FIGURES" = some (.str "0123456789" t)
  LONGEST_NAME : ∃ t, mg "LONGEST_NAME" = some (.int 12 t)
  LONGEST_COUNT : ∃ t, mg "LONGEST_COUNT" = some (.int 30 t)
abbrev ERN : List Str := ["LineError", "HatError", "NoLine", "Twice", "Unknown", "TooMany", "NoAsk", "NoName", "NoHats", "NoGroups", "NoPlan"]
local macro_rules | `(tactic| walk_at "rd") => `(tactic| try simp only [L2.start, List.map_cons, List.map_nil, List.length_cons, List.length_nil, List.replicate, List.cons_append, List.nil_append, List.append_nil, List.set_cons_zero, List.set_cons_succ, Nat.reduceAdd, Nat.reduceSub,
  q_var0, q_varS, q_C, q_Op, q_Un, q_rI0, q_rI, q_rU, q_tI, q_rT, q_eqI, q_neI, q_rB, q_test, q_tB, q_notT, q_andT, q_orT, q_andV, q_notV, q_chain, q_nil, q_cons, q_call, q_CB, q_tup, q_lst, q_BM, q_Sl, q_noPart, q_part, q_rP, q_LC, q_True,
  q_next, q_seq, q_drop, q_ret, q_ifS, q_asg, q_name, q_iList, q_iRng1, q_callX, q_callX1, q_callXK, q_tryM, q_asgX, q_ifX, q_sle, q_mke, q_raisef, q_le, q_eqS, q_neS, q_iStr, bitAnd_m1, q_for, q_ints, q_strs, q_dT, q_ifT, q_ifF, Bool.false_eq_true, q_upS, q_upN, q_upV, q_g0, q_gS, Bool.not_true, Bool.not_false, decide_eq_true_eq])
local macro_rules | `(tactic| walk_at "rs") => `(tactic| try simp only [L2.start, List.map_cons, List.map_nil, List.length_cons, List.length_nil, List.replicate, List.cons_append, List.nil_append, List.append_nil, List.set_cons_zero, List.set_cons_succ, Nat.reduceAdd, Nat.reduceSub,
  q_var0, q_varS, q_C, q_Op, q_Un, q_rI0, q_rI, q_rU, q_tI, q_rT, q_eqI, q_neI, q_rB, q_test, q_tB, q_notT, q_andT, q_orT, q_andV, q_notV, q_chain, q_nil, q_cons, q_call, q_CB, q_tup, q_lst, q_BM, q_Sl, q_noPart, q_part, q_rP, q_LC, q_True,
  q_next, q_drop, q_ret, q_ifS, q_asg, q_name, q_iList, q_iRng1, q_callX, q_callX1, q_callXK, q_tryM, q_asgX, q_ifX, q_sle, q_mke, q_raisef, q_le, q_eqS, q_neS, q_iStr, bitAnd_m1, q_for, q_ints, q_strs, q_dT, q_ifT, q_ifF, Bool.false_eq_true, q_upS, q_upN, q_upV, q_g0, q_gS, Bool.not_true, Bool.not_false, decide_eq_true_eq])
section
variable {P : Program} {w : World} {K : PySem.W.Frag} {mg : Str → Option Value} {base : Heap} {er : Str → Addr}
/-! ### is it a name, a count, a line? -/
theorem ds_is_name : DS (defScope s_is_name) ["word"] ["word"] ["LONGEST_NAME", "len", "all"] := ds_of (by decide +kernel)
theorem ok_isname (B : Bn mg) (KC : Cs mg) (D : Def K mg "is_name" s_is_name) : Fn P w K mg base 1 "is_name" ["word"] spIsName := by
  refine D.gq ds_is_name (fun _ _ _ _ _ _ us hl => match us, hl with | [_], _ => rfl) (fun vs H Q E h => ?_) ?_
  · obtain ⟨z, rfl, _⟩ := h; rfl
  intro X S e1 e2 e3 e4 e5 hc hsc hxe hr hu H vs Q E h
  subst e1 e2 e3 e4 e5
  obtain ⟨z, rfl, hz, q⟩ := h
  refine ⟨_, (ss_cons (sif (tnot (tchain op_le op_le kint (kcb S 1 call_len_str B.len boot_len (kb_cons (kv S 0) kb_nil)) (kglI S 0 KC.LONGEST_NAME))) (ss_one (sret kbl)) ss_nil)
      (ss_one (sret (kcb S 2 (call_allK hc (K := X.K) rfl) B.all boot_all (kb_cons (klc S hc hsc (istrK (kv S 0) (K := X.K) rfl) (N := ["sign"]) (W := ["sign"]) (G := ["LETTERS"]) (fv := [none]) (by decide +kernel) (fun cl C fp s H S2 => ⟨(kg S2 0), if_nil, (kcmp op_in_str (kv S2 0) (kglS S2 0 KC.LETTERS) (by with_unfolding_all rfl))⟩)) kb_nil))))), ?_⟩
  walk_at "rd"
  refine ⟨z, rfl, small1M hz, ?_⟩
  have hf : ¬ (1 ≤ z.length ∧ z.length ≤ 12) → Q (.bl false) H := fun c => by
    have := q H (Same.refl _)
    unfold nameB at this
    rw [decide_eq_false c, Bool.false_and] at this
    exact this
  refine ite2 (fun c => ?_) (fun c => hf (by omega))
  refine ite2 (fun c2 => hf (by simp at c2; omega)) (fun c2 => ?_)
  refine ⟨z, rfl, lc_signs hz fun H' s' => ?_⟩
  have := q H' s'
  unfold nameB at this
  rw [decide_eq_true (show 1 ≤ z.length ∧ z.length ≤ 12 by simp at c2; omega), Bool.true_and] at this
  exact this
theorem ds_is_count : DS (defScope s_is_count) ["word"] ["word"] ["LONGEST_COUNT", "len", "all"] := ds_of (by decide +kernel)
theorem ok_iscount (B : Bn mg) (KC : Cs mg) (D : Def K mg "is_count" s_is_count) : Fn P w K mg base 1 "is_count" ["word"] spIsCount := by
  refine D.gq ds_is_count (fun _ _ _ _ _ _ us hl => match us, hl with | [_], _ => rfl) (fun vs H Q E h => ?_) ?_
  · obtain ⟨z, rfl, _⟩ := h; rfl
  intro X S e1 e2 e3 e4 e5 hc hsc hxe hr hu H vs Q E h
  subst e1 e2 e3 e4 e5
  obtain ⟨z, rfl, hz, q⟩ := h
  refine ⟨_, (ss_cons (sif (wpt (wor (tnot (tchain op_le op_le kint (kcb S 1 call_len_str B.len boot_len (kb_cons (kv S 0) kb_nil)) (kglI S 0 KC.LONGEST_COUNT))) (wor1 (tcmp op_eq (kix ix_str (kv S 0) kint (fun _ _ => rfl)) kstr (nomark _))))) (ss_one (sret kbl)) ss_nil)
      (ss_one (sret (kcb S 2 (call_allK hc (K := X.K) rfl) B.all boot_all (kb_cons (klc S hc hsc (istrK (kv S 0) (K := X.K) rfl) (N := ["sign"]) (W := ["sign"]) (G := ["FIGURES"]) (fv := [none]) (by decide +kernel) (fun cl C fp s H S2 => ⟨(kg S2 0), if_nil, (kcmp op_in_str (kv S2 0) (kglS S2 0 KC.FIGURES) (by with_unfolding_all rfl))⟩)) kb_nil))))), ?_⟩
  walk_at "rd"
  refine ⟨z, rfl, small1M hz, ?_⟩
  have hf : ¬ (1 ≤ z.length ∧ z.length ≤ 30) → Q (.bl false) H := fun c => by
    have := q H (Same.refl _)
    unfold countB at this
    rw [decide_eq_false c, Bool.false_and] at this
    exact this
  refine ite2 (fun c => ?_) (fun c => hf (by omega))
  refine ite2 (fun c2 => hf (by simp at c2; omega)) (fun c2 => ?_)
  have hl : 1 ≤ z.length ∧ z.length ≤ 30 := by simp at c2; omega
  have h0 : 0 < (cz z).length := by rw [← cz_length]; omega
  refine ⟨z, 0, (cz z).getD 0 0, rfl, rfl, small1M hz, ?_, ?_⟩
  · show atI (cz z) ((0 : Nat) : Int) = _
    exact atI_getD rfl 0 h0
  walk_at "rd"
  have key : decide ((⟨#[(cz z).getD 0 0]⟩ : Str) = Str.ofString "0") = decide ((cz z).getD 0 0 = 48) := by
    rw [show Str.ofString "0" = ⟨#[48]⟩ by decide +kernel]
    exact decide_eq_decide.mpr ⟨fun e => by simpa using congrArg cz e, fun e => by rw [e]⟩
  have q' : ∀ H', Same H H' → Q (.bl (decide ((cz z).getD 0 0 ≠ 48) && (cz z).all digB)) H' := fun H' s' => by
    have := q H' s'
    unfold countB at this
    rw [decide_eq_true hl, Bool.true_and] at this
    exact this
  refine ite2 (fun c3 => ?_) (fun c3 => ?_)
  · have e : (cz z).getD 0 0 = 48 := of_decide_eq_true (by rw [← key]; exact decide_eq_true c3)
    have := q' H (Same.refl _)
    rw [decide_eq_false (fun h => h e), Bool.false_and] at this
    exact this
  · have e : (cz z).getD 0 0 ≠ 48 := fun e => c3 (of_decide_eq_true (by rw [key]; exact decide_eq_true e))
    refine ⟨z, rfl, lc_signs hz fun H' s' => ?_⟩
    have := q' H' s'
    rw [decide_eq_true e, Bool.true_and] at this
    exact this
theorem ds_is_hat_line : DS (defScope s_is_hat_line) ["words"] ["words"] ["is_name", "is_count", "len"] := ds_of (by decide +kernel)
theorem ok_ishat (B : Bn mg) (D : Def K mg "is_hat_line" s_is_hat_line) (F_is_name : Fn P w K mg base 1 "is_name" ["word"] spIsName) (F_is_count : Fn P w K mg base 1 "is_count" ["word"] spIsCount) : Fn P w K mg base 2 "is_hat_line" ["words"] (spIsHat K) := by
  refine D.gq ds_is_hat_line (fun _ _ _ _ _ _ us hl => match us, hl with | [_], _ => rfl) (fun vs H Q E h => ?_) ?_
  · obtain ⟨p, l, rfl, _⟩ := h; rfl
  intro X S e1 e2 e3 e4 e5 hc hsc hxe hr hu H vs Q E h
  subst e1 e2 e3 e4 e5
  obtain ⟨p, l, rfl, hp, q⟩ := h
  refine ⟨_, (ss_one (sret (kand (kcmp op_eq (kcb S 2 (call_lenK (K := X.K) rfl) B.len boot_len (kb_cons (kv S 0) kb_nil)) kint (nomark _)) (kand (kcmp op_eq (kix (ix_listK (K := X.K) rfl) (kv S 0) kint (fun _ _ => rfl)) kstr (nomark _)) (kand (kff S 0 F_is_name hr (kb_cons (kix (ix_listK (K := X.K) rfl) (kv S 0) kint (fun _ _ => rfl)) kb_nil)) (kone (kff S 1 F_is_count hr (kb_cons (kix (ix_listK (K := X.K) rfl) (kv S 0) kint (fun _ _ => rfl)) kb_nil)))))))), ?_⟩
  walk_at "rd"
  refine to_len (.inl hp.sq) ?_
  rw [List.length_map]
  walk_at "rd"
  unfold hatB at q
  refine ite2 (fun c => ?_) (fun c => ?_)
  · rw [decide_eq_true (show l.length = 3 by omega), Bool.true_and] at q
    refine to_ixL' (i := ((0 : Nat) : Int)) hp.sq (atI_at (str_item (by omega))) ?_
    walk_at "rd"
    refine ite2 (fun c2 => ?_) (fun c2 => ?_)
    · rw [decide_eq_true c2, Bool.true_and] at q
      refine to_ixL' (i := ((1 : Nat) : Int)) hp.sq (atI_at (str_item (by omega))) ?_
      refine ⟨_, rfl, hp.short _ (getD_memS (by omega)), fun H1 s1 => ?_⟩
      walk_at "rd"
      cases h1 : nameB (l.getD 1 noS) with
      | false =>
        rw [h1, Bool.false_and] at q
        exact q _ s1
      | true =>
        rw [h1, Bool.true_and] at q
        walk_at "rd"
        refine to_ixL' (i := ((2 : Nat) : Int)) (s1.seq hp.sq) (atI_at (str_item (by omega))) ?_
        exact ⟨_, rfl, hp.short _ (getD_memS (by omega)), fun H2 s2 => q _ (s1.trans s2)⟩
    · rw [decide_eq_false c2, Bool.false_and] at q
      exact q _ (Same.refl _)
  · rw [decide_eq_false (show ¬ l.length = 3 by omega), Bool.false_and] at q
    exact q _ (Same.refl _)
theorem ds_is_sees_line : DS (defScope s_is_sees_line) ["words"] ["words"] ["all", "len"] := ds_of (by decide +kernel)
theorem ok_issees (B : Bn mg) (D : Def K mg "is_sees_line" s_is_sees_line) (F_is_name : Fn P w K mg base 1 "is_name" ["word"] spIsName) : Fn P w K mg base 2 "is_sees_line" ["words"] (spIsSees K) := by
  refine D.gq ds_is_sees_line (fun _ _ _ _ _ _ us hl => match us, hl with | [_], _ => rfl) (fun vs H Q E h => ?_) ?_
  · obtain ⟨p, l, rfl, _⟩ := h; rfl
  intro X S e1 e2 e3 e4 e5 hc hsc hxe hr hu H vs Q E h
  subst e1 e2 e3 e4 e5
  obtain ⟨p, l, rfl, hp, q⟩ := h
  have hfew := hp.few
  refine ⟨_, (ss_one (sret (kand (kcmp op_ge (kcb S 1 (call_lenK (K := X.K) rfl) B.len boot_len (kb_cons (kv S 0) kb_nil)) kint (nomark _)) (kand (kcmp op_eq (kix (ix_listK (K := X.K) rfl) (kv S 0) kint (fun _ _ => rfl)) kstr (nomark _)) (kone (kcb S 0 (call_allK hc (K := X.K) rfl) B.all boot_all (kb_cons (klc S hc hsc (ilistK (ksl (sl_listK (K := X.K) rfl) (kv S 0) (ko_some kint) ko_none) (K := X.K) rfl) (N := ["word"]) (W := ["word"]) (G := ["is_name"]) (fv := [none]) (by decide +kernel) (fun cl C fp s H S2 => ⟨(kg S2 0), if_nil, (kff S2 0 F_is_name hr (kb_cons (kv S2 0) kb_nil))⟩)) kb_nil))))))), ?_⟩
  walk_at "rd"
  refine to_len (.inl hp.sq) ?_
  rw [List.length_map]
  walk_at "rd"
  unfold seesB at q
  refine ite2 (fun c => ?_) (fun c => ?_)
  · rw [decide_eq_true (show 3 ≤ l.length by omega), Bool.true_and] at q
    refine to_ixL' (i := ((0 : Nat) : Int)) hp.sq (atI_at (str_item (by omega))) ?_
    walk_at "rd"
    refine ite2 (fun c2 => ?_) (fun c2 => ?_)
    · rw [decide_eq_true c2, Bool.true_and] at q
      refine ⟨p, _, rfl, hp.sq, fun a ha => ?_⟩
      rw [show (some (1 : Int)) = some ((1 : Nat) : Int) from rfl, cut_dropM, ← List.map_drop]
      have sa := Same.new ha (.lst ((l.drop 1).map V.str))
      have hdl : (l.drop 1).length = l.length - 1 := List.length_drop
      refine ⟨a, rfl, ⟨_, SqL.of upd_same⟩, lc1 (itok_list (SqL.of upd_same)) (fun _ => true) (fun i => .bl (nameB ((l.drop 1).getD i noS))) (by rw [List.length_map, hdl]; exact small1000 (by omega)) ?_ ?_⟩
      · intro i H1 A B' hi hS hA _
        rw [List.length_map] at hi
        rw [show ((l.drop 1).map V.str).getD i .non = .str ((l.drop 1).getD i noS) by rw [List.getD_eq_getElem?_getD, str_item hi]; rfl]
        walk_at "rd"
        exact ⟨_, rfl, hp.short _ (List.mem_of_mem_drop (getD_memS hi)), fun H2 s2 => hA rfl _ s2⟩
      · intro acc H1 hn s1 hacc
        rw [fil_all, List.length_map] at hacc
        refine ⟨acc, (List.range (l.drop 1).length).map fun i => nameB ((l.drop 1).getD i noS), rfl, SqL.of (by rw [hacc, List.map_map]; rfl), ?_⟩
        have e : ((List.range (l.drop 1).length).map fun i => nameB ((l.drop 1).getD i noS)).all id = (l.drop 1).all nameB := by
          rw [List.all_map]
          conv => rhs; rw [show l.drop 1 = (List.range (l.drop 1).length).map fun i => (l.drop 1).getD i noS from by
            apply List.ext_getElem?
            intro i
            by_cases hi : i < (l.drop 1).length
            · rw [List.getElem?_map, List.getElem?_range hi, List.getElem?_eq_getElem hi]
              show some _ = some ((l.drop 1).getD i noS)
              rw [List.getD_eq_getElem?_getD, List.getElem?_eq_getElem hi]; rfl
            · rw [List.getElem?_eq_none (by omega), List.getElem?_eq_none (by rw [List.length_map, List.length_range]; omega)]]
          rw [List.all_map]; rfl
        rw [e]
        exact q _ (sa.trans s1)
    · rw [decide_eq_false c2, Bool.false_and] at q
      exact q _ (Same.refl _)
  · rw [decide_eq_false (show ¬ 3 ≤ l.length by omega), Bool.false_and] at q
    exact q _ (Same.refl _)
end
section
variable {P : Program} {w : World} {K : PySem.W.Frag} {mg : Str → Option Value} {base : Heap} {er : Str → Addr}
/-! ### an error with a field is made -/
theorem ds_LineError___init__ : DS (defScope s_LineError___init__) ["self", "line"] ["self", "line"] [] := ds_of (by decide +kernel)
theorem ok_ini (IT : IniT K ERN er) (D : MDef K (er "LineError") "__init__" "LineError.__init__" s_LineError___init__) : FnM P w K mg base 1 (er "LineError") "__init__" ["self", "line"] (spIni ERN er) := by
  refine D.gq ds_LineError___init__ (fun _ _ _ _ _ _ us hl => match us, hl with | [_, _], _ => rfl) (fun vs H Q E h => ?_) ?_
  · obtain ⟨a, n, v, rfl, _⟩ := h; rfl
  intro X S e1 e2 e3 e4 e5 hc hsc hxe hr hu H vs Q E h
  subst e1 e2 e3 e4 e5
  obtain ⟨a, n, v, rfl, hn, hh, ha, q⟩ := h
  refine ⟨_, (ss_one (sle IT (kv S 0) (kv S 1))), ?_⟩
  walk_at "rd"
  exact ⟨a, n, rfl, hn, hh, ha, fun dx hd => q dx hd⟩
/-! ### a line is read -/
theorem ds_read_line : DS (defScope s_read_line) ["text", "line", "words", "names"] ["text", "line"] ["is_hat_line", "int", "is_sees_line", "NoLine", "len", "Twice", "set", "tuple"] := ds_of (by decide +kernel)
theorem bd_read_line : bindD "read_line" s_read_line "text" "line" := fun T kV doc pm an cdv ct u v => ⟨⟨_, by with_unfolding_all rfl, fun _ => by with_unfolding_all rfl⟩, ⟨_, by with_unfolding_all rfl, fun _ => by with_unfolding_all rfl⟩, ⟨_, by with_unfolding_all rfl, fun _ => by with_unfolding_all rfl⟩⟩
theorem ok_readR (B : Bn mg) (ER : ErrT K mg ERN er) (IT : IniT K ERN er) (D : DefD K mg "read_line" s_read_line 0) (F_LineError___init__ : FnM P w K mg base 1 (er "LineError") "__init__" ["self", "line"] (spIni ERN er)) (F_is_hat_line : Fn P w K mg base 2 "is_hat_line" ["words"] (spIsHat K)) (F_is_sees_line : Fn P w K mg base 2 "is_sees_line" ["words"] (spIsSees K)) : FnG P w K mg base 3 "read_line" "text" "line" 0 (spReadR er) := by
  refine D.gf ds_read_line bd_read_line (fun vs H Q E h => ?_) ?_
  · obtain ⟨z, i, rfl, _⟩ := h; rfl
  intro X E S e1 e2 e3 e4 e5 hc hsc hx hp hr hu H vs Q h
  subst e1 e2 e3 e4 e5
  obtain ⟨z, i, rfl, hz, q, qE⟩ := h
  refine ⟨_, (ss_cons (ssv S 2 (kmb PySem.F.plainAttrs_str PySem.F.slot_str_split PySem.F.type_str_split mt_str_split (K := X.K) rfl (kv S 0) (kb_cons kstr kb_nil)))
      (ss_cons (sif (tval (kff S 0 F_is_hat_line hr (kb_cons (kv S 2) kb_nil))) (ss_one (sret (ktp (kb_cons kstr (kb_cons (kix (ix_listK (K := X.K) rfl) (kv S 2) kint (fun _ _ => rfl)) (kb_cons (kct S 1 call_int_str B.int boot_int (kb_cons (kix (ix_listK (K := X.K) rfl) (kv S 2) kint (fun _ _ => rfl)) kb_nil)) kb_nil)))))) ss_nil)
      (ss_cons (sif (tnot (tval (kff S 2 F_is_sees_line hr (kb_cons (kv S 2) kb_nil)))) (ss_one (sraisef S 3 hc hx ER IT F_LineError___init__ hr (kb_cons (kv S 1) kb_nil))) ss_nil)
      (ss_cons (ssv S 3 (ksl (sl_listK (K := X.K) rfl) (kv S 2) (ko_some kint) ko_none))
      (ss_cons (sif (tcmp op_lt (kcb S 4 call_lenSS B.len boot_len (kb_cons (kct S 6 (call_setStrK hc (K := X.K) rfl) B.set boot_set (kb_cons (kv S 3) kb_nil)) kb_nil)) (kcb S 4 (call_lenK (K := X.K) rfl) B.len boot_len (kb_cons (kv S 3) kb_nil)) (nomark _)) (ss_one (sraisef S 5 hc hx ER IT F_LineError___init__ hr (kb_cons (kv S 1) kb_nil))) ss_nil)
      (ss_one (sret (ktp (kb_cons kstr (kb_cons (kix (ix_listK (K := X.K) rfl) (kv S 3) kint (fun _ _ => rfl)) (kb_cons (kct S 7 (call_tupK (K := X.K) rfl) B.tuple boot_tuple (kb_cons (ksl (sl_listK (K := X.K) rfl) (kv S 3) (ko_some kint) ko_none) kb_nil)) kb_nil))))))))))), ?_⟩
  have hfew : (wz z).length ≤ z.length + 1 := split_cnt z
  have hsz : (1000002 : Nat) ≤ sizeLine := by decide
  walk_at "rs"
  rw [q_seq]
  walk_at "rs"
  refine ⟨rfl, z, _, rfl, rfl, by decide +kernel, by omega, ?_, fun p hp0 => ?_⟩
  · rw [blank_is]; show (wz z).length ≤ _; omega
  rw [blank_is]
  show (fun x H1 => _) (V.ref p) (upd H p (.lst ((wz z).map V.str)))
  have sp := Same.new hp0 (.lst ((wz z).map V.str))
  have hw : Ws X.K (upd H p (.lst ((wz z).map V.str))) p (wz z) := ⟨SqL.of upd_same, by omega, fun x hx => Nat.le_trans (split_part hx) (by omega)⟩
  dsimp only
  rw [q_seq]
  walk_at "rs"
  refine ⟨p, wz z, rfl, hw, fun H1 s1 => ?_⟩
  have hw1 : SqL X.K H1 p ((wz z).map V.str) := s1.seq hw.sq
  walk_at "rs"
  cases hh : hatB (wz z) with
  | true =>
    walk_at "rs"
    have hb := hh
    unfold hatB at hb
    rw [Bool.and_eq_true] at hb
    have hl3 : (wz z).length = 3 := of_decide_eq_true hb.1
    have hcb : countB ((wz z).getD 2 noS) = true := by
      have h2 := hb.2
      rw [Bool.and_eq_true, Bool.and_eq_true] at h2
      exact h2.2.2
    have h30 := count_len hcb
    obtain ⟨c, hcv⟩ := count_int hcb
    refine to_ixL' (i := ((1 : Nat) : Int)) hw1 (atI_at (str_item (by omega))) ?_
    refine to_ixL' (i := ((2 : Nat) : Int)) hw1 (atI_at (str_item (by omega))) ?_
    refine ⟨_, c, rfl, hcv, by omega, ?_⟩
    refine ⟨by decide, fun t ht => ?_⟩
    exact q t _ (errK_hat hh) (sp.trans (s1.trans (Same.new ht _))) (.inl ⟨hh, c, hcv, upd_same⟩)
  | false =>
    walk_at "rs"
    rw [q_seq]
    walk_at "rs"
    refine ⟨p, wz z, rfl, ⟨hw1, hw.few, hw.short⟩, fun H2 s2 => ?_⟩
    have hw2 := s2.seq hw1
    have sH2 := sp.trans (s1.trans s2)
    walk_at "rs"
    cases hs : seesB (wz z) with
    | false =>
      walk_at "rs"
      refine ⟨.int i, rfl, fun dx hd => ?_⟩
      exact qE 0 dx _ (errK_no hh hs) (sH2.trans (Same.new hd _)) upd_same
    | true =>
      walk_at "rs"
      rw [q_seq]
      walk_at "rs"
      have hl3 : 3 ≤ (wz z).length := by
        have hs' := hs
        unfold seesB at hs'
        rw [Bool.and_eq_true] at hs'
        exact of_decide_eq_true hs'.1
      refine ⟨p, _, rfl, hw2, fun a ha => ?_⟩
      rw [show (some (1 : Int)) = some ((1 : Nat) : Int) from rfl, cut_dropM, ← List.map_drop]
      have sa := Same.new ha (.lst (((wz z).drop 1).map V.str))
      have hdl : ((wz z).drop 1).length = (wz z).length - 1 := List.length_drop
      walk_at "rs"
      rw [q_seq]
      walk_at "rs"
      refine ⟨a, (wz z).drop 1, rfl, SqL.of upd_same, by omega, fun P w b hb => ?_⟩
      have sb := Same.new hb (SetS P w b (cntS ((wz z).drop 1)))
      have hb3 : upd (upd H2 a (.lst (((wz z).drop 1).map V.str))) b (SetS P w b (cntS ((wz z).drop 1))) b = some (SetS P w b (cntS ((wz z).drop 1))) := upd_same
      have ha2 : SqL X.K (upd (upd H2 a (.lst (((wz z).drop 1).map V.str))) b (SetS P w b (cntS ((wz z).drop 1)))) a (((wz z).drop 1).map V.str) := SqL.of (sb _ _ upd_same)
      have sH3 := sH2.trans (sa.trans sb)
      generalize upd (upd H2 a (.lst (((wz z).drop 1).map V.str))) b (SetS P w b (cntS ((wz z).drop 1))) = H3 at sb hb3 ha2 sH3 ⊢
      refine ⟨b, _, P, w, rfl, hb3, ?_⟩
      refine to_len (.inl ha2) ?_
      rw [List.length_map]
      walk_at "rs"
      have hcn := cntS_le ((wz z).drop 1)
      refine ite2 (fun c => ?_) (fun c => ?_)
      · refine ⟨.int i, rfl, fun dx hd => ?_⟩
        exact qE 1 dx _ (errK_twice hh hs fun n => by have := hcn.2.mpr n; omega) (sH3.trans (Same.new hd _)) upd_same
      have hnd : ((wz z).drop 1).Nodup := hcn.2.mp (by omega)
      refine to_ixL' (i := ((0 : Nat) : Int)) ha2 (atI_at (str_item (by omega))) ?_
      rw [show ((wz z).drop 1).getD 0 noS = (wz z).getD 1 noS by rw [List.getD_eq_getElem?_getD, List.getElem?_drop, ← List.getD_eq_getElem?_getD]]
      refine ⟨a, _, rfl, ha2, fun c hc' => ?_⟩
      rw [show (some (1 : Int)) = some ((1 : Nat) : Int) from rfl, cut_dropM, ← List.map_drop, List.drop_drop]
      have sc := Same.new hc' (.lst (((wz z).drop (1 + 1)).map V.str))
      refine ⟨c, _, rfl, .inl ⟨SqL.of upd_same, fun u hu' => ?_⟩⟩
      have sU := Same.new hu' (.tup (((wz z).drop (1 + 1)).map V.str))
      refine ⟨by decide, fun t ht => ?_⟩
      have st := Same.new ht (.tup [.str "sees", .str ((wz z).getD 1 noS), .ref u])
      exact q t _ (errK_sees hh hs hnd) (sH3.trans (sc.trans (sU.trans st))) (.inr ⟨hh, hs, u, upd_same, st _ _ upd_same⟩)
end
section
variable {P : Program} {w : World} {K : PySem.W.Frag} {mg : Str → Option Value} {base : Heap} {er : Str → Addr}
/-! ### an item of the script -/
theorem ds_law_cell_at : DS (defScope s_law_cell_at) ["script", "k"] ["script", "k"] ["len"] := ds_of (by decide +kernel)
theorem ok_at (B : Bn mg) (D : Def K mg "_law_cell_at" s_law_cell_at) : Fn P w K mg base 1 "_law_cell_at" ["script", "k"] (spAt K) := by
  refine D.gq ds_law_cell_at (fun _ _ _ _ _ _ us hl => match us, hl with | [_, _], _ => rfl) (fun vs H Q E h => ?_) ?_
  · obtain ⟨a, ns, k, rfl, _⟩ := h; rfl
  intro X S e1 e2 e3 e4 e5 hc hsc hxe hr hu H vs Q E h
  subst e1 e2 e3 e4 e5
  obtain ⟨a, ns, k, rfl, ha, q⟩ := h
  refine ⟨_, (ss_cons (sif (tcmp op_lt (kv S 1) (kcb S 0 (call_lenK (K := X.K) rfl) B.len boot_len (kb_cons (kv S 0) kb_nil)) (nomark _)) (ss_one (sret (kix (ix_listK (K := X.K) rfl) (kv S 0) (kv S 1) (fun _ _ => rfl)))) ss_nil)
      (ss_one (sret kint))), ?_⟩
  walk_at "rd"
  refine to_len (.inl ha) ?_
  rw [List.length_map]
  walk_at "rd"
  refine ite2 (fun c => ?_) (fun c => ?_)
  · exact to_ixLk ha rfl (by omega) (q _)
  · exact q 0
/-! ### draws, fresh words -/
theorem ds_law_draws : DS (defScope s_law_draws) ["cell", "count", "number", "drawn", "k"] ["cell", "count"] ["range"] := ds_of (by decide +kernel)
theorem ok_drawsL (B : Bn mg) (D : Def K mg "_law_draws" s_law_draws) : Fn P w K mg base 1 "_law_draws" ["cell", "count"] spDrawsL := by
  refine D.gq ds_law_draws (fun _ _ _ _ _ _ us hl => match us, hl with | [_, _], _ => rfl) (fun vs H Q E h => ?_) ?_
  · obtain ⟨cell, n, rfl, _⟩ := h; rfl
  intro X S e1 e2 e3 e4 e5 hc hsc hxe hr hu H vs Q E h
  subst e1 e2 e3 e4 e5
  obtain ⟨cell, n, rfl, hn, q⟩ := h
  refine ⟨_, (ss_cons (ssv S 2 (kmodc (kmulc (kop op_add (kmodc (kv S 0)) kint))))
      (ss_cons (ssv S 3 (kls kb_nil))
      (ss_cons (sfor hxe hc (irg1 S 0 B.range (kb_cons (kv S 1) kb_nil)) (kg S 4) (ss_cons (ssv S 2 (kmodc (kmulc (kv S 2))))
      (ss_one (sexpr (kmb PySem.F.plainAttrs_list PySem.F.slot_list_append PySem.F.type_list_append mt_append (K := X.K) rfl (kv S 3) (kb_cons (kdivc (kmodc (kop op_mulG (kv S 2) (kv S 2)))) kb_nil))))))
      (ss_one (sret (kv S 3)))))), ?_⟩
  walk_at "rd"
  refine ⟨by decide, fun l hl => ?_⟩
  refine forR n (InvDw H cell n l) rfl (by omega) ⟨_, [], _, rfl, Same.new hl _, upd_same, rfl, (fun x hx => nomatch hx)⟩ ?_ ?_
  · rintro k σ H1 hk ⟨num, ns, y, rfl, hS, hl1, hlen, hnn⟩
    walk_at "rd"
    have h0 := Int.emod_nonneg (num * 45742) (show (2147483543 : Int) ≠ 0 by decide)
    have h1 := Int.emod_lt_of_pos (num * 45742) (show (0 : Int) < 2147483543 by decide)
    generalize num * 45742 % 2147483543 = nm at h0 h1 ⊢
    refine ⟨.inl ⟨rfl, _, SqL.of hl1⟩, ok_left (by omega) (by omega), ?_⟩
    refine ⟨l, _, _, rfl, rfl, hl1, by rw [List.length_map]; exact small1000 (by omega), ?_⟩
    refine ⟨_, ns ++ [nm * nm % 2147483579 / 7], _, rfl, hS.set hl _, by rw [upd_same, List.map_append]; rfl, by rw [List.length_append, hlen]; rfl, fun x hx => ?_⟩
    rcases List.mem_append.mp hx with z | z
    · exact hnn x z
    · rw [List.mem_singleton.mp z]; omega
  · rintro σ H1 ⟨num, ns, y, rfl, hS, hl1, hlen, hnn⟩
    walk_at "rd"
    exact q l ns H1 hS hl hl1 hlen hnn
theorem ds_law_fresh : DS (defScope s_law_fresh) ["number", "size", "letters", "name", "k"] ["number", "size"] ["range"] := ds_of (by decide +kernel)
theorem ok_fresh (B : Bn mg) (D : Def K mg "_law_fresh" s_law_fresh) : Fn P w K mg base 1 "_law_fresh" ["number", "size"] spFresh := by
  refine D.gq ds_law_fresh (fun _ _ _ _ _ _ us hl => match us, hl with | [_, _], _ => rfl) (fun vs H Q E h => ?_) ?_
  · obtain ⟨num, k, rfl, _⟩ := h; rfl
  intro X S e1 e2 e3 e4 e5 hc hsc hxe hr hu H vs Q E h
  subst e1 e2 e3 e4 e5
  obtain ⟨num, n, rfl, hn, q⟩ := h
  refine ⟨_, (ss_cons (ssv S 2 kstr)
      (ss_cons (ssv S 3 kstr)
      (ss_cons (sfor hxe hc (irg1 S 0 B.range (kb_cons (kv S 1) kb_nil)) (kg S 4) (ss_cons (ssv S 0 (kmodc (kop op_add (kmulc (kv S 0)) kint)))
      (ss_one (ssv S 3 (kop op_add_str (kv S 3) (kix ix_str (kv S 2) (kmodc (kdivc (kv S 0))) (fun _ _ => rfl)))))))
      (ss_one (sret (kv S 3)))))), ?_⟩
  walk_at "rd"
  refine forR n (InvFr H n) rfl (by omega) ⟨_, _, _, rfl, rfl, rfl, (fun c hc => nomatch hc)⟩ ?_ ?_
  · rintro k σ H1 hk ⟨num, z, y, rfl, rfl, hz, hlow⟩
    walk_at "rd"
    obtain ⟨c, ec, hlc⟩ := let_at (i := (num * 48271 + 11) % 2147483647 / 23 % 26) (by omega) (by omega)
    refine ⟨letS, _, c, rfl, rfl, by decide +kernel, ec, ?_⟩
    refine ⟨_, _, rfl, rfl, ?_, ?_⟩
    · show z.length + 1 ≤ sizeLine
      have : (100 : Nat) ≤ sizeLine := by decide
      omega
    · exact ⟨_, z ++ ⟨#[c]⟩, _, rfl, rfl, by rw [len_append, hz]; rfl, hlow.append hlc⟩
  · rintro σ H1 ⟨num, z, y, rfl, rfl, hz, hlow⟩
    walk_at "rd"
    exact q z hz hlow
end
section
variable {P : Program} {w : World} {K : PySem.W.Frag} {mg : Str → Option Value} {base : Heap} {er : Str → Addr}
/-! ### names -/
theorem seqI {A B : TS} {D : Ends} {σ : L2.St} {H : Hp} (I : L2.St → Hp → Prop) (h2 : ∀ σ' H', I σ' H' → B D σ' H') (h1 : ∀ R : L2.St → Hp → Prop, (∀ σ' H', I σ' H' → R σ' H') → A { D with nx := R } σ H) : tSeq A B D σ H := h1 (B D) h2
theorem dr_at {K : PySem.W.Frag} {dn : List Int} {H : Hp} {dr : Addr} {i : Int} {m : Nat} {Q : VK} (hd : H dr = some (.lst (dn.map V.int))) (hl : dn.length = m) (hnn : ∀ x ∈ dn, 0 ≤ x) (h0 : 0 ≤ i) (h1 : i < m) (q : ∀ x : Int, 0 ≤ x → Q (.int x) H) : rIxL K (.ref dr) (.int i) H Q := by
  obtain ⟨m, rfl⟩ := Int.eq_ofNat_of_zero_le h0
  have hm : m < dn.length := by omega
  exact to_ixL' (SqL.of hd) (atI_at (by rw [List.getElem?_map, List.getElem?_eq_getElem hm]; rfl)) (q _ (hnn _ (List.getElem_mem hm)))
def InvNx (H0 : Hp) (cell : Int) (n : Nat) (sm dr : Addr) (base : Str) (a : Nat) (l : Addr) (dn : List Int) (k : Nat) (σ : L2.St) (H : Hp) : Prop := ∃ (ns : List Str) (name : Str) (y3 y4 : Option V), σ = [some (.int cell), some (.int n), some (.str letS), some (.ref sm), some (.ref dr), some (.str base), some (.int a), some (.ref l), some (.int k), some (.str name), y3, y4] ∧ Same H0 H ∧ H l = some (.lst (ns.map V.str)) ∧ H sm = some (.lst (someS.map V.str)) ∧ H dr = some (.lst (dn.map V.int)) ∧ Nms ns k ∧ (1 ≤ k → ns ≠ []) ∧ nameB name = true
theorem nms_put {ns : List Str} {k : Nat} {x : Str} (h : Nms ns k) (hx : nameB x = true) (hn : x ∉ ns) : Nms (ns ++ [x]) (k + 1) where
  few := by rw [List.length_append]; have := h.few; simp; omega
  nd := List.nodup_append.mpr ⟨h.nd, by simp, fun a ha b hb => by rw [List.mem_singleton.mp hb]; rintro rfl; exact hn ha⟩
  nm := fun y hy => by
    rcases List.mem_append.mp hy with z | z
    · exact h.nm y z
    · rw [List.mem_singleton.mp z]; exact hx
theorem nms_more {ns : List Str} {k m : Nat} (h : Nms ns k) (hk : k ≤ m) : Nms ns m := ⟨Nat.le_trans h.few hk, h.nd, h.nm⟩
def twS : Str := "abcdefghijkl"
theorem tw_low : LowS twS := by
  have h : ∀ c ∈ cz twS, lowB c = true := by decide +kernel
  exact h
theorem tw_len : twS.length = 12 := by decide +kernel
theorem ds_law_names : DS (defScope s_law_names) ["cell", "size", "letters", "some", "drawn", "base", "at", "names", "k", "name", "sign", "width"] ["cell", "size"] ["_law_draws", "_law_fresh", "len", "range"] := ds_of (by decide +kernel)
theorem ok_names (B : Bn mg) (D : Def K mg "_law_names" s_law_names) (F_law_draws : Fn P w K mg base 1 "_law_draws" ["cell", "count"] spDrawsL) (F_law_fresh : Fn P w K mg base 1 "_law_fresh" ["number", "size"] spFresh) : Fn P w K mg base 2 "_law_names" ["cell", "size"] spNames := by
  refine D.gq ds_law_names (fun _ _ _ _ _ _ us hl => match us, hl with | [_, _], _ => rfl) (fun vs H Q E h => ?_) ?_
  · obtain ⟨cell, n, rfl, _⟩ := h; rfl
  intro X S e1 e2 e3 e4 e5 hc hsc hxe hr hu H vs Q E h
  subst e1 e2 e3 e4 e5
  obtain ⟨cell, n, rfl, hn1, hn, q⟩ := h
  refine ⟨_, (ss_cons (ssv S 2 kstr)
      (ss_cons (ssv S 3 (kls (kb_strs (ns := ["hat", "sees", "put", "guess", "right", "ring", "order", "book", "sure", "share", "groups"]) (by decide +kernel))))
      (ss_cons (ssv S 3 (kop (op_catLK (K := X.K) rfl) (kv S 3) (kls (kb_cons kstr (kb_cons kstr kb_nil)))))
      (ss_cons (ssv S 4 (kff S 0 F_law_draws hr (kb_cons (kv S 0) (kb_cons kint kb_nil))))
      (ss_cons (ssv S 5 (kff S 1 F_law_fresh hr (kb_cons (kix (ix_listK (K := X.K) rfl) (kv S 4) kint (fun _ _ => rfl)) (kb_cons (kop op_add kint (kmodc (kix (ix_listK (K := X.K) rfl) (kv S 4) kint (fun _ _ => rfl)))) kb_nil))))
      (ss_cons (ssv S 6 (kop op_mod (kix (ix_listK (K := X.K) rfl) (kv S 4) kint (fun _ _ => rfl)) (kcb S 2 call_len_str B.len boot_len (kb_cons (kv S 5) kb_nil))))
      (ss_cons (ssv S 7 (kls kb_nil))
      (ss_cons (sfor hxe hc (irg1 S 3 B.range (kb_cons (kv S 1) kb_nil)) (kg S 8) (ss_cons (ssv S 9 (kff S 1 F_law_fresh hr (kb_cons (kix (ix_listK (K := X.K) rfl) (kv S 4) (kop op_add kint (kv S 8)) (fun _ _ => rfl)) (kb_cons (kop op_add kint (kmodc (kix (ix_listK (K := X.K) rfl) (kv S 4) (kop op_add kint (kv S 8)) (fun _ _ => rfl)))) kb_nil))))
      (ss_cons (sif (tcmp op_lt (kmodc (kix (ix_listK (K := X.K) rfl) (kv S 4) kint (fun _ _ => rfl))) kint (nomark _)) (ss_cons (ssv S 10 (kix ix_str (kv S 2) (kmodc (kop op_add (kix (ix_listK (K := X.K) rfl) (kv S 4) kint (fun _ _ => rfl)) (kop op_mulG (kv S 8) (kix (ix_listK (K := X.K) rfl) (kls (kb_ints (ns := [1, 3, 5, 7, 9, 11]) (by decide +kernel))) (kmodc (kix (ix_listK (K := X.K) rfl) (kv S 4) kint (fun _ _ => rfl))) (fun _ _ => rfl))))) (fun _ _ => rfl)))
      (ss_one (ssv S 9 (kop op_add_str (kop op_add_str (ksl sl_str (kv S 5) ko_none (ko_some (kv S 6))) (kv S 10)) (ksl sl_str (kv S 5) (ko_some (kop op_add (kv S 6) kint)) ko_none))))) ss_nil)
      (ss_cons (sif (tcmp op_eq (kmodc (kix (ix_listK (K := X.K) rfl) (kv S 4) kint (fun _ _ => rfl))) kint (nomark _)) (ss_one (ssv S 9 (kix (ix_listK (K := X.K) rfl) (kv S 3) (kmodc (kop op_add (kix (ix_listK (K := X.K) rfl) (kv S 4) kint (fun _ _ => rfl)) (kcmul (kv S 8)))) (fun _ _ => rfl)))) ss_nil)
      (ss_cons (sif (tcmp op_eq (kmodc (kix (ix_listK (K := X.K) rfl) (kv S 4) kint (fun _ _ => rfl))) kint (nomark _)) (ss_cons (ssv S 11 (kop op_add kint (kmodc (kop op_add (kcmul (kv S 8)) (kix (ix_listK (K := X.K) rfl) (kv S 4) kint (fun _ _ => rfl))))))
      (ss_one (ssv S 9 (kix (ix_listK (K := X.K) rfl) (kls (kb_cons (ksl sl_str (kop op_add_str (kv S 5) kstr) ko_none (ko_some (kv S 11))) (kb_cons (ksl sl_str (kop op_add_str kstr (kv S 5)) (ko_some (kun un_neg (kv S 11))) ko_none) kb_nil))) (kmodc (kix (ix_listK (K := X.K) rfl) (kv S 4) kint (fun _ _ => rfl))) (fun _ _ => rfl))))) ss_nil)
      (ss_one (sif (tcmp (op_notInK (K := X.K) rfl) (kv S 9) (kv S 7) (by with_unfolding_all rfl)) (ss_one (sexpr (kmb PySem.F.plainAttrs_list PySem.F.slot_list_append PySem.F.type_list_append mt_append (K := X.K) rfl (kv S 7) (kb_cons (kv S 9) kb_nil)))) ss_nil)))))))
      (ss_one (sret (kv S 7))))))))))), ?_⟩
  walk_at "rs"
  rw [q_seq]
  walk_at "rs"
  walk_at "rs"
  rw [q_seq]
  walk_at "rs"
  refine ⟨by decide, fun s0 hs0 => ?_⟩
  have a0 := Same.new hs0 (.lst [V.str "hat", V.str "sees", V.str "put", V.str "guess", V.str "right", V.str "ring", V.str "order", V.str "book", V.str "sure", V.str "share", V.str "groups"])
  walk_at "rs"
  rw [q_seq]
  walk_at "rs"
  refine ⟨by decide, fun s1 hs1 => ?_⟩
  have a1 := Same.new hs1 (.lst [V.str "circle", V.str "hats"])
  refine ⟨s0, s1, _, _, rfl, rfl, SqL.of (a1 _ _ upd_same), SqL.of upd_same, by decide, fun sm hsm => ?_⟩
  have a2 := Same.new hsm (.lst (someS.map V.str))
  walk_at "rs"
  rw [q_seq]
  walk_at "rs"
  have b0 := a0.trans (a1.trans a2)
  have hsm' : upd (upd (upd H s0 (.lst [V.str "hat", V.str "sees", V.str "put", V.str "guess", V.str "right", V.str "ring", V.str "order", V.str "book", V.str "sure", V.str "share", V.str "groups"])) s1 (.lst [V.str "circle", V.str "hats"])) sm (.lst (someS.map V.str)) sm = some (.lst (someS.map V.str)) := upd_same
  refine ⟨cell, 40, rfl, by decide, fun dr dn H1 t1 hdr0 hdr hdn hnn => ?_⟩
  have b1 := b0.trans t1
  have hsm1 := t1 _ _ hsm'
  walk_at "rs"
  rw [q_seq]
  walk_at "rs"
  refine dr_at hdr hdn hnn (by decide) (by decide) fun x0 hx0 => ?_
  refine dr_at hdr hdn hnn (by decide) (by decide) fun x1 hx1 => ?_
  walk_at "rs"
  obtain ⟨m, hm⟩ := Int.eq_ofNat_of_zero_le (show 0 ≤ 1 + x1 % 12 by omega)
  refine ⟨x0, m, by rw [hm], by omega, fun base hbl hlow => ?_⟩
  walk_at "rs"
  rw [q_seq]
  walk_at "rs"
  refine dr_at hdr hdn hnn (by decide) (by decide) fun x2 hx2 => ?_
  walk_at "rs"
  refine ⟨_, rfl, small1M (by omega), ?_⟩
  walk_at "rs"
  refine ⟨by omega, ?_⟩
  have hmod := Int.emod_nonneg x2 (show ((base.length : Nat) : Int) ≠ 0 by omega)
  have hmod' := Int.emod_lt_of_pos x2 (show (0 : Int) < ((base.length : Nat) : Int) by omega)
  generalize x2 % ((base.length : Nat) : Int) = am at hmod hmod' ⊢
  obtain ⟨a, rfl⟩ := Int.eq_ofNat_of_zero_le hmod
  walk_at "rs"
  rw [q_seq]
  walk_at "rs"
  refine ⟨by decide, fun l hl => ?_⟩
  walk_at "rs"
  rw [q_seq]
  walk_at "rs"
  have sl := Same.new hl (.lst [])
  refine forR n (InvNm H cell n sm dr base a l dn) rfl (by omega) ⟨[], _, _, _, _, rfl, b1.trans sl, upd_same, sl _ _ hsm1, sl _ _ hdr, ⟨by simp, by simp, fun x hx => nomatch hx⟩, fun z => absurd z (by decide)⟩ ?_ ?_
  · rintro k σ H2 hk ⟨ns, y1, y2, y3, y4, rfl, hS, hl2, hsm2, hdr2, hns, hne⟩
    walk_at "rs"
    rw [q_seq]
    walk_at "rs"
    refine dr_at hdr2 hdn hnn (by omega) (by omega) fun x3 hx3 => ?_
    walk_at "rs"
    refine dr_at hdr2 hdn hnn (by omega) (by omega) fun x4 hx4 => ?_
    walk_at "rs"
    obtain ⟨m4, hm4⟩ := Int.eq_ofNat_of_zero_le (show 0 ≤ 1 + x4 % 12 by omega)
    refine ⟨x3, m4, by rw [hm4], by omega, fun name hbl' hlow' => ?_⟩
    have hnm := name_of hlow' (by omega) (by omega)
    walk_at "rs"
    -- a sign of the base changed
    refine seqI (InvNx H cell n sm dr base a l dn k) ?_ (fun R hR => ?_)
    rotate_left
    · walk_at "rs"
      refine dr_at hdr2 hdn hnn (by decide) (by decide) fun x5 hx5 => ?_
      walk_at "rs"
      refine ite2 (fun c => ?_) (fun c => hR _ _ ⟨ns, name, _, _, rfl, hS, hl2, hsm2, hdr2, hns, hne, hnm⟩)
      walk_at "rs"
      rw [q_seq]
      walk_at "rs"
      refine dr_at hdr2 hdn hnn (by decide) (by decide) fun x6 hx6 => ?_
      walk_at "rs"
      refine ⟨by decide, fun o ho => ?_⟩
      have so := Same.new ho (.lst [V.int 1, V.int 3, V.int 5, V.int 7, V.int 9, V.int 11])
      refine dr_at (so _ _ hdr2) hdn hnn (by decide) (by decide) fun x7 hx7 => ?_
      walk_at "rs"
      refine dr_at (dn := [1, 3, 5, 7, 9, 11]) (m := 6) upd_same rfl (by decide) (by omega) (by omega) fun x8 hx8 => ?_
      walk_at "rs"
      refine ⟨ok_left (by omega) (by omega), ?_⟩
      obtain ⟨c', ec, hlc⟩ := let_at (i := (x6 + (k : Int) * x8) % 26) (by omega) (by omega)
      refine ⟨letS, _, c', rfl, rfl, by decide +kernel, ec, ?_⟩
      walk_at "rs"
      have h100 : (1000 : Nat) ≤ sizeLine := by decide
      obtain ⟨u, hu1⟩ : ∃ u, StrLaws.sliceText base none (some (a : Int)) = u := ⟨_, rfl⟩
      obtain ⟨v, hv1⟩ : ∃ v, StrLaws.sliceText base (some ((a + 1 : Nat) : Int)) none = v := ⟨_, rfl⟩
      have hu2 := slice_to (x := base) (k := a) (by omega)
      have hv2 := slice_from (x := base) (k := a + 1) (by omega)
      rw [hu1] at hu2
      rw [hv1] at hv2
      have hul : u.length = a := by rw [cz_length, hu2, List.length_take, ← cz_length]; omega
      have hvl : v.length = base.length - (a + 1) := by rw [cz_length, hv2, List.length_drop, ← cz_length]
      refine ⟨base, rfl, by rw [hu1]; omega, ?_⟩
      rw [hu1]
      walk_at "rs"
      refine ⟨_, _, rfl, rfl, by rw [hul]; show a + 1 ≤ _; omega, ?_⟩
      refine ⟨base, rfl, by rw [show ((a : Int) + 1) = ((a + 1 : Nat) : Int) from rfl, hv1]; omega, ?_⟩
      rw [show ((a : Int) + 1) = ((a + 1 : Nat) : Int) from rfl, hv1]
      have hl3 : (u ++ (⟨#[c']⟩ : Str)).length = a + 1 := by rw [len_append, hul]; rfl
      refine ⟨_, _, rfl, rfl, by rw [hl3]; omega, ?_⟩
      exact hR _ _ ⟨ns, _, _, _, rfl, hS.trans so, so _ _ hl2, so _ _ hsm2, so _ _ hdr2, hns, hne, name_of (((low_take hlow hu2).append hlc).append (low_drop hlow hv2)) (by rw [len_append, hl3]; omega) (by rw [len_append, hl3]; omega)⟩
    rintro σ3 H3 ⟨ns, name, y3, y4, rfl, hS, hl2, hsm2, hdr2, hns, hne, hnm⟩
    -- some word
    refine seqI (InvNx H cell n sm dr base a l dn k) ?_ (fun R hR => ?_)
    rotate_left
    · walk_at "rs"
      refine dr_at hdr2 hdn hnn (by decide) (by decide) fun x5 hx5 => ?_
      walk_at "rs"
      refine ite2 (fun c => ?_) (fun c => hR _ _ ⟨ns, name, _, _, rfl, hS, hl2, hsm2, hdr2, hns, hne, hnm⟩)
      walk_at "rs"
      refine dr_at hdr2 hdn hnn (by decide) (by decide) fun x6 hx6 => ?_
      walk_at "rs"
      obtain ⟨m6, hm6⟩ := Int.eq_ofNat_of_zero_le (show 0 ≤ (x6 + 5 * (k : Int)) % 13 by omega)
      have hm6' : m6 < someS.length := by have : someS.length = 13 := rfl; omega
      rw [hm6]
      refine to_ixL' (SqL.of hsm2) (atI_at (str_item hm6')) ?_
      exact hR _ _ ⟨ns, _, _, _, rfl, hS, hl2, hsm2, hdr2, hns, hne, someS_ok _ (getD_memS hm6')⟩
    rintro σ3 H3 ⟨ns, name, y3, y4, rfl, hS, hl2, hsm2, hdr2, hns, hne, hnm⟩
    -- a beginning or an end
    refine seqI (InvNx H cell n sm dr base a l dn k) ?_ (fun R hR => ?_)
    rotate_left
    · walk_at "rs"
      refine dr_at hdr2 hdn hnn (by decide) (by decide) fun x5 hx5 => ?_
      walk_at "rs"
      refine ite2 (fun c => ?_) (fun c => hR _ _ ⟨ns, name, _, _, rfl, hS, hl2, hsm2, hdr2, hns, hne, hnm⟩)
      walk_at "rs"
      rw [q_seq]
      walk_at "rs"
      refine dr_at hdr2 hdn hnn (by decide) (by decide) fun x6 hx6 => ?_
      walk_at "rs"
      have h0 : 0 ≤ (5 * (k : Int) + x6) % 12 := by omega
      have h1 : (5 * (k : Int) + x6) % 12 < 12 := by omega
      generalize (5 * (k : Int) + x6) % 12 = wd at h0 h1 ⊢
      obtain ⟨w0, rfl⟩ := Int.eq_ofNat_of_zero_le h0
      rw [show (1 + (w0 : Int)) = ((1 + w0 : Nat) : Int) from rfl]
      have h100 : (1000 : Nat) ≤ sizeLine := by decide
      have hb1 : (base ++ twS).length = base.length + 12 := by rw [len_append, tw_len]
      have hb2 : (twS ++ base).length = 12 + base.length := by rw [len_append, tw_len]
      obtain ⟨u, hu1⟩ : ∃ u, StrLaws.sliceText (base ++ twS) none (some ((1 + w0 : Nat) : Int)) = u := ⟨_, rfl⟩
      obtain ⟨v, hv1⟩ : ∃ v, StrLaws.sliceText (twS ++ base) (some (-((1 + w0 : Nat) : Int))) none = v := ⟨_, rfl⟩
      have hu2 := slice_to (x := base ++ twS) (k := 1 + w0) (by omega)
      have hv2 := slice_back (x := twS ++ base) (k := 1 + w0) (by omega) (by omega)
      rw [hu1] at hu2
      rw [hv1] at hv2
      have hul : u.length = 1 + w0 := by rw [cz_length, hu2, List.length_take, ← cz_length]; omega
      have hvl : v.length = 1 + w0 := by rw [cz_length, hv2, List.length_drop, ← cz_length]; omega
      refine ⟨_, _, rfl, rfl, by rw [show (Str.ofString "abcdefghijkl") = twS from rfl, tw_len]; omega, ?_⟩
      refine ⟨_, rfl, by rw [show (Str.ofString "abcdefghijkl") = twS from rfl, hu1]; omega, ?_⟩
      rw [show (Str.ofString "abcdefghijkl") = twS from rfl, hu1]
      walk_at "rs"
      refine ⟨_, _, rfl, rfl, by rw [tw_len]; omega, ?_⟩
      walk_at "rs"
      refine ⟨_, rfl, by rw [hv1]; omega, ?_⟩
      rw [hv1]
      walk_at "rs"
      refine ⟨by decide, fun o ho => ?_⟩
      have so := Same.new ho (.lst [V.str u, V.str v])
      refine dr_at (so _ _ hdr2) hdn hnn (by decide) (by decide) fun x7 hx7 => ?_
      walk_at "rs"
      have okU := name_of (low_take (hlow.append tw_low) hu2) (by omega) (by omega)
      have okV := name_of (low_drop (tw_low.append hlow) hv2) (by omega) (by omega)
      rcases (show x7 % 2 = 0 ∨ x7 % 2 = 1 by omega) with e | e
      · rw [e]
        refine to_ixL' (i := ((0 : Nat) : Int)) (SqL.of upd_same) (atI_at rfl) ?_
        exact hR _ _ ⟨ns, _, _, _, rfl, hS.trans so, so _ _ hl2, so _ _ hsm2, so _ _ hdr2, hns, hne, okU⟩
      · rw [e]
        refine to_ixL' (i := ((1 : Nat) : Int)) (SqL.of upd_same) (atI_at rfl) ?_
        exact hR _ _ ⟨ns, _, _, _, rfl, hS.trans so, so _ _ hl2, so _ _ hsm2, so _ _ hdr2, hns, hne, okV⟩
    rintro σ3 H3 ⟨ns, name, y3, y4, rfl, hS, hl2, hsm2, hdr2, hns, hne, hnm⟩
    walk_at "rs"
    refine to_inS (.inl (SqL.of hl2)) ?_
    walk_at "rs"
    by_cases c : name ∈ ns
    · rw [decide_eq_true c]
      walk_at "rs"
      exact ⟨ns, _, _, _, _, rfl, hS, hl2, hsm2, hdr2, nms_more hns (by omega), fun _ z => by rw [z] at c; exact nomatch c⟩
    · rw [decide_eq_false c]
      walk_at "rs"
      refine ⟨.inl ⟨rfl, _, SqL.of hl2⟩, ?_⟩
      refine ⟨l, _, _, rfl, rfl, hl2, by rw [List.length_map]; exact small8 (by have := hns.few; omega), ?_⟩
      have hl0 : H l = none := b1.free hl
      have ne1 : sm ≠ l := ne_of_none hsm1 hl
      have ne2 : dr ≠ l := ne_of_none hdr hl
      exact ⟨ns ++ [name], _, _, _, _, rfl, hS.set hl0 _, by rw [upd_same, List.map_append]; rfl, by rw [upd_ne ne1]; exact hsm2, by rw [upd_ne ne2]; exact hdr2, nms_put hns hnm c, fun _ => by simp⟩
  · rintro σ H2 ⟨ns, y1, y2, y3, y4, rfl, hS, hl2, hsm2, hdr2, hns, hne⟩
    walk_at "rs"
    exact q l ns H2 hS (b1.free hl) hl2 (hne hn1) hns
end
section
variable {P : Program} {w : World} {K : PySem.W.Frag} {mg : Str → Option Value} {base : Heap} {er : Str → Addr}
/-! ### a count -/
theorem ds_law_count : DS (defScope s_law_count) ["cell", "k", "drawn", "kind"] ["cell", "k"] ["_law_draws"] := ds_of (by decide +kernel)
theorem ok_count (B : Bn mg) (D : Def K mg "_law_count" s_law_count) (F_law_draws : Fn P w K mg base 1 "_law_draws" ["cell", "count"] spDrawsL) : Fn P w K mg base 2 "_law_count" ["cell", "k"] spCountL := by
  refine D.gq ds_law_count (fun _ _ _ _ _ _ us hl => match us, hl with | [_, _], _ => rfl) (fun vs H Q E h => ?_) ?_
  · obtain ⟨cell, n, rfl, _⟩ := h; rfl
  intro X S e1 e2 e3 e4 e5 hc hsc hxe hr hu H vs Q E h
  subst e1 e2 e3 e4 e5
  obtain ⟨cell, k, rfl, q⟩ := h
  refine ⟨_, (ss_cons (ssv S 2 (kff S 0 F_law_draws hr (kb_cons (kop op_add (kdivc (kv S 0)) (kcmul (kv S 1))) (kb_cons kint kb_nil))))
      (ss_cons (ssv S 3 (kmodc (kix (ix_listK (K := X.K) rfl) (kv S 2) kint (fun _ _ => rfl))))
      (ss_cons (sif (tcmp op_eq (kv S 3) kint (nomark _)) (ss_one (sret (kop op_add kint (kop op_mod (kdivc (kv S 0)) (kop op_sub (kop op_pow kint kint) kint))))) ss_nil)
      (ss_cons (sif (tcmp op_eq (kv S 3) kint (nomark _)) (ss_one (sret (kix (ix_listK (K := X.K) rfl) (kls (kb_cons kint (kb_cons (kop op_sub (kop op_pow kint kint) kint) (kb_cons (kop op_pow kint kint) (kb_ints (ns := [2, 9, 10, 99, 100]) (by decide +kernel)))))) (kmodc (kix (ix_listK (K := X.K) rfl) (kv S 2) kint (fun _ _ => rfl))) (fun _ _ => rfl)))) ss_nil)
      (ss_cons (sif (tcmp op_eq (kv S 3) kint (nomark _)) (ss_one (sret (kop op_add kint (kop op_mod (kop op_add (kop op_add (kop op_mulG (kix (ix_listK (K := X.K) rfl) (kv S 2) kint (fun _ _ => rfl)) (kop op_pow kint kint)) (kop op_mulG (kix (ix_listK (K := X.K) rfl) (kv S 2) kint (fun _ _ => rfl)) (kop op_pow kint kint))) (kix (ix_listK (K := X.K) rfl) (kv S 2) kint (fun _ _ => rfl))) (kop op_sub (kop op_pow kint kint) kint))))) ss_nil)
      (ss_one (sret (kop op_add kint (kmodc (kix (ix_listK (K := X.K) rfl) (kv S 2) kint (fun _ _ => rfl))))))))))), ?_⟩
  walk_at "rd"
  refine ⟨_, 6, rfl, by decide, fun dr dn H1 t1 hdr0 hdr hdn hnn => ?_⟩
  walk_at "rd"
  have e30 : (10 : Int) ^ Int.toNat 30 = 1000000000000000000000000000000 := by decide +kernel
  have e29 : (10 : Int) ^ Int.toNat 29 = 100000000000000000000000000000 := by decide +kernel
  have p30 : (10 : Nat) ^ 30 = 1000000000000000000000000000000 := by decide +kernel
  have fin : ∀ (x : Int) (H' : Hp), 0 < x → x < 1000000000000000000000000000000 → Same H1 H' → Q (.int x) H' := fun x H' h0 h1 s => by
    obtain ⟨c, rfl⟩ := Int.eq_ofNat_of_zero_le (show 0 ≤ x by omega)
    exact q c H' (by omega) (by omega) (t1.trans s)
  refine dr_at hdr hdn hnn (by decide) (by decide) fun x0 hx0 => ?_
  walk_at "rd"
  refine ite2 (fun c => ?_) (fun c => ?_)
  · refine ⟨by unfold CPow; decide, by rw [e30]; decide, ?_⟩
    rw [e30]
    exact fin _ _ (by omega) (by omega) (Same.refl _)
  refine ite2 (fun c1 => ?_) (fun c1 => ?_)
  · refine ⟨by unfold CPow; decide, by unfold CPow; decide, by decide, fun o ho => ?_⟩
    rw [e30, e29]
    have so := Same.new ho (.lst [V.int 1, V.int (1000000000000000000000000000000 - 1), V.int 100000000000000000000000000000, V.int 2, V.int 9, V.int 10, V.int 99, V.int 100])
    refine dr_at (so _ _ hdr) hdn hnn (by decide) (by decide) fun x7 hx7 => ?_
    walk_at "rd"
    obtain ⟨m, hm⟩ := Int.eq_ofNat_of_zero_le (show 0 ≤ x7 % 8 by omega)
    rw [hm]
    have hb : ∀ x ∈ [(1 : Int), 1000000000000000000000000000000 - 1, 100000000000000000000000000000, 2, 9, 10, 99, 100], 0 < x ∧ x < 1000000000000000000000000000000 := by decide +kernel
    have hm8 : m < [(1 : Int), 1000000000000000000000000000000 - 1, 100000000000000000000000000000, 2, 9, 10, 99, 100].length := by show m < 8; omega
    refine to_ixL' (SqL.of upd_same) (atI_at (show ([(1 : Int), 1000000000000000000000000000000 - 1, 100000000000000000000000000000, 2, 9, 10, 99, 100].map V.int)[m]? = _ by rw [List.getElem?_map, List.getElem?_eq_getElem hm8]; rfl)) ?_
    have := hb _ (List.getElem_mem hm8)
    exact fin _ _ this.1 this.2 so
  refine ite2 (fun c2 => ?_) (fun c2 => ?_)
  · refine dr_at hdr hdn hnn (by decide) (by decide) fun x1 hx1 => ?_
    refine ⟨by unfold CPow; decide, ?_⟩
    walk_at "rd"
    refine ⟨ok_right (by decide +kernel) (by decide +kernel), ?_⟩
    refine dr_at hdr hdn hnn (by decide) (by decide) fun x2 hx2 => ?_
    refine ⟨by unfold CPow; decide, ?_⟩
    walk_at "rd"
    refine ⟨ok_right (by decide +kernel) (by decide +kernel), ?_⟩
    refine dr_at hdr hdn hnn (by decide) (by decide) fun x3 hx3 => ?_
    walk_at "rd"
    refine ⟨by unfold CPow; decide, by rw [e30]; decide, ?_⟩
    rw [e30]
    generalize x1 * 10 ^ Int.toNat 18 + x2 * 10 ^ Int.toNat 9 + x3 = y
    exact fin _ _ (by omega) (by omega) (Same.refl _)
  · refine dr_at hdr hdn hnn (by decide) (by decide) fun x1 hx1 => ?_
    walk_at "rd"
    exact fin _ _ (by omega) (by omega) (Same.refl _)
end
section
variable {P : Program} {w : World} {K : PySem.W.Frag} {mg : Str → Option Value} {base : Heap} {er : Str → Addr}
/-! ### the words of a drawn text -/
theorem ds_law_words : DS (defScope s_law_words) ["drawn", "cell", "names", "at", "more", "count", "head"] ["drawn", "cell"] ["_law_names", "len", "str", "_law_count"] := ds_of (by decide +kernel)
theorem ok_words02 (B : Bn mg) (D : Def K mg "_law_words" s_law_words) (F_law_names : Fn P w K mg base 2 "_law_names" ["cell", "size"] spNames) (F_law_count : Fn P w K mg base 2 "_law_count" ["cell", "k"] spCountL) : Fn P w K mg base 3 "_law_words" ["drawn", "cell"] spWords02 := by
  refine D.gq ds_law_words (fun _ _ _ _ _ _ us hl => match us, hl with | [_, _], _ => rfl) (fun vs H Q E h => ?_) ?_
  · obtain ⟨dr, cell, dn, rfl, _⟩ := h; rfl
  intro X S e1 e2 e3 e4 e5 hc hsc hxe hr hu H vs Q E h
  subst e1 e2 e3 e4 e5
  obtain ⟨dr, cell, dn, rfl, hdn, q⟩ := h
  refine ⟨_, (ss_cons (ssv S 2 (ksl (sl_listK (K := X.K) rfl) (kff S 0 F_law_names hr (kb_cons (kdivc (kv S 1)) (kb_cons kint kb_nil))) ko_none (ko_some (kmodc (kix (ix_listK (K := X.K) rfl) (kv S 0) kint (fun _ _ => rfl))))))
      (ss_cons (sif (wpt (wand (tcmp op_eq (kmodc (kix (ix_listK (K := X.K) rfl) (kv S 0) kint (fun _ _ => rfl))) kint (nomark _)) (wand1 (tcmp op_gt (kcb S 1 (call_lenK (K := X.K) rfl) B.len boot_len (kb_cons (kv S 2) kb_nil)) kint (nomark _))))) (ss_cons (ssv S 3 (kop op_mod (kix (ix_listK (K := X.K) rfl) (kv S 0) kint (fun _ _ => rfl)) (kop op_add (kcb S 1 (call_lenK (K := X.K) rfl) B.len boot_len (kb_cons (kv S 2) kb_nil)) kint)))
      (ss_cons (ssv S 4 (kls (kb_cons (kix (ix_listK (K := X.K) rfl) (kv S 2) (kop op_mod (kix (ix_listK (K := X.K) rfl) (kv S 0) kint (fun _ _ => rfl)) (kcb S 1 (call_lenK (K := X.K) rfl) B.len boot_len (kb_cons (kv S 2) kb_nil))) (fun _ _ => rfl)) (kb_cons kstr kb_nil))))
      (ss_one (ssv S 2 (kop (op_catLK (K := X.K) rfl) (kop (op_catLK (K := X.K) rfl) (ksl (sl_listK (K := X.K) rfl) (kv S 2) ko_none (ko_some (kv S 3))) (kls (kb_cons (kix (ix_listK (K := X.K) rfl) (kv S 4) (kmodc (kix (ix_listK (K := X.K) rfl) (kv S 0) kint (fun _ _ => rfl))) (fun _ _ => rfl)) kb_nil))) (ksl (sl_listK (K := X.K) rfl) (kv S 2) (ko_some (kv S 3)) ko_none)))))) ss_nil)
      (ss_cons (ssv S 5 (kct S 2 call_str_int B.str boot_str (kb_cons (kff S 3 F_law_count hr (kb_cons (kv S 1) (kb_cons kint kb_nil))) kb_nil)))
      (ss_cons (sif (tcmp op_eq (kmodc (kix (ix_listK (K := X.K) rfl) (kv S 0) kint (fun _ _ => rfl))) kint (nomark _)) (ss_one (ssv S 5 (kix (ix_listK (K := X.K) rfl) (kls (kb_cons kstr (kb_cons (kop op_add_str kstr (kv S 5)) (kb_cons (kop op_add_str kstr (kv S 5)) (kb_cons (kop op_add_str kstr (kv S 5)) (kb_cons (kop op_mul_str kstr kint) (kb_cons kstr (kb_cons (kop op_add_str (kv S 5) (kop op_mul_str kstr kint)) kb_nil)))))))) (kmodc (kix (ix_listK (K := X.K) rfl) (kv S 0) kint (fun _ _ => rfl))) (fun _ _ => rfl)))) ss_nil)
      (ss_cons (ssv S 6 (kix (ix_listK (K := X.K) rfl) (kls (kb_cons kstr (kb_cons kstr kb_nil))) (kmodc (kix (ix_listK (K := X.K) rfl) (kv S 0) kint (fun _ _ => rfl))) (fun _ _ => rfl)))
      (ss_cons (sif (tcmp op_eq (kmodc (kix (ix_listK (K := X.K) rfl) (kv S 0) kint (fun _ _ => rfl))) kint (nomark _)) (ss_one (ssv S 6 (kix (ix_listK (K := X.K) rfl) (kls (kb_strs (ns := ["hats", "see", "", "Hat", "sees sees", "hat hat", "ha", "seess"]) (by decide +kernel))) (kmodc (kix (ix_listK (K := X.K) rfl) (kv S 0) kint (fun _ _ => rfl))) (fun _ _ => rfl)))) ss_nil)
      (ss_cons (sif (tcmp op_eq (ksl sl_str (kv S 6) ko_none (ko_some kint)) kstr (nomark _)) (ss_one (sret (kop (op_catLK (K := X.K) rfl) (kop (op_catLK (K := X.K) rfl) (kls (kb_cons (kv S 6) kb_nil)) (ksl (sl_listK (K := X.K) rfl) (kv S 2) ko_none (ko_some (kop op_add kint (kdivc (kmodc (kix (ix_listK (K := X.K) rfl) (kv S 0) kint (fun _ _ => rfl)))))))) (kls (kb_cons (kv S 5) kb_nil))))) ss_nil)
      (ss_one (sret (kop (op_catLK (K := X.K) rfl) (kls (kb_cons (kv S 6) kb_nil)) (kv S 2))))))))))), ?_⟩
  walk_at "rs"
  rw [q_seq]
  walk_at "rs"
  refine ⟨_, 8, rfl, by decide, by decide, fun nm0 ns0 H1 t1 hnm0 hnm hne hns => ?_⟩
  walk_at "rs"
  refine to_drn (hdn.mono t1) (by decide) (by decide) fun x0 hx0 => ?_
  walk_at "rs"
  obtain ⟨k0, hk0⟩ := Int.eq_ofNat_of_zero_le (show 0 ≤ x0 % 9 by omega)
  rw [hk0]
  refine to_slT k0 (SqL.of hnm) fun nm1 H2 t2 _ hm2 => ?_
  rw [← List.map_take] at hm2
  have w1 : ∀ x ∈ ns0.take k0, WdOk 13 x := fun x hx => by
    have hn := low_of (hns.nm x (List.mem_of_mem_take hx))
    exact ⟨by omega, OkS.low hn.1⟩
  have l1 : (ns0.take k0).length ≤ 8 := by have := hns.few; rw [List.length_take]; omega
  have sH2 := t1.trans t2
  generalize ns0.take k0 = ns at hm2 w1 l1 ⊢
  try dsimp only
  refine seqJ (InvW1 H dr cell) ?_ (fun R hR => ?_)
  rotate_left
  · have keep : ∀ J y3 y4, Same H J → J nm1 = some (.lst (ns.map V.str)) → R [some (.ref dr), some (.int cell), some (.ref nm1), y3, y4, none, none] J := fun J y3 y4 s m => hR _ _ ⟨nm1, ns, y3, y4, _, _, rfl, s, m, by omega, w1⟩
    walk_at "rs"
    refine to_drn (hdn.mono sH2) (by decide) (by decide) fun x1 hx1 => ?_
    walk_at "rs"
    refine ite2 (fun c => ?_) (fun c => keep _ _ _ sH2 hm2)
    refine to_len (.inl (SqL.of hm2)) ?_
    rw [List.length_map]
    walk_at "rs"
    refine ite2 (fun c1 => ?_) (fun c1 => keep _ _ _ sH2 hm2)
    have hpos : 0 < ns.length := by omega
    rw [q_seq]
    walk_at "rs"
    refine to_drn (hdn.mono sH2) (by decide) (by decide) fun x2 hx2 => ?_
    refine to_len (.inl (SqL.of hm2)) ?_
    rw [List.length_map]
    walk_at "rs"
    refine ⟨by omega, ?_⟩
    obtain ⟨k2, hk2⟩ := Int.eq_ofNat_of_zero_le (show 0 ≤ x2 % ((ns.length : Int) + 1) from Int.emod_nonneg _ (by omega))
    rw [hk2]
    rw [q_seq]
    walk_at "rs"
    refine to_drn (hdn.mono sH2) (by decide) (by decide) fun x3 hx3 => ?_
    refine to_len (.inl (SqL.of hm2)) ?_
    rw [List.length_map]
    walk_at "rs"
    refine ⟨by omega, ?_⟩
    refine to_pickS (SqL.of hm2) (Int.emod_nonneg _ (by omega)) (Int.emod_lt_of_pos _ (by omega)) fun a ha => ?_
    walk_at "rs"
    refine ⟨by decide, fun mo hmo => ?_⟩
    generalize e3 : upd H2 mo _ = H3
    obtain ⟨t3, hm3⟩ := nw hmo e3
    clear e3
    have sH3 := sH2.trans t3
    walk_at "rs"
    refine to_slT k2 (SqL.of (t3 _ _ hm2)) fun q1 H4 t4 _ hm4 => ?_
    rw [← List.map_take] at hm4
    refine to_drn (hdn.mono (sH3.trans t4)) (by decide) (by decide) fun x4 hx4 => ?_
    walk_at "rs"
    refine to_pickS (ss := [a, Str.ofString "abcdefghijklm"]) (SqL.of (t4 _ _ hm3)) (by omega) (by show _ < (2 : Int); omega) fun b hb => ?_
    walk_at "rs"
    have hbw : WdOk 13 b := by
      rcases List.mem_cons.mp hb with rfl | hb
      · exact w1 _ ha
      · rw [List.mem_singleton.mp hb]; exact wdB_ok (by decide +kernel)
    refine ⟨by decide, fun q2 hq2 => ?_⟩
    generalize e5 : upd H4 q2 _ = H5
    obtain ⟨t5, hm5⟩ := nw hq2 e5
    clear e5
    refine to_catV (SqL.of (t5 _ _ hm4)) (SqL.of hm5) (by rw [List.length_map, List.length_take]; show _ + 1 ≤ _; exact small8 (by omega)) fun q3 H6 t6 _ hm6 => ?_
    try dsimp only
    have sH6 := sH3.trans (t4.trans (t5.trans t6))
    refine to_slF k2 (SqL.of ((t3.trans (t4.trans (t5.trans t6))) _ _ hm2)) fun q4 H7 t7 _ hm7 => ?_
    rw [← List.map_drop] at hm7
    refine to_catV (SqL.of (t7 _ _ hm6)) (SqL.of hm7) (by rw [List.length_append, List.length_map, List.length_map, List.length_take, List.length_drop]; show _ + 1 + _ ≤ _; exact small8 (by omega)) fun q5 H8 t8 _ hm8 => ?_
    try dsimp only
    walk_at "rs"
    refine hR _ _ ⟨q5, ns.take k2 ++ [b] ++ ns.drop k2, _, _, _, _, rfl, sH6.trans (t7.trans t8), by rw [hm8, List.map_append, List.map_append]; rfl, ?_, fun x hx => ?_⟩
    · rw [List.length_append, List.length_append, List.length_take, List.length_drop]; show _ + 1 + _ ≤ _; omega
    · rcases List.mem_append.mp hx with hx | hx
      · rcases List.mem_append.mp hx with hx | hx
        · exact w1 x (List.mem_of_mem_take hx)
        · rw [List.mem_singleton.mp hx]; exact hbw
      · exact w1 x (List.mem_of_mem_drop hx)
  rintro σ1 H3 ⟨nm, ws, y3, y4, y5, y6, rfl, s3, hnm3, hw9, hw⟩
  walk_at "rs"
  rw [q_seq]
  walk_at "rs"
  refine ⟨cell, 0, rfl, fun c H4 hc0 hc30 t4 => ?_⟩
  walk_at "rs"
  refine ⟨_, rfl, ?_, ?_⟩
  · rw [Int.natAbs_natCast]
    by_cases z : c = 0
    · omega
    · exact (Nat.log2_lt z).mpr (Nat.lt_trans hc30 (by decide +kernel))
  have hct : WdOk 30 (Str.ofString (toString ((c : Nat) : Int))) := ⟨count_len (count_text hc0 hc30).1, OkS.count (count_text hc0 hc30).1⟩
  have s4 := s3.trans t4
  have hnm4 := t4 _ _ hnm3
  have one : ∀ {x : Str}, wdB 1 x = true → WdOk 59 (x ++ Str.ofString (toString ((c : Nat) : Int))) := fun h => ⟨by have := (wdB_ok h).1; rw [len_append]; have := hct.1; omega, (wdB_ok h).2.app hct.2⟩
  generalize Str.ofString (toString ((c : Nat) : Int)) = ct at hct one ⊢
  try dsimp only
  refine seqJ (InvW2 H dr cell nm ws) ?_ (fun R hR => ?_)
  rotate_left
  · have h1000 : (1000 : Nat) ≤ sizeLine := by decide
    have l1 : (Str.ofString "0").length = 1 := by decide +kernel
    have l2 : (Str.ofString "+").length = 1 := by decide +kernel
    have l3 : (Str.ofString "-").length = 1 := by decide +kernel
    have l4 : (Str.ofString "1").length = 1 := by decide +kernel
    have hl := hct.1
    walk_at "rs"
    refine to_drn (hdn.mono s4) (by decide) (by decide) fun x5 hx5 => ?_
    walk_at "rs"
    refine ite2 (fun c5 => ?_) (fun c5 => hR _ _ ⟨ct, _, _, _, rfl, s4, hnm4, hct.mono (by decide)⟩)
    refine ⟨_, _, rfl, rfl, by rw [l1]; omega, _, _, rfl, rfl, by rw [l2]; omega, _, _, rfl, rfl, by rw [l3]; omega, _, 31, rfl, rfl, by decide, by decide, by rw [l4]; decide, by rw [l4]; decide, fun r1 hr1 hm1 => ?_⟩
    refine ⟨_, 29, rfl, rfl, by decide, by decide, by rw [l1]; decide, by rw [l1]; decide, fun r2 hr2 hm2 => ?_⟩
    rw [l4] at hr1
    rw [l1] at hr2
    refine ⟨_, _, rfl, rfl, by rw [hr2]; omega, ?_⟩
    walk_at "rs"
    refine ⟨by decide, fun p hp => ?_⟩
    generalize e5 : upd H4 p _ = H5
    obtain ⟨t5, hm5⟩ := nw hp e5
    clear e5
    refine to_drn (hdn.mono (s4.trans t5)) (by decide) (by decide) fun x6 hx6 => ?_
    walk_at "rs"
    have okr : ∀ {r : Str} {x : Str}, wdB 1 x = true → (∀ c ∈ cz r, c ∈ cz x) → OkS r := fun h hm c hc => (wdB_ok h).2 c (hm c hc)
    refine to_pickS (ss := [Str.ofString "0", Str.ofString "0" ++ ct, Str.ofString "+" ++ ct, Str.ofString "-" ++ ct, r1, Str.ofString "", ct ++ r2]) (SqL.of hm5) (by omega) (by show _ < (7 : Int); omega) fun x hx => ?_
    walk_at "rs"
    refine hR _ _ ⟨x, _, _, _, rfl, s4.trans t5, t5 _ _ hnm4, ?_⟩
    simp only [List.mem_cons, List.not_mem_nil, or_false] at hx
    rcases hx with rfl | rfl | rfl | rfl | rfl | rfl | rfl
    · exact (wdB_ok (n := 1) (by decide +kernel)).mono (by decide)
    · exact one (by decide +kernel)
    · exact one (by decide +kernel)
    · exact one (by decide +kernel)
    · exact ⟨by omega, okr (x := Str.ofString "1") (by decide +kernel) hm1⟩
    · exact (wdB_ok (n := 1) (by decide +kernel)).mono (by decide)
    · exact ⟨by rw [len_append]; omega, hct.2.app (okr (x := Str.ofString "0") (by decide +kernel) hm2)⟩
  rintro σ2 H5 ⟨cx, y3, y4, y6, rfl, s5, hnm5, hcx⟩
  walk_at "rs"
  rw [q_seq]
  walk_at "rs"
  refine ⟨by decide, fun p hp => ?_⟩
  generalize e6 : upd H5 p _ = H6
  obtain ⟨t6, hm6⟩ := nw hp e6
  clear e6
  have s6 := s5.trans t6
  refine to_drn (hdn.mono s6) (by decide) (by decide) fun x7 hx7 => ?_
  walk_at "rs"
  refine to_pickS (ss := [Str.ofString "hat", Str.ofString "sees"]) (SqL.of hm6) (by omega) (by show _ < (2 : Int); omega) fun hd0 hhd0 => ?_
  have hd9 : WdOk 9 hd0 := by
    have h : ∀ x ∈ [Str.ofString "hat", Str.ofString "sees"], wdB 9 x = true := by decide +kernel
    exact wdB_ok (h _ hhd0)
  walk_at "rs"
  refine seqJ (InvW3 H dr cell nm ws cx) ?_ (fun R hR => ?_)
  rotate_left
  · walk_at "rs"
    refine to_drn (hdn.mono s6) (by decide) (by decide) fun x8 hx8 => ?_
    walk_at "rs"
    refine ite2 (fun c8 => ?_) (fun c8 => hR _ _ ⟨hd0, _, _, rfl, s6, t6 _ _ hnm5, hd9⟩)
    refine ⟨by decide, fun p2 hp2 => ?_⟩
    generalize e7 : upd H6 p2 _ = H7
    obtain ⟨t7, hm7⟩ := nw hp2 e7
    clear e7
    refine to_drn (hdn.mono (s6.trans t7)) (by decide) (by decide) fun x9 hx9 => ?_
    walk_at "rs"
    refine to_pickS (ss := [Str.ofString "hats", Str.ofString "see", Str.ofString "", Str.ofString "Hat", Str.ofString "sees sees", Str.ofString "hat hat", Str.ofString "ha", Str.ofString "seess"]) (SqL.of hm7) (by omega) (by show _ < (8 : Int); omega) fun hd hhd => ?_
    walk_at "rs"
    refine hR _ _ ⟨hd, _, _, rfl, s6.trans t7, t7 _ _ (t6 _ _ hnm5), ?_⟩
    have h : ∀ x ∈ [Str.ofString "hats", Str.ofString "see", Str.ofString "", Str.ofString "Hat", Str.ofString "sees sees", Str.ofString "hat hat", Str.ofString "ha", Str.ofString "seess"], wdB 9 x = true := by decide +kernel
    exact wdB_ok (h _ hhd)
  rintro σ3 H7 ⟨hd, y3, y4, rfl, s7, hnm7, hhd⟩
  walk_at "rs"
  rw [q_seq]
  walk_at "rs"
  refine ⟨hd, rfl, Nat.le_trans (slice_lenT 1) (by have := hhd.1; exact Nat.le_trans this (by decide)), ?_⟩
  walk_at "rs"
  refine ite2 (fun ch => ?_) (fun ch => ?_)
  · refine ⟨by decide, fun p1 hp1 => ?_⟩
    generalize e8 : upd H7 p1 _ = H8
    obtain ⟨t8, hm8⟩ := nw hp1 e8
    clear e8
    refine to_drn (hdn.mono (s7.trans t8)) (by decide) (by decide) fun x10 hx10 => ?_
    walk_at "rs"
    obtain ⟨k9, hk9⟩ := Int.eq_ofNat_of_zero_le (show 0 ≤ 1 + x10 % 5 / 4 by omega)
    have hk2 : k9 ≤ 2 := by omega
    rw [hk9]
    refine to_slT k9 (SqL.of (t8 _ _ hnm7)) fun p2 H9 t9 _ hm9 => ?_
    rw [← List.map_take] at hm9
    refine to_catV (SqL.of (t9 _ _ hm8)) (SqL.of hm9) (by rw [List.length_map, List.length_take]; show 1 + _ ≤ _; exact small8 (by omega)) fun p3 H10 t10 _ hm10 => ?_
    try dsimp only
    refine ⟨by decide, fun p4 hp4 => ?_⟩
    generalize e11 : upd H10 p4 _ = H11
    obtain ⟨t11, hm11⟩ := nw hp4 e11
    clear e11
    refine to_catV (SqL.of (t11 _ _ hm10)) (SqL.of hm11) (by rw [List.length_append, List.length_map, List.length_take]; show 1 + _ + 1 ≤ _; exact small8 (by omega)) fun p5 H12 t12 _ hm12 => ?_
    refine q p5 ([hd] ++ ws.take k9 ++ [cx]) H12 (s7.trans (t8.trans (t9.trans (t10.trans (t11.trans t12))))) (by rw [hm12, List.map_append, List.map_append]; rfl) (by rw [List.length_append, List.length_append, List.length_take]; show 1 + _ + 1 ≤ 11; omega) fun x hx => ?_
    rcases List.mem_append.mp hx with hx | hx
    · rcases List.mem_append.mp hx with hx | hx
      · rw [List.mem_singleton.mp hx]; exact hhd.mono (by decide)
      · exact (hw x (List.mem_of_mem_take hx)).mono (by decide)
    · rw [List.mem_singleton.mp hx]; exact hcx.mono (by decide)
  · refine ⟨by decide, fun p1 hp1 => ?_⟩
    generalize e8 : upd H7 p1 _ = H8
    obtain ⟨t8, hm8⟩ := nw hp1 e8
    clear e8
    refine to_catV (SqL.of hm8) (SqL.of (t8 _ _ hnm7)) (by rw [List.length_map]; show 1 + _ ≤ _; exact small8 (by omega)) fun p2 H9 t9 _ hm9 => ?_
    refine q p2 ([hd] ++ ws) H9 (s7.trans (t8.trans t9)) (by rw [hm9, List.map_append]; rfl) (by rw [List.length_append]; show 1 + _ ≤ 11; omega) fun x hx => ?_
    rcases List.mem_append.mp hx with hx | hx
    · rw [List.mem_singleton.mp hx]; exact hhd.mono (by decide)
    · exact (hw x hx).mono (by decide)
end
section
variable {P : Program} {w : World} {K : PySem.W.Frag} {mg : Str → Option Value} {base : Heap} {er : Str → Addr}
/-! ### a text is spoiled -/
def sgA : Str := " !\"#$&'()*+,-./0123456789:;<=>?@ABCDEFGHIJKLMNOPQRSTUVWXYZ[\\]^_`"
def sgB : Str := "abcdefghijklmnopqrstuvwxyz{|}~"
theorem sg_len : (cz (sgA ++ sgB)).length = 94 := by rw [cz_append, List.length_append]; decide +kernel
theorem sg_ok : OkS (sgA ++ sgB) := OkS.app (OkS.of (by decide +kernel)) (OkS.of (by decide +kernel))
theorem ds_law_spoiled : DS (defScope s_law_spoiled) ["text", "drawn", "signs", "some", "k", "at", "new", "behind"] ["text", "drawn"] ["range", "len"] := ds_of (by decide +kernel)
theorem ok_spoil02 (B : Bn mg) (D : Def K mg "_law_spoiled" s_law_spoiled) : Fn P w K mg base 1 "_law_spoiled" ["text", "drawn"] spSpoil02 := by
  refine D.gq ds_law_spoiled (fun _ _ _ _ _ _ us hl => match us, hl with | [_, _], _ => rfl) (fun vs H Q E h => ?_) ?_
  · obtain ⟨z, dr, dn, rfl, _⟩ := h; rfl
  intro X S e1 e2 e3 e4 e5 hc hsc hxe hr hu H vs Q E h
  subst e1 e2 e3 e4 e5
  obtain ⟨z, dr, dn, rfl, hdn, hz, hok, q⟩ := h
  refine ⟨_, (ss_cons (ssv S 2 kstr)
      (ss_cons (ssv S 2 (kop op_add_str (kv S 2) kstr))
      (ss_cons (ssv S 3 (kls (kb_strs (ns := [" ", "  ", " 1", "0", "\n", "a", "9", " a", "A", "_", "-", "1"]) (by decide +kernel))))
      (ss_cons (sfor hxe hc (irg1 S 0 B.range (kb_cons (kop op_mulG (kdivc (kmodc (kix (ix_listK (K := X.K) rfl) (kv S 1) kint (fun _ _ => rfl)))) (kop op_add kint (kmodc (kix (ix_listK (K := X.K) rfl) (kv S 1) kint (fun _ _ => rfl))))) kb_nil)) (kg S 4) (ss_cons (ssv S 5 (kop op_mod (kix (ix_listK (K := X.K) rfl) (kv S 1) (kop op_add kint (kv S 4)) (fun _ _ => rfl)) (kop op_add (kcb S 1 call_len_str B.len boot_len (kb_cons (kv S 0) kb_nil)) kint)))
      (ss_cons (ssv S 6 (kls (kb_cons (kix (ix_listK (K := X.K) rfl) (kv S 3) (kmodc (kix (ix_listK (K := X.K) rfl) (kv S 1) (kop op_add kint (kv S 4)) (fun _ _ => rfl))) (fun _ _ => rfl)) (kb_cons (kix ix_str (kv S 2) (kmodc (kix (ix_listK (K := X.K) rfl) (kv S 1) (kop op_add kint (kv S 4)) (fun _ _ => rfl))) (fun _ _ => rfl)) (kb_cons kstr kb_nil)))))
      (ss_cons (ssv S 7 (ksl sl_str (kv S 0) (ko_some (kop op_add (kv S 5) (kmodc (kix (ix_listK (K := X.K) rfl) (kv S 1) (kop op_add kint (kv S 4)) (fun _ _ => rfl))))) ko_none))
      (ss_one (ssv S 0 (kop op_add_str (kop op_add_str (ksl sl_str (kv S 0) ko_none (ko_some (kv S 5))) (kix (ix_listK (K := X.K) rfl) (kv S 6) (kmodc (kix (ix_listK (K := X.K) rfl) (kv S 1) (kop op_add kint (kv S 4)) (fun _ _ => rfl))) (fun _ _ => rfl))) (kv S 7))))))))
      (ss_one (sret (kv S 0))))))), ?_⟩
  have h1000 : (1000 : Nat) ≤ sizeLine := by decide
  walk_at "rs"
  rw [q_seq]
  walk_at "rs"
  rw [q_seq]
  walk_at "rs"
  refine ⟨sgA, sgB, rfl, rfl, by decide +kernel, ?_⟩
  have hsg := sg_len
  have hso := sg_ok
  have hsl : (sgA ++ sgB).length ≤ sizeLine := by rw [cz_length, hsg]; decide
  generalize sgA ++ sgB = sg at hsg hso hsl ⊢
  rw [q_seq]
  walk_at "rs"
  refine ⟨by decide, fun sm hsm => ?_⟩
  generalize e1 : upd H sm _ = H1
  obtain ⟨t1, hm1⟩ := nw hsm e1
  clear e1
  have hm1 : H1 sm = some (.lst (smS.map V.str)) := hm1
  rw [q_seq]
  walk_at "rs"
  refine to_drn (hdn.mono t1) (by decide) (by decide) fun x1 hx1 => ?_
  walk_at "rs"
  refine to_drn (hdn.mono t1) (by decide) (by decide) fun x2 hx2 => ?_
  walk_at "rs"
  refine ⟨ok_left (by omega) (by omega), ?_⟩
  obtain ⟨m, hm, hm2⟩ : ∃ m : Nat, x1 % 4 / 2 * (1 + x2 % 2) = (m : Int) ∧ m ≤ 2 := by
    rcases (show x1 % 4 / 2 = 0 ∨ x1 % 4 / 2 = 1 by omega) with h | h
    · exact ⟨0, by rw [h, Int.zero_mul]; rfl, by decide⟩
    · obtain ⟨m, e⟩ := Int.eq_ofNat_of_zero_le (show 0 ≤ 1 + x2 % 2 by omega)
      exact ⟨m, by rw [h, Int.one_mul, e], by omega⟩
  refine forR m (InvSp H1 dr sm sg 700) hm (by omega) ⟨z, _, _, _, _, rfl, Same.refl _, by omega, hok⟩ ?_ ?_
  · rintro k σ H2 hk ⟨y, y4, y5, y6, y7, rfl, s2, hy, hyo⟩
    have hyl : y.length ≤ 710 := by omega
    have dn2 : Dn H2 dr dn 30 := hdn.mono (t1.trans s2)
    walk_at "rs"
    rw [q_seq]
    walk_at "rs"
    refine to_drn dn2 (by omega) (by omega) fun x3 hx3 => ?_
    refine ⟨y, rfl, by omega, ?_⟩
    walk_at "rs"
    refine ⟨by omega, ?_⟩
    obtain ⟨a, ha⟩ := Int.eq_ofNat_of_zero_le (show 0 ≤ x3 % ((y.length : Int) + 1) from Int.emod_nonneg _ (by omega))
    rw [ha]
    rw [q_seq]
    walk_at "rs"
    refine to_drn dn2 (by omega) (by omega) fun x4 hx4 => ?_
    walk_at "rs"
    refine to_pickS (SqL.of (s2 _ _ hm1)) (by omega) (by show _ < (12 : Int); omega) fun b hb => ?_
    refine to_drn dn2 (by omega) (by omega) fun x5 hx5 => ?_
    walk_at "rs"
    obtain ⟨i5, hi5⟩ := Int.eq_ofNat_of_zero_le (show 0 ≤ x5 % 94 by omega)
    have hi94 : i5 < (cz sg).length := by omega
    rw [hi5]
    refine ⟨sg, _, (cz sg).getD i5 0, rfl, rfl, hsl, atI_getD rfl 0 hi94, ?_⟩
    have hcs : WdOk 2 ⟨#[(cz sg).getD i5 0]⟩ := ⟨by show 1 ≤ 2; decide, fun c hc => by
      have e : c = (cz sg).getD i5 0 := by simpa using hc
      rw [e]
      exact hso _ (by rw [List.getD_eq_getElem?_getD, List.getElem?_eq_getElem hi94]; exact List.getElem_mem hi94)⟩
    generalize (⟨#[(cz sg).getD i5 0]⟩ : Str) = s5 at hcs ⊢
    walk_at "rs"
    refine ⟨by decide, fun nw0 hnw => ?_⟩
    generalize e3 : upd H2 nw0 _ = H3
    obtain ⟨t3, hm3⟩ := nw hnw e3
    clear e3
    have dn3 := dn2.mono t3
    rw [q_seq]
    walk_at "rs"
    refine to_drn dn3 (by omega) (by omega) fun x6 hx6 => ?_
    walk_at "rs"
    obtain ⟨a2, ha2⟩ := Int.eq_ofNat_of_zero_le (show 0 ≤ (a : Int) + x6 % 2 by omega)
    rw [ha2]
    refine ⟨y, rfl, Nat.le_trans (slice_lenF a2) (by omega), ?_⟩
    have hbl := slice_lenF (x := y) a2
    have hbo := hyo.slF a2
    have hbe : (StrLaws.sliceText y (some (a2 : Int)) none).length ≤ y.length - a := by rw [cz_length, slice_fromM, List.length_drop, ← cz_length]; omega
    generalize StrLaws.sliceText y (some (a2 : Int)) none = bh at hbl hbo hbe ⊢
    walk_at "rs"
    refine ⟨y, rfl, Nat.le_trans (slice_lenT a) (by omega), ?_⟩
    have hto := hyo.slT a
    have htl : (StrLaws.sliceText y none (some (a : Int))).length ≤ a := by rw [cz_length, slice_toM, List.length_take]; omega
    have htl2 := slice_lenT (x := y) a
    generalize StrLaws.sliceText y none (some (a : Int)) = th at hto htl htl2 ⊢
    refine to_drn dn3 (by omega) (by omega) fun x7 hx7 => ?_
    walk_at "rs"
    refine to_pickS (ss := [b, s5, Str.ofString ""]) (SqL.of hm3) (by omega) (by show _ < (3 : Int); omega) fun w hw => ?_
    have hw2 : WdOk 2 w := by
      simp only [List.mem_cons, List.not_mem_nil, or_false] at hw
      rcases hw with rfl | rfl | rfl
      · exact smS_ok _ hb
      · exact hcs
      · exact wdB_ok (by decide +kernel)
    have hwl := hw2.1
    refine ⟨th, w, rfl, rfl, by omega, ?_⟩
    refine ⟨th ++ w, bh, rfl, rfl, by rw [len_append]; omega, ?_⟩
    walk_at "rs"
    refine ⟨_, _, _, _, _, rfl, s2.trans t3, ?_, (hto.app hw2.2).app hbo⟩
    rw [len_append, len_append]
    omega
  · rintro σ H2 ⟨y, y4, y5, y6, y7, rfl, s2, hy, hyo⟩
    walk_at "rs"
    exact q y H2 (by omega) hyo (t1.trans s2)
end
section
variable {P : Program} {w : World} {K : PySem.W.Frag} {mg : Str → Option Value} {base : Heap} {er : Str → Addr}
/-! ### what is due of a text -/
theorem ds_law_made_of : DS (defScope s_law_made_of) ["word", "signs", "most", "sign"] ["word", "signs", "most"] ["len"] := ds_of (by decide +kernel)
theorem ok_madeOf (B : Bn mg) (D : Def K mg "_law_made_of" s_law_made_of) : Fn P w K mg base 1 "_law_made_of" ["word", "signs", "most"] spMadeOf := by
  refine D.gq ds_law_made_of (fun _ _ _ _ _ _ us hl => match us, hl with | [_, _, _], _ => rfl) (fun vs H Q E h => ?_) ?_
  · obtain ⟨z, y, m, rfl, _⟩ := h; rfl
  intro X S e1 e2 e3 e4 e5 hc hsc hxe hr hu H vs Q E h
  subst e1 e2 e3 e4 e5
  obtain ⟨z, y, m, rfl, hz, q⟩ := h
  refine ⟨_, (ss_cons (sfor hxe hc (istrK (kv S 0) (K := X.K) rfl) (kg S 3) (ss_one (sif (tcmp op_notIn_str (kv S 3) (kv S 1) (by with_unfolding_all rfl)) (ss_one (sret kbl)) ss_nil)))
      (ss_one (sret (kchain op_le op_le kint (kcb S 0 call_len_str B.len boot_len (kb_cons (kv S 0) kb_nil)) (kv S 2))))), ?_⟩
  walk_at "rs"
  rw [q_seq]
  walk_at "rs"
  refine forS (InvMo H z y m) ⟨⟨_, rfl⟩, rfl, rfl⟩ ?_ ?_
  · rintro i σ H1 hi ⟨⟨y3, rfl⟩, rfl, hall⟩
    walk_at "rs"
    refine ⟨_, _, rfl, rfl, ?_⟩
    rw [StrLaws.found_one]
    walk_at "rs"
    have hc1 : (cz z)[i]? = some ((cz z).getD i 0) := by rw [List.getD_eq_getElem?_getD, List.getElem?_eq_getElem hi]; rfl
    by_cases c : (cz z).getD i 0 ∈ cz y
    · rw [decide_eq_true c]
      walk_at "rs"
      refine ⟨⟨_, rfl⟩, rfl, ?_⟩
      rw [List.take_succ, List.all_append, hall, Bool.true_and, hc1]
      show ([(cz z).getD i 0].all fun c => decide (c ∈ cz y)) = true
      rw [List.all_cons, decide_eq_true c]; rfl
    · rw [decide_eq_false c]
      walk_at "rs"
      have : allIn z y = false := by
        refine Bool.eq_false_iff.mpr fun e => c ?_
        exact of_decide_eq_true (List.all_eq_true.mp e _ (List.mem_of_getElem? hc1))
      rw [this, Bool.false_and] at q
      exact q
  · rintro σ H1 ⟨⟨y3, rfl⟩, rfl, hall⟩
    rw [List.take_length] at hall
    walk_at "rs"
    refine ⟨z, rfl, small1M hz, ?_⟩
    rw [show allIn z y = true from hall, Bool.true_and] at q
    refine ite2 (fun c => ?_) (fun c => ?_)
    · rw [show decide (1 ≤ z.length ∧ z.length ≤ m) = decide ((z.length : Int) ≤ (m : Int)) from decide_eq_decide.mpr ⟨fun h => by omega, fun h => by omega⟩] at q
      exact q
    · rw [decide_eq_false (by omega)] at q
      exact q
theorem madeOf_name {z : Str} : (allIn z letS && decide (1 ≤ z.length ∧ z.length ≤ 12)) = nameB z := by unfold nameB; rw [Bool.and_comm]; rfl
theorem fil_getS (l : List Str) (p : Str → Bool) : ((List.range l.length).filter fun i => p (l.getD i noS)).map (fun i => V.str (l.getD i noS)) = (l.filter p).map V.str := by
  have e : l = (List.range l.length).map fun i => l.getD i noS := by
    apply List.ext_getElem
    · simp
    · intro i h1 h2; simp [h1]
  have := List.filter_map (f := fun i => l.getD i noS) (p := p) (l := List.range l.length)
  rw [← e] at this
  rw [this, List.map_map]; rfl
theorem ds_law_due : DS (defScope s_law_due) ["text", "letters", "words"] ["text"] ["int", "len", "_law_made_of", "set", "tuple"] := ds_of (by decide +kernel)
theorem ok_due02 (B : Bn mg) (D : Def K mg "_law_due" s_law_due) (F_law_made_of : Fn P w K mg base 1 "_law_made_of" ["word", "signs", "most"] spMadeOf) : Fn P w K mg base 2 "_law_due" ["text"] spDue02 := by
  refine D.gq ds_law_due (fun _ _ _ _ _ _ us hl => match us, hl with | [_], _ => rfl) (fun vs H Q E h => ?_) ?_
  · obtain ⟨z, rfl, _⟩ := h; rfl
  intro X S e1 e2 e3 e4 e5 hc hsc hxe hr hu H vs Q E h
  subst e1 e2 e3 e4 e5
  obtain ⟨z, rfl, hz, hok, q, q1⟩ := h
  refine ⟨_, (ss_cons (ssv S 1 kstr)
      (ss_cons (ssv S 2 (kmb PySem.F.plainAttrs_str PySem.F.slot_str_split PySem.F.type_str_split mt_str_split (K := X.K) rfl (kv S 0) (kb_cons kstr kb_nil)))
      (ss_cons (sif (tcmp op_gt (kmb PySem.F.plainAttrs_str PySem.F.slot_str_count PySem.F.type_str_count mt_str_count (K := X.K) rfl (kv S 0) (kb_cons kstr kb_nil)) kint (nomark _)) (ss_one (sret (kls (kb_cons kint kb_nil)))) ss_nil)
      (ss_cons (sif (tcmp op_eq (kix (ix_listK (K := X.K) rfl) (kv S 2) kint (fun _ _ => rfl)) kstr (nomark _)) (ss_cons (sif (wpt (wor (tcmp op_ne (kcb S 1 (call_lenK (K := X.K) rfl) B.len boot_len (kb_cons (kv S 2) kb_nil)) kint (nomark _)) (wor1 (tnot (tval (kff S 2 F_law_made_of hr (kb_cons (kix (ix_listK (K := X.K) rfl) (kv S 2) kint (fun _ _ => rfl)) (kb_cons (kv S 1) (kb_cons kint kb_nil))))))))) (ss_one (sret (kls (kb_cons kint kb_nil)))) ss_nil)
      (ss_cons (sif (wpt (wor (tnot (tval (kff S 2 F_law_made_of hr (kb_cons (kix (ix_listK (K := X.K) rfl) (kv S 2) kint (fun _ _ => rfl)) (kb_cons kstr (kb_cons kint kb_nil)))))) (wor1 (tcmp op_eq (kix ix_str (kix (ix_listK (K := X.K) rfl) (kv S 2) kint (fun _ _ => rfl)) kint (fun _ _ => rfl)) kstr (nomark _))))) (ss_one (sret (kls (kb_cons kint kb_nil)))) ss_nil)
      (ss_one (sret (ktp (kb_cons kstr (kb_cons (kix (ix_listK (K := X.K) rfl) (kv S 2) kint (fun _ _ => rfl)) (kb_cons (kct S 0 call_int_str B.int boot_int (kb_cons (kix (ix_listK (K := X.K) rfl) (kv S 2) kint (fun _ _ => rfl)) kb_nil)) kb_nil)))))))) ss_nil)
      (ss_cons (sif (wpt (wor (tcmp op_ne (kix (ix_listK (K := X.K) rfl) (kv S 2) kint (fun _ _ => rfl)) kstr (nomark _)) (wor1 (tcmp op_lt (kcb S 1 (call_lenK (K := X.K) rfl) B.len boot_len (kb_cons (kv S 2) kb_nil)) kint (nomark _))))) (ss_one (sret (kls (kb_cons kint kb_nil)))) ss_nil)
      (ss_cons (sif (tcmp (op_neK hu (K := X.K) rfl) (klc S hc hsc (ilistK (ksl (sl_listK (K := X.K) rfl) (kv S 2) (ko_some kint) ko_none) (K := X.K) rfl) (N := ["word", "letters"]) (W := ["word"]) (G := ["_law_made_of"]) (fv := [none, some 1]) (by decide +kernel) (fun cl C fp s H S2 => ⟨(kg S2 0), (if_one (tnot (tval (kff S2 0 F_law_made_of hr (kb_cons (kv S2 0) (kb_cons (kv S2 1) (kb_cons kint kb_nil))))))), (kv S2 0)⟩)) (kls kb_nil) (nomark _)) (ss_one (sret (kls (kb_cons kint kb_nil)))) ss_nil)
      (ss_cons (sif (tcmp op_lt (kcb S 1 call_lenSS B.len boot_len (kb_cons (kct S 3 (call_setStrK hc (K := X.K) rfl) B.set boot_set (kb_cons (ksl (sl_listK (K := X.K) rfl) (kv S 2) (ko_some kint) ko_none) kb_nil)) kb_nil)) (kop op_sub (kcb S 1 (call_lenK (K := X.K) rfl) B.len boot_len (kb_cons (kv S 2) kb_nil)) kint) (nomark _)) (ss_one (sret (kls (kb_cons kint kb_nil)))) ss_nil)
      (ss_one (sret (ktp (kb_cons kstr (kb_cons (kix (ix_listK (K := X.K) rfl) (kv S 2) kint (fun _ _ => rfl)) (kb_cons (kct S 4 (call_tupK (K := X.K) rfl) B.tuple boot_tuple (kb_cons (ksl (sl_listK (K := X.K) rfl) (kv S 2) (ko_some kint) ko_none) kb_nil)) kb_nil))))))))))))), ?_⟩
  have hfew : (wz z).length ≤ z.length + 1 := split_cnt z
  have hsz : (1000002 : Nat) ≤ sizeLine := by decide
  have hne : 0 < (wz z).length := List.length_pos_iff.mpr (split_ne z 32)
  have hshort : ∀ k, k < (wz z).length → ((wz z).getD k noS).length ≤ 1000000 := fun k hk => Nat.le_trans (split_part (getD_memS hk)) (by omega)
  walk_at "rs"
  rw [q_seq]
  walk_at "rs"
  rw [q_seq]
  walk_at "rs"
  refine ⟨rfl, z, _, rfl, rfl, by decide +kernel, by omega, ?_, fun p hp0 => ?_⟩
  · rw [blank_is]; show (wz z).length ≤ _; omega
  rw [blank_is]
  generalize ep : upd H p _ = H1
  obtain ⟨s1, m1⟩ := nw hp0 ep
  clear ep
  have hw1 : SqL X.K H1 p ((wz z).map V.str) := SqL.of m1
  try dsimp only
  rw [q_seq]
  walk_at "rs"
  have no : errK z = some 0 → ∀ (u : Addr) (J : Hp), Same H1 J → J u = some (.lst [.int 0]) → Q (.ref u) J := fun h u J s m => q1 0 u J h (s1.trans s) m
  refine ⟨rfl, _, _, rfl, rfl, ?_⟩
  walk_at "rs"
  refine ite2 (fun c => ?_) (fun c => ?_)
  · have hn := nl_none (z := z) (occ_mem (c := 10) (by
      rw [show (Str.ofString "\n") = ⟨#[10]⟩ by decide +kernel] at c
      omega))
    refine ⟨by decide, fun u hu0 => ?_⟩
    exact no (errK_no hn.1 hn.2) u _ (Same.new hu0 _) upd_same
  rw [q_seq]
  walk_at "rs"
  refine to_ixL' (i := ((0 : Nat) : Int)) hw1 (atI_at (str_item hne)) ?_
  walk_at "rs"
  refine ite2 (fun c0 => ?_) (fun c0 => ?_)
  · -- a hat line
    have sn : seesB (wz z) = false := by
      unfold seesB
      show (_ && (decide ((wz z).getD 0 noS = "sees") && _)) = false
      rw [c0, show decide (Str.ofString "hat" = Str.ofString "sees") = false by decide +kernel, Bool.false_and, Bool.and_false]
    have hb3 : hatB (wz z) = (decide ((wz z).length = 3) && (nameB ((wz z).getD 1 noS) && countB ((wz z).getD 2 noS))) := by
      unfold hatB
      show (_ && (decide ((wz z).getD 0 noS = "hat") && _)) = _
      rw [c0, decide_eq_true rfl, Bool.true_and]
    rw [q_seq]
    walk_at "rs"
    refine to_len (.inl hw1) ?_
    rw [List.length_map]
    walk_at "rs"
    refine ite2 (fun c3 => ?_) (fun c3 => ?_)
    · refine ⟨by decide, fun u hu0 => ?_⟩
      refine no (errK_no ?_ sn) u _ (Same.new hu0 _) upd_same
      rw [hb3, decide_eq_false (by simp at c3; omega), Bool.false_and]
    have hl3 : (wz z).length = 3 := by simp at c3; omega
    refine to_ixL' (i := ((1 : Nat) : Int)) hw1 (atI_at (str_item (by omega))) ?_
    refine ⟨_, letS, 12, rfl, hshort 1 (by omega), ?_⟩
    rw [madeOf_name]
    cases hn1 : nameB ((wz z).getD 1 noS) with
    | false =>
      walk_at "rs"
      refine ⟨by decide, fun u hu0 => ?_⟩
      refine no (errK_no ?_ sn) u _ (Same.new hu0 _) upd_same
      rw [hb3, hn1, Bool.false_and, Bool.and_false]
    | true =>
      walk_at "rs"
      rw [q_seq]
      walk_at "rs"
      refine to_ixL' (i := ((2 : Nat) : Int)) hw1 (atI_at (str_item (by omega))) ?_
      refine ⟨_, figS, 30, rfl, hshort 2 (by omega), ?_⟩
      have hcb : countB ((wz z).getD 2 noS) = ((allIn ((wz z).getD 2 noS) figS && decide (1 ≤ ((wz z).getD 2 noS).length ∧ ((wz z).getD 2 noS).length ≤ 30)) && decide ((cz ((wz z).getD 2 noS)).getD 0 0 ≠ 48)) := by
        unfold countB
        rw [Bool.and_comm (decide ((cz ((wz z).getD 2 noS)).getD 0 0 ≠ 48)), ← Bool.and_assoc, Bool.and_comm (decide (1 ≤ ((wz z).getD 2 noS).length ∧ ((wz z).getD 2 noS).length ≤ 30))]
        rfl
      cases hd : (allIn ((wz z).getD 2 noS) figS && decide (1 ≤ ((wz z).getD 2 noS).length ∧ ((wz z).getD 2 noS).length ≤ 30)) with
      | false =>
        walk_at "rs"
        refine ⟨by decide, fun u hu0 => ?_⟩
        refine no (errK_no ?_ sn) u _ (Same.new hu0 _) upd_same
        rw [hb3, hcb, hd, Bool.false_and, Bool.and_false, Bool.and_false]
      | true =>
        rw [hd, Bool.true_and] at hcb
        have hlen : 1 ≤ ((wz z).getD 2 noS).length := by
          rw [Bool.and_eq_true] at hd
          exact (of_decide_eq_true hd.2).1
        have h0 : 0 < (cz ((wz z).getD 2 noS)).length := by rw [← cz_length]; omega
        walk_at "rs"
        refine to_ixL' (i := ((2 : Nat) : Int)) hw1 (atI_at (str_item (by omega))) ?_
        refine ⟨_, 0, (cz ((wz z).getD 2 noS)).getD 0 0, rfl, rfl, small1M (hshort 2 (by omega)), ?_, ?_⟩
        · show atI (cz ((wz z).getD 2 noS)) ((0 : Nat) : Int) = _
          exact atI_getD rfl 0 h0
        walk_at "rs"
        have key : decide ((⟨#[(cz ((wz z).getD 2 noS)).getD 0 0]⟩ : Str) = Str.ofString "0") = decide ((cz ((wz z).getD 2 noS)).getD 0 0 = 48) := by
          rw [show Str.ofString "0" = ⟨#[48]⟩ by decide +kernel]
          exact decide_eq_decide.mpr ⟨fun e => by simpa using congrArg cz e, fun e => by rw [e]⟩
        refine ite2 (fun c4 => ?_) (fun c4 => ?_)
        · have e : (cz ((wz z).getD 2 noS)).getD 0 0 = 48 := of_decide_eq_true (by rw [← key]; exact decide_eq_true c4)
          refine ⟨by decide, fun u hu0 => ?_⟩
          refine no (errK_no ?_ sn) u _ (Same.new hu0 _) upd_same
          rw [hb3, hcb, decide_eq_false (show ¬ ((cz ((wz z).getD 2 noS)).getD 0 0 ≠ 48) from fun h => h e), Bool.and_false, Bool.and_false]
        · have e : (cz ((wz z).getD 2 noS)).getD 0 0 ≠ 48 := fun e => c4 (of_decide_eq_true (by rw [key]; exact decide_eq_true e))
          have hc2 : countB ((wz z).getD 2 noS) = true := by rw [hcb]; exact decide_eq_true e
          have hh : hatB (wz z) = true := by rw [hb3, hn1, hc2, decide_eq_true hl3]; rfl
          obtain ⟨cv, hcv⟩ := count_int hc2
          have h30 := count_len hc2
          refine to_ixL' (i := ((1 : Nat) : Int)) hw1 (atI_at (str_item (by omega))) ?_
          refine to_ixL' (i := ((2 : Nat) : Int)) hw1 (atI_at (str_item (by omega))) ?_
          refine ⟨_, cv, rfl, hcv, by omega, ?_⟩
          refine ⟨by decide, fun t ht => ?_⟩
          exact q t _ (errK_hat hh) (s1.trans (Same.new ht _)) (.inl ⟨hh, cv, hcv, upd_same⟩)
  · have hf : hatB (wz z) = false := by
      unfold hatB
      show (_ && (decide ((wz z).getD 0 noS = "hat") && _)) = false
      rw [decide_eq_false c0, Bool.false_and, Bool.and_false]
    rw [q_seq]
    walk_at "rs"
    refine to_ixL' (i := ((0 : Nat) : Int)) hw1 (atI_at (str_item hne)) ?_
    walk_at "rs"
    refine ite2 (fun c1 => ?_) (fun c1 => ?_)
    · refine ⟨by decide, fun u hu0 => ?_⟩
      refine no (errK_no hf ?_) u _ (Same.new hu0 _) upd_same
      unfold seesB
      show (_ && (decide ((wz z).getD 0 noS = "sees") && _)) = false
      rw [decide_eq_false (show ¬ ((wz z).getD 0 noS = "sees") by simpa using c1), Bool.false_and, Bool.and_false]
    have c1' : (wz z).getD 0 noS = "sees" := by simpa using c1
    refine to_len (.inl hw1) ?_
    rw [List.length_map]
    walk_at "rs"
    have hs3 : seesB (wz z) = (decide (3 ≤ (wz z).length) && ((wz z).drop 1).all nameB) := by
      unfold seesB
      show (_ && (decide ((wz z).getD 0 noS = "sees") && _)) = _
      rw [decide_eq_true c1', Bool.true_and]
    refine ite2 (fun c3 => ?_) (fun c3 => ?_)
    · refine ⟨by decide, fun u hu0 => ?_⟩
      refine no (errK_no hf ?_) u _ (Same.new hu0 _) upd_same
      rw [hs3, decide_eq_false (by omega), Bool.false_and]
    have hl3 : 3 ≤ (wz z).length := by omega
    rw [decide_eq_true hl3, Bool.true_and] at hs3
    have hdl : ((wz z).drop 1).length = (wz z).length - 1 := List.length_drop
    rw [q_seq]
    walk_at "rs"
    refine to_slF 1 hw1 fun a H2 s2 _ m2 => ?_
    rw [← List.map_drop] at m2
    refine ⟨a, rfl, ⟨_, SqL.of m2⟩, lc1 (itok_list (SqL.of m2)) (fun i => !nameB (((wz z).drop 1).getD i noS)) (fun i => .str (((wz z).drop 1).getD i noS)) (by rw [List.length_map, hdl]; exact small1000 (by omega)) ?_ ?_⟩
    · intro i J A B' hi hS hA hB
      rw [List.length_map] at hi
      rw [show (((wz z).drop 1).map V.str).getD i .non = .str (((wz z).drop 1).getD i noS) by rw [List.getD_eq_getElem?_getD, str_item hi]; rfl]
      walk_at "rs"
      refine ⟨_, letS, 12, rfl, Nat.le_trans (split_part (List.mem_of_mem_drop (getD_memS hi))) (by omega), ?_⟩
      rw [madeOf_name]
      cases hn : nameB (((wz z).drop 1).getD i noS) with
      | true => walk_at "rs"; exact hB (by rw [hn]; rfl) _ (Same.refl _)
      | false => walk_at "rs"; exact hA (by rw [hn]; rfl) _ (Same.refl _)
    intro acc H3 hacc0 s3 hacc
    rw [List.length_map] at hacc
    rw [fil_getS ((wz z).drop 1) fun x => !nameB x] at hacc
    walk_at "rs"
    refine ⟨by decide, fun nl hnl => ?_⟩
    generalize e4 : upd H3 nl _ = H4
    obtain ⟨s4, m4⟩ := nw hnl e4
    clear e4
    refine ⟨_, _, .lst (SqL.of (s4 _ _ hacc)) (dt_strs _), .lst (SqL.of m4) .nil, list_shaped fun x hx => hok.part (List.mem_of_mem_drop (List.mem_filter.mp hx).1), by decide, ?_⟩
    rw [eqvS_nil]
    have sH4 := s2.trans (s3.trans s4)
    cases hbe : (((wz z).drop 1).filter fun x => !nameB x).isEmpty with
    | false =>
      walk_at "rs"
      refine ⟨by decide, fun u hu0 => ?_⟩
      refine no (errK_no hf ?_) u _ (sH4.trans (Same.new hu0 _)) upd_same
      rw [hs3]
      refine Bool.eq_false_iff.mpr fun e => ?_
      rw [List.filter_eq_nil_iff.mpr fun x hx => by rw [List.all_eq_true.mp e x hx]; decide] at hbe
      cases hbe
    | true =>
      have hs : seesB (wz z) = true := by
        rw [hs3, List.all_eq_true]
        intro x hx
        have := List.filter_eq_nil_iff.mp (List.isEmpty_iff.mp hbe) x hx
        simpa using this
      walk_at "rs"
      rw [q_seq]
      walk_at "rs"
      refine to_slF 1 (sH4.seq hw1) fun a5 H5 s5 _ m5 => ?_
      rw [← List.map_drop] at m5
      refine ⟨a5, (wz z).drop 1, rfl, SqL.of m5, by omega, fun P w b hb => ?_⟩
      generalize e6 : upd H5 b _ = H6
      obtain ⟨s6, m6⟩ := nw hb e6
      clear e6
      have sH6 := sH4.trans (s5.trans s6)
      refine ⟨b, _, P, w, rfl, m6, ?_⟩
      refine to_len (.inl (sH6.seq hw1)) ?_
      rw [List.length_map]
      walk_at "rs"
      have hcn := cntS_le ((wz z).drop 1)
      refine ite2 (fun c => ?_) (fun c => ?_)
      · refine ⟨by decide, fun u hu0 => ?_⟩
        exact q1 1 u _ (errK_twice hf hs fun n => by have := hcn.2.mpr n; omega) (s1.trans (sH6.trans (Same.new hu0 _))) upd_same
      have hnd : ((wz z).drop 1).Nodup := hcn.2.mp (by omega)
      refine to_ixL' (i := ((1 : Nat) : Int)) (sH6.seq hw1) (atI_at (str_item (by omega))) ?_
      refine to_slF 2 (sH6.seq hw1) fun a7 H7 s7 _ m7 => ?_
      rw [← List.map_drop] at m7
      refine ⟨a7, _, rfl, .inl ⟨SqL.of m7, fun u hu' => ?_⟩⟩
      have sU := Same.new hu' (.tup (((wz z).drop 2).map V.str))
      refine ⟨by decide, fun t ht => ?_⟩
      have st := Same.new ht (.tup [.str "sees", .str ((wz z).getD 1 noS), .ref u])
      exact q t _ (errK_sees hf hs hnd) (s1.trans (sH6.trans (s7.trans (sU.trans st)))) (.inr ⟨hf, hs, u, upd_same, st _ _ upd_same⟩)
end
section
variable {P : Program} {w : World} {K : PySem.W.Frag} {mg : Str → Option Value} {base : Heap} {er : Str → Addr}
/-! ### what an error is -/
theorem ds_law_kinds : DS (defScope s_law_kinds) ["e", "some"] ["e"] ["isinstance", "NoLine", "Twice", "Unknown", "TooMany", "LineError", "HatError", "ValueError", "NoAsk", "NoName", "NoHats", "NoGroups", "NoPlan"] := ds_of (by decide +kernel)
theorem ok_kinds02 (B : Bn mg) (ER : ErrT K mg ERN er) (D : Def K mg "_law_kinds" s_law_kinds) : Fn P w K mg base 1 "_law_kinds" ["e"] (spKinds02 ERN er) := by
  refine D.gq ds_law_kinds (fun _ _ _ _ _ _ us hl => match us, hl with | [_], _ => rfl) (fun vs H Q E h => ?_) ?_
  · obtain ⟨a, x, dx, fs, rfl, _⟩ := h; rfl
  intro X S e1 e2 e3 e4 e5 hc hsc hxe hr hu H vs Q E h
  subst e1 e2 e3 e4 e5
  obtain ⟨a, x, dx, fs, rfl, hx, ha, hd, q⟩ := h
  refine ⟨_, (ss_cons (ssv S 1 (kls (kb_cons (kcb S 0 (call_isX (names := ERN) (er := er) (y := "NoLine") ER (by decide)) B.isinstance boot_isinstance (kb_cons (kv S 0) (kb_cons (kcl S 1 ER (by decide)) kb_nil))) (kb_cons (kcb S 0 (call_isX (names := ERN) (er := er) (y := "Twice") ER (by decide)) B.isinstance boot_isinstance (kb_cons (kv S 0) (kb_cons (kcl S 2 ER (by decide)) kb_nil))) (kb_cons (kcb S 0 (call_isX (names := ERN) (er := er) (y := "Unknown") ER (by decide)) B.isinstance boot_isinstance (kb_cons (kv S 0) (kb_cons (kcl S 3 ER (by decide)) kb_nil))) (kb_cons (kcb S 0 (call_isX (names := ERN) (er := er) (y := "TooMany") ER (by decide)) B.isinstance boot_isinstance (kb_cons (kv S 0) (kb_cons (kcl S 4 ER (by decide)) kb_nil))) kb_nil))))))
      (ss_cons (ssv S 1 (kop (op_catLK (K := X.K) rfl) (kv S 1) (kls (kb_cons (kcb S 0 (call_isX (names := ERN) (er := er) (y := "LineError") ER (by decide)) B.isinstance boot_isinstance (kb_cons (kv S 0) (kb_cons (kcl S 5 ER (by decide)) kb_nil))) (kb_cons (kcb S 0 (call_isX (names := ERN) (er := er) (y := "HatError") ER (by decide)) B.isinstance boot_isinstance (kb_cons (kv S 0) (kb_cons (kcl S 6 ER (by decide)) kb_nil))) (kb_cons (kcb S 0 (call_isXV (names := ERN) (er := er) ER) B.isinstance boot_isinstance (kb_cons (kv S 0) (kb_cons (kty S 7 B.ValueError boot_ValueError) kb_nil))) kb_nil))))))
      (ss_cons (ssv S 1 (kop (op_catLK (K := X.K) rfl) (kv S 1) (kls (kb_cons (kcb S 0 (call_isX (names := ERN) (er := er) (y := "NoAsk") ER (by decide)) B.isinstance boot_isinstance (kb_cons (kv S 0) (kb_cons (kcl S 8 ER (by decide)) kb_nil))) (kb_cons (kcb S 0 (call_isX (names := ERN) (er := er) (y := "NoName") ER (by decide)) B.isinstance boot_isinstance (kb_cons (kv S 0) (kb_cons (kcl S 9 ER (by decide)) kb_nil))) (kb_cons (kcb S 0 (call_isX (names := ERN) (er := er) (y := "NoHats") ER (by decide)) B.isinstance boot_isinstance (kb_cons (kv S 0) (kb_cons (kcl S 10 ER (by decide)) kb_nil))) kb_nil))))))
      (ss_one (sret (kop (op_catLK (K := X.K) rfl) (kv S 1) (kls (kb_cons (kcb S 0 (call_isX (names := ERN) (er := er) (y := "NoGroups") ER (by decide)) B.isinstance boot_isinstance (kb_cons (kv S 0) (kb_cons (kcl S 11 ER (by decide)) kb_nil))) (kb_cons (kcb S 0 (call_isX (names := ERN) (er := er) (y := "NoPlan") ER (by decide)) B.isinstance boot_isinstance (kb_cons (kv S 0) (kb_cons (kcl S 12 ER (by decide)) kb_nil))) kb_nil))))))))), ?_⟩
  walk_at "rs"
  rw [q_seq]
  walk_at "rs"
  have isa : ∀ {J : Hp}, Same H J → J a = some (errH a (er x) (some dx)) ∧ ErrV J (some dx) := fun sJ => ⟨sJ _ _ ha, fs, sJ _ _ hd⟩
  have i0 := isa (Same.refl H)
  refine ⟨a, x, some dx, rfl, hx, i0.1, i0.2, a, x, some dx, rfl, hx, i0.1, i0.2, a, x, some dx, rfl, hx, i0.1, i0.2, a, x, some dx, rfl, hx, i0.1, i0.2, by decide, fun p1 hp1 => ?_⟩
  generalize e1 : upd H p1 _ = H1
  obtain ⟨s1, m1⟩ := nw hp1 e1
  try dsimp only
  rw [q_seq]
  walk_at "rs"
  have i1 := isa s1
  refine ⟨a, x, some dx, rfl, hx, i1.1, i1.2, a, x, some dx, rfl, hx, i1.1, i1.2, a, x, some dx, rfl, hx, i1.1, i1.2, by decide, fun p2 hp2 => ?_⟩
  generalize e2 : upd H1 p2 _ = H2
  obtain ⟨s2, m2⟩ := nw hp2 e2
  refine to_catV (SqL.of (s2 _ _ m1)) (SqL.of m2) (by show 7 ≤ _; decide) fun p3 H3 s3 _ m3 => ?_
  try dsimp only
  rw [q_seq]
  walk_at "rs"
  have s03 := s1.trans (s2.trans s3)
  have i3 := isa s03
  refine ⟨a, x, some dx, rfl, hx, i3.1, i3.2, a, x, some dx, rfl, hx, i3.1, i3.2, a, x, some dx, rfl, hx, i3.1, i3.2, by decide, fun p4 hp4 => ?_⟩
  generalize e4 : upd H3 p4 _ = H4
  obtain ⟨s4, m4⟩ := nw hp4 e4
  refine to_catV (SqL.of (s4 _ _ m3)) (SqL.of m4) (by show 10 ≤ _; decide) fun p5 H5 s5 _ m5 => ?_
  try dsimp only
  walk_at "rs"
  have s05 := s03.trans (s4.trans s5)
  have i5 := isa s05
  refine ⟨a, x, some dx, rfl, hx, i5.1, i5.2, a, x, some dx, rfl, hx, i5.1, i5.2, by decide, fun p6 hp6 => ?_⟩
  generalize e6 : upd H5 p6 _ = H6
  obtain ⟨s6, m6⟩ := nw hp6 e6
  refine to_catV (SqL.of (s6 _ _ m5)) (SqL.of m6) (by show 12 ≤ _; decide) fun p7 H7 s7 _ m7 => ?_
  exact q p7 _ (s05.trans (s6.trans s7)) m7
/-! ### what is due of it -/
theorem ds_law_due_kinds : DS (defScope s_law_due_kinds) ["kind"] ["kind"] ["range"] := ds_of (by decide +kernel)
theorem ok_dueK (B : Bn mg) (D : Def K mg "_law_due_kinds" s_law_due_kinds) : Fn P w K mg base 1 "_law_due_kinds" ["kind"] spDueK := by
  refine D.gq ds_law_due_kinds (fun _ _ _ _ _ _ us hl => match us, hl with | [_], _ => rfl) (fun vs H Q E h => ?_) ?_
  · obtain ⟨k, rfl, _⟩ := h; rfl
  intro X S e1 e2 e3 e4 e5 hc hsc hxe hr hu H vs Q E h
  subst e1 e2 e3 e4 e5
  obtain ⟨k, rfl, q⟩ := h
  refine ⟨_, (ss_one (sret (kop (op_catLK (K := X.K) rfl) (kop (op_catLK (K := X.K) rfl) (klc S hc hsc (irg1 S 0 B.range (kb_cons kint kb_nil)) (N := ["k", "kind"]) (W := ["k"]) (G := []) (fv := [none, some 0]) (by decide +kernel) (fun cl C fp s H S2 => ⟨(kg S2 0), if_nil, (kcmp op_eq (kv S2 0) (kv S2 1) (nomark _))⟩)) (kop op_rep (kls (kb_cons kbl kb_nil)) kint)) (kop op_rep (kls (kb_cons kbl kb_nil)) kint)))), ?_⟩
  walk_at "rs"
  refine ⟨4, rfl, by decide, by decide, lc1 itok_range (fun _ => true) (fun i => .bl (decide ((i : Int) = k))) (by decide) ?_ ?_⟩
  · intro i J A B' hi hS hA _
    rw [Int.zero_add]
    walk_at "rs"
    exact hA rfl _ (Same.refl _)
  intro acc H1 hn s1 hacc
  rw [fil_all] at hacc
  walk_at "rs"
  refine ⟨by decide, fun p2 hp2 => ?_⟩
  generalize e2 : upd H1 p2 _ = H2
  obtain ⟨s2, m2⟩ := nw hp2 e2
  refine to_repV 3 m2 (by decide) (by decide) fun p3 H3 s3 _ m3 => ?_
  refine to_catV (SqL.of ((s2.trans s3) _ _ hacc)) (SqL.of m3) (by show 7 ≤ _; decide) fun p4 H4 s4 _ m4 => ?_
  try dsimp only
  refine ⟨by decide, fun p5 hp5 => ?_⟩
  generalize e5 : upd H4 p5 _ = H5
  obtain ⟨s5, m5⟩ := nw hp5 e5
  refine to_repV 5 m5 (by decide) (by decide) fun p6 H6 s6 _ m6 => ?_
  refine to_catV (SqL.of ((s5.trans s6) _ _ m4)) (SqL.of m6) (by show 12 ≤ _; decide) fun p7 H7 s7 _ m7 => ?_
  exact q p7 _ (s1.trans (s2.trans (s3.trans (s4.trans (s5.trans (s6.trans s7)))))) m7
theorem ds_law_whole : DS (defScope s_law_whole) ["found"] ["found"] ["isinstance", "int", "bool"] := ds_of (by decide +kernel)
theorem ok_whole02 (B : Bn mg) (D : Def K mg "_law_whole" s_law_whole) : Fn P w K mg base 1 "_law_whole" ["found"] spWhole02 := by
  refine D.gq ds_law_whole (fun _ _ _ _ _ _ us hl => match us, hl with | [_], _ => rfl) (fun vs H Q E h => ?_) ?_
  · obtain ⟨i, rfl, _⟩ := h; rfl
  intro X S e1 e2 e3 e4 e5 hc hsc hxe hr hu H vs Q E h
  subst e1 e2 e3 e4 e5
  obtain ⟨i, rfl, q⟩ := h
  refine ⟨_, (ss_one (sret (kand (kcb S 0 call_isiK B.isinstance boot_isinstance (kb_cons (kv S 0) (kb_cons (kty S 1 B.int boot_int) kb_nil))) (kone (knot (kcb S 0 call_isiK B.isinstance boot_isinstance (kb_cons (kv S 0) (kb_cons (kty S 2 B.bool boot_bool) kb_nil)))))))), ?_⟩
  walk_at "rd"
  refine to_isi rfl rfl ?_
  walk_at "rd"
  refine to_isi rfl rfl ?_
  walk_at "rd"
  exact q
end
section
variable {P : Program} {w : World} {K : PySem.W.Frag} {mg : Str → Option Value} {base : Heap} {er : Str → Addr}
/-! ### what the program answers -/
theorem ds_law_asked : DS (defScope s_law_asked) ["text", "how", "number", "kinds", "at", "found", "e"] ["text", "how", "number"] ["LineError", "HatError", "read_line", "isinstance", "NoLine", "Twice", "Unknown", "TooMany", "ValueError", "NoAsk", "NoName", "NoHats", "NoGroups", "NoPlan"] := ds_of (by decide +kernel)
theorem errN_ok {j : Nat} : errN j ∈ ERN ∧ hasIn (errN j) = true ∧ isaE (errN j) "LineError" = true := by
  match j with
  | 0 => decide
  | 1 => decide
  | 2 => decide
  | _ + 3 => exact ⟨by show (Str.ofString "TooMany") ∈ ERN; decide, by show hasIn (Str.ofString "TooMany") = true; decide, by show isaE (Str.ofString "TooMany") "LineError" = true; decide⟩
theorem ok_asked02 (B : Bn mg) (ER : ErrT K mg ERN er) (IT : IniT K ERN er) (D : Def K mg "_law_asked" s_law_asked) (F_read_line : FnG P w K mg base 3 "read_line" "text" "line" 0 (spReadR er)) : Fn P w K mg base 4 "_law_asked" ["text", "how", "number"] spAsked02 := by
  refine D.gz ds_law_asked (fun _ _ _ _ _ _ us hl => match us, hl with | [_, _, _], _ => rfl) (fun vs H Q E h => ?_) ?_
  · obtain ⟨z, how, n, rfl, _⟩ := h; rfl
  intro X S e1 e2 e3 e4 e5 hc hsc hown hex hxe hr hu H vs Q E h
  subst e1 e2 e3 e4 e5
  obtain ⟨z, how, n, rfl, hz, q1, q2⟩ := h
  refine ⟨_, (ss_cons (ssv S 3 (kls kb_nil))
      (ss_cons (ssv S 4 kint)
      (ss_cons (ssv S 5 knon)
      (ss_cons (stryH (names := ERN) (er := er) S 0 6 hxe hc hown hex ER (by decide) (xs_one (xif hxe (tcmp op_eq (kv S 1) kint (nomark _)) (xs_one (xset S 5 (kgx1 S hxe 2 F_read_line hr (kb_cons (kv S 0) kb_nil)))) (xs_one (xif hxe (tcmp op_eq (kv S 1) kint (nomark _)) (xs_one (xset S 5 (kgx2 S hxe 2 F_read_line hr (kb_cons (kv S 0) (kb_cons (kv S 2) kb_nil))))) (xs_one (xset S 5 (kgxK S hxe 2 F_read_line hr (kb_cons (kv S 0) kb_nil) (kv S 2))))))))
      (fun a S4 => (ss_cons (ssv S4 3 (kls (kb_cons (kcb S4 3 (call_isX (names := ERN) (er := er) (y := "NoLine") ER (by decide)) B.isinstance boot_isinstance (kb_cons (kv S4 6) (kb_cons (kcl S4 4 ER (by decide)) kb_nil))) (kb_cons (kcb S4 3 (call_isX (names := ERN) (er := er) (y := "Twice") ER (by decide)) B.isinstance boot_isinstance (kb_cons (kv S4 6) (kb_cons (kcl S4 5 ER (by decide)) kb_nil))) (kb_cons (kcb S4 3 (call_isX (names := ERN) (er := er) (y := "Unknown") ER (by decide)) B.isinstance boot_isinstance (kb_cons (kv S4 6) (kb_cons (kcl S4 6 ER (by decide)) kb_nil))) kb_nil)))))
      (ss_cons (ssv S4 3 (kop (op_catLK (K := X.K) rfl) (kv S4 3) (kls (kb_cons (kcb S4 3 (call_isX (names := ERN) (er := er) (y := "TooMany") ER (by decide)) B.isinstance boot_isinstance (kb_cons (kv S4 6) (kb_cons (kcl S4 7 ER (by decide)) kb_nil))) (kb_cons (kcb S4 3 (call_isX (names := ERN) (er := er) (y := "LineError") ER (by decide)) B.isinstance boot_isinstance (kb_cons (kv S4 6) (kb_cons (kcl S4 0 ER (by decide)) kb_nil))) kb_nil)))))
      (ss_cons (ssv S4 3 (kop (op_catLK (K := X.K) rfl) (kv S4 3) (kls (kb_cons (kcb S4 3 (call_isX (names := ERN) (er := er) (y := "HatError") ER (by decide)) B.isinstance boot_isinstance (kb_cons (kv S4 6) (kb_cons (kcl S4 1 ER (by decide)) kb_nil))) (kb_cons (kcb S4 3 (call_isXV (names := ERN) (er := er) ER) B.isinstance boot_isinstance (kb_cons (kv S4 6) (kb_cons (kty S4 8 B.ValueError boot_ValueError) kb_nil))) kb_nil)))))
      (ss_cons (ssv S4 3 (kop (op_catLK (K := X.K) rfl) (kv S4 3) (kls (kb_cons (kcb S4 3 (call_isX (names := ERN) (er := er) (y := "NoAsk") ER (by decide)) B.isinstance boot_isinstance (kb_cons (kv S4 6) (kb_cons (kcl S4 9 ER (by decide)) kb_nil))) (kb_cons (kcb S4 3 (call_isX (names := ERN) (er := er) (y := "NoName") ER (by decide)) B.isinstance boot_isinstance (kb_cons (kv S4 6) (kb_cons (kcl S4 10 ER (by decide)) kb_nil))) (kb_cons (kcb S4 3 (call_isX (names := ERN) (er := er) (y := "NoHats") ER (by decide)) B.isinstance boot_isinstance (kb_cons (kv S4 6) (kb_cons (kcl S4 11 ER (by decide)) kb_nil))) kb_nil))))))
      (ss_cons (ssv S4 3 (kop (op_catLK (K := X.K) rfl) (kv S4 3) (kls (kb_cons (kcb S4 3 (call_isX (names := ERN) (er := er) (y := "NoGroups") ER (by decide)) B.isinstance boot_isinstance (kb_cons (kv S4 6) (kb_cons (kcl S4 12 ER (by decide)) kb_nil))) (kb_cons (kcb S4 3 (call_isX (names := ERN) (er := er) (y := "NoPlan") ER (by decide)) B.isinstance boot_isinstance (kb_cons (kv S4 6) (kb_cons (kcl S4 13 ER (by decide)) kb_nil))) kb_nil)))))
      (ss_one (ssv S4 4 (kle ER IT (kv S4 6)))))))))) (by rw [hsc]; decide +kernel))
      (ss_one (sret (ktp (kb_cons (kv S 3) (kb_cons (kv S 4) (kb_cons (kv S 5) kb_nil)))))))))), ?_⟩
  walk_at "rs"
  rw [q_seq]
  walk_at "rs"
  refine ⟨by decide, fun k0 hk0 => ?_⟩
  generalize e0 : upd H k0 _ = H0
  obtain ⟨s0, m0⟩ := nw hk0 e0
  clear e0
  rw [q_seq]
  walk_at "rs"
  rw [q_seq]
  walk_at "rs"
  refine seqJ (InvAk H z how n) ?_ (fun R hR => ?_)
  · rintro σ H1 ⟨s1, k, ⟨f, hn, rfl, hk, ht⟩ | ⟨j, hj, rfl, hk⟩⟩
    · walk_at "rs"
      refine ⟨by decide, fun t ht0 => ?_⟩
      have st := Same.new ht0 (.tup [.ref k, .int 0, .ref f])
      exact q1 t k f _ hn (s1.trans st) upd_same (st _ _ hk) (ht.mono st)
    · walk_at "rs"
      refine ⟨by decide, fun t ht0 => ?_⟩
      have st := Same.new ht0 (.tup [.ref k, .int (if how = 0 then 0 else n), .non])
      exact q2 j t k _ hj (s1.trans st) upd_same (st _ _ hk)
  refine tryM (fun σ' C d J => ∃ j dx, errK z = some j ∧ σ' = [some (.str z), some (.int how), some (.int n), some (.ref k0), some (.int 0), some .non, none] ∧ C = .ref (er (errN j)) ∧ d = some dx ∧ Same H0 J ∧ J dx = some (.xd [("line", .int (if how = 0 then 0 else n))])) (fun W hW => ?_) ?_
  · have good : ∀ f J, errK z = none → Same H0 J → Told J f z → R [some (.str z), some (.int how), some (.int n), some (.ref k0), some (.int 0), some (.ref f), none] J := fun f J hn sJ ht => hR _ _ ⟨s0.trans sJ, k0, .inl ⟨f, hn, rfl, sJ _ _ m0, ht⟩⟩
    walk_at "rs"
    refine ite2 (fun c => ?_) (fun c => ?_)
    · refine ⟨z, 0, rfl, hz, fun f J hn sJ ht => good f J hn sJ ht, fun j dx J hj sJ hd => hW _ _ _ _ ⟨j, dx, hj, rfl, rfl, rfl, sJ, ?_⟩⟩
      rw [if_pos c]; exact hd
    refine ite2 (fun c1 => ?_) (fun c1 => ?_)
    · refine ⟨z, n, rfl, hz, fun f J hn sJ ht => good f J hn sJ ht, fun j dx J hj sJ hd => hW _ _ _ _ ⟨j, dx, hj, rfl, rfl, rfl, sJ, ?_⟩⟩
      rw [if_neg c]; exact hd
    · refine ⟨z, n, rfl, hz, fun f J hn sJ ht => good f J hn sJ ht, fun j dx J hj sJ hd => hW _ _ _ _ ⟨j, dx, hj, rfl, rfl, rfl, sJ, ?_⟩⟩
      rw [if_neg c]; exact hd
  rintro σ' C d J ⟨j, dx, hj, rfl, rfl, rfl, sJ, hd⟩
  refine ⟨errN j, errN_ok.1, rfl, errN_ok.2.2, fun a ha => ?_⟩
  have hx := (errN_ok (j := j)).1
  have hh := (errN_ok (j := j)).2.1
  have fin : ∀ (k : Addr) (J' : Hp), Same H0 J' → J' k = some (.lst ((kinds02 (errN j)).map V.bl)) → R [some (.str z), some (.int how), some (.int n), some (.ref k), some (.int (if how = 0 then 0 else n)), some .non, none] J' := fun k J' s m => hR _ _ ⟨s0.trans s, k, .inr ⟨j, hj, rfl, m⟩⟩
  generalize errN j = x at hx hh fin ⊢
  generalize ej : upd J a _ = J0
  obtain ⟨sa, ma⟩ := nw ha ej
  clear ej
  have s00 := sJ.trans sa
  have hd0 := sa _ _ hd
  have isa : ∀ {J' : Hp}, Same J0 J' → J' a = some (errH a (er x) (some dx)) ∧ ErrV J' (some dx) := fun s => ⟨s _ _ ma, _, s _ _ hd0⟩
  walk_at "rs"
  rw [q_seq]
  walk_at "rs"
  have i0 := isa (Same.refl J0)
  refine ⟨a, x, some dx, rfl, hx, i0.1, i0.2, a, x, some dx, rfl, hx, i0.1, i0.2, a, x, some dx, rfl, hx, i0.1, i0.2, by decide, fun p1 hp1 => ?_⟩
  generalize e1 : upd J0 p1 _ = J1
  obtain ⟨s1, m1⟩ := nw hp1 e1
  clear e1
  try dsimp only
  rw [q_seq]
  walk_at "rs"
  have i1 := isa s1
  refine ⟨a, x, some dx, rfl, hx, i1.1, i1.2, a, x, some dx, rfl, hx, i1.1, i1.2, by decide, fun p2 hp2 => ?_⟩
  generalize e2 : upd J1 p2 _ = J2
  obtain ⟨s2, m2⟩ := nw hp2 e2
  clear e2
  refine to_catV (SqL.of (s2 _ _ m1)) (SqL.of m2) (by show 5 ≤ _; decide) fun p3 J3 s3 _ m3 => ?_
  try dsimp only
  rw [q_seq]
  walk_at "rs"
  have s03 := s1.trans (s2.trans s3)
  have i3 := isa s03
  refine ⟨a, x, some dx, rfl, hx, i3.1, i3.2, a, x, some dx, rfl, hx, i3.1, i3.2, by decide, fun p4 hp4 => ?_⟩
  generalize e4 : upd J3 p4 _ = J4
  obtain ⟨s4, m4⟩ := nw hp4 e4
  clear e4
  refine to_catV (SqL.of (s4 _ _ m3)) (SqL.of m4) (by show 7 ≤ _; decide) fun p5 J5 s5 _ m5 => ?_
  try dsimp only
  rw [q_seq]
  walk_at "rs"
  have s05 := s03.trans (s4.trans s5)
  have i5 := isa s05
  refine ⟨a, x, some dx, rfl, hx, i5.1, i5.2, a, x, some dx, rfl, hx, i5.1, i5.2, a, x, some dx, rfl, hx, i5.1, i5.2, by decide, fun p6 hp6 => ?_⟩
  generalize e6 : upd J5 p6 _ = J6
  obtain ⟨s6, m6⟩ := nw hp6 e6
  clear e6
  refine to_catV (SqL.of (s6 _ _ m5)) (SqL.of m6) (by show 10 ≤ _; decide) fun p7 J7 s7 _ m7 => ?_
  try dsimp only
  rw [q_seq]
  walk_at "rs"
  have s07 := s05.trans (s6.trans s7)
  have i7 := isa s07
  refine ⟨a, x, some dx, rfl, hx, i7.1, i7.2, a, x, some dx, rfl, hx, i7.1, i7.2, by decide, fun p8 hp8 => ?_⟩
  generalize e8 : upd J7 p8 _ = J8
  obtain ⟨s8, m8⟩ := nw hp8 e8
  clear e8
  refine to_catV (SqL.of (s8 _ _ m7)) (SqL.of m8) (by show 12 ≤ _; decide) fun p9 J9 s9 _ m9 => ?_
  try dsimp only
  walk_at "rs"
  have s09 := s07.trans (s8.trans s9)
  refine ⟨a, x, dx, _, rfl, hx, hh, s09 _ _ ma, s09 _ _ hd0, ?_⟩
  try dsimp only
  walk_at "rs"
  exact fin p9 J9 (s00.trans s09) m9
end
section
variable {P : Program} {w : World} {K : PySem.W.Frag} {mg : Str → Option Value} {base : Heap} {er : Str → Addr}
/-! ### the answer is the due one -/
theorem bls_lay : ∀ bs : List Bool, PyData.canLayAll0 (bs.map PyData.bool) = true
  | [] => by simp [PyData.canLayAll0]
  | b :: bs => by simp [PyData.canLayAll0, PyData.canLay0, bls_lay bs]
theorem bls_depth : ∀ bs : List Bool, PyData.depthAll (bs.map PyData.bool) ≤ 1
  | [] => by simp [PyData.depthAll]
  | b :: bs => by
    have := bls_depth bs
    simp only [List.map_cons, PyData.depthAll, PyData.depth]
    omega
theorem bls_shaped (bs : List Bool) : PySem.SeqAt.shaped (.list (bs.map PyData.bool)) = true := shaped_of (by simp [PyData.canLay0, bls_lay bs]) (by have := bls_depth bs; simp only [PyData.depth]; omega)
theorem bls_all : ∀ bs : List Bool, PyData.eqvAll (bs.map PyData.bool) (bs.map PyData.bool) = true
  | [] => by simp [PyData.eqvAll]
  | b :: bs => by simp [PyData.eqvAll, PyData.eqv, bls_all bs]
theorem bls_eqv (bs : List Bool) : PyData.eqv (.list (bs.map PyData.bool)) (.list (bs.map PyData.bool)) = true := by simp [PyData.eqv, bls_all bs]
theorem ds_law_right : DS (defScope s_law_right) ["text", "how", "number", "due", "kinds", "at", "found"] ["text", "how", "number"] ["_law_due", "_law_asked", "isinstance", "tuple", "_law_whole", "_law_due_kinds"] := ds_of (by decide +kernel)
theorem ok_right02 (B : Bn mg) (D : Def K mg "_law_right" s_law_right) (F_law_due : Fn P w K mg base 2 "_law_due" ["text"] spDue02) (F_law_asked : Fn P w K mg base 4 "_law_asked" ["text", "how", "number"] spAsked02) (F_law_due_kinds : Fn P w K mg base 1 "_law_due_kinds" ["kind"] spDueK) (F_law_whole : Fn P w K mg base 1 "_law_whole" ["found"] spWhole02) : Fn P w K mg base 5 "_law_right" ["text", "how", "number"] spRight02 := by
  refine D.gq ds_law_right (fun _ _ _ _ _ _ us hl => match us, hl with | [_, _, _], _ => rfl) (fun vs H Q E h => ?_) ?_
  · obtain ⟨z, how, n, rfl, _⟩ := h; rfl
  intro X S e1 e2 e3 e4 e5 hc hsc hxe hr hu H vs Q E h
  subst e1 e2 e3 e4 e5
  obtain ⟨z, how, n, rfl, hz, hok, q⟩ := h
  refine ⟨_, (ss_cons (ssv S 3 (kff S 0 F_law_due hr (kb_cons (kv S 0) kb_nil)))
      (ss_cons (sasg (kff S 1 F_law_asked hr (kb_cons (kv S 0) (kb_cons (kv S 1) (kb_cons (kv S 2) kb_nil)))) (gtup hc (K := X.K) (n := 3) rfl (gs_cons (kg S 4) (gs_cons (kg S 5) (gs_cons (kg S 6) gs_nil)))))
      (ss_cons (sif (tval (kcb S 2 call_isiK B.isinstance boot_isinstance (kb_cons (kv S 3) (kb_cons (kty S 3 B.tuple boot_tuple) kb_nil)))) (ss_one (sret (kand (kcmp (op_eqK hu (K := X.K) rfl) (kv S 4) (kls kb_nil) (nomark _)) (kand (kcb S 2 call_isiK B.isinstance boot_isinstance (kb_cons (kv S 6) (kb_cons (kty S 3 B.tuple boot_tuple) kb_nil))) (kone (kcmp (op_eqK hu (K := X.K) rfl) (kv S 6) (kv S 3) (nomark _))))))) ss_nil)
      (ss_cons (sif (tcmp op_eq (kv S 1) kint (nomark _)) (ss_one (ssv S 2 kint)) ss_nil)
      (ss_one (sret (kand (kcmp (op_eqK hu (K := X.K) rfl) (kv S 4) (kff S 5 F_law_due_kinds hr (kb_cons (kix (ix_listK (K := X.K) rfl) (kv S 3) kint (fun _ _ => rfl)) kb_nil)) (nomark _)) (kand (kff S 4 F_law_whole hr (kb_cons (kv S 5) kb_nil)) (kone (kcmp op_eq (kv S 5) (kv S 2) (nomark _))))))))))), ?_⟩
  walk_at "rs"
  rw [q_seq]
  walk_at "rs"
  refine ⟨z, rfl, hz, hok, fun u H1 hn s1 hu0 => ?_, fun j u H1 hj s1 hu0 => ?_⟩
  · try dsimp only
    rw [q_seq]
    walk_at "rs"
    refine ⟨z, how, n, rfl, hz, fun t k f H2 _ s2 ht hk hf => ?_, fun j _ _ _ hj => by rw [hn] at hj; cases hj⟩
    walk_at "rs"
    refine ⟨t, _, rfl, SqT.of ht, rfl, _, _, rfl, _, _, rfl, _, _, rfl, rfl, ?_⟩
    show tSeq _ _ _ [some (V.str z), some (V.int how), some (V.int n), some (V.ref u), some (V.ref k), some (V.int 0), some (V.ref f)] H2
    have both := hf.both (hu0.mono s2)
    obtain ⟨⟨xf, hxf⟩, ⟨xu, hxu⟩⟩ := both.tup
    rw [q_seq]
    walk_at "rs"
    refine to_isi (ty_tup hxu) rfl ?_
    walk_at "rs"
    refine ⟨by decide, fun l hl => ?_⟩
    generalize e3 : upd H2 l _ = H3
    obtain ⟨s3, m3⟩ := nw hl e3
    clear e3
    refine ⟨_, _, .lst (SqL.of (s3 _ _ hk)) .nil, .lst (SqL.of m3) .nil, by decide, by decide, ?_⟩
    rw [show PyData.eqv (.list []) (.list []) = true by decide]
    walk_at "rs"
    refine to_isi (ty_tup (s3 _ _ hxf)) rfl ?_
    walk_at "rs"
    obtain ⟨d, d', h1, h2, h3, h4, h5⟩ := both_eq (K := X.K) (hf.mono s3 |>.both (hu0.mono (s2.trans s3)))
    refine ⟨d, d', h1, h2, h3, h4, ?_⟩
    rw [h5]
    exact q _ (s1.trans (s2.trans s3))
  · try dsimp only
    rw [q_seq]
    walk_at "rs"
    refine ⟨z, how, n, rfl, hz, (fun t k f H2 hn => by rw [hj] at hn; cases hn), fun j' t k H2 hj' s2 ht hk => ?_⟩
    rw [hj] at hj'
    cases hj'
    walk_at "rs"
    refine ⟨t, _, rfl, SqT.of ht, rfl, _, _, rfl, _, _, rfl, _, _, rfl, rfl, ?_⟩
    show tSeq _ _ _ [some (V.str z), some (V.int how), some (V.int n), some (V.ref u), some (V.ref k), some (V.int (if how = 0 then 0 else n)), some V.non] H2
    have hu2 := s2 _ _ hu0
    rw [q_seq]
    walk_at "rs"
    refine to_isi (b := false) (ty_lst hu2) (by decide +kernel) ?_
    walk_at "rs"
    refine seqJ (fun σ J => σ = [some (V.str z), some (V.int how), some (V.int (if how = 0 then 0 else n)), some (V.ref u), some (V.ref k), some (V.int (if how = 0 then 0 else n)), some V.non] ∧ J = H2) ?_ (fun R hR => ?_)
    rotate_left
    · walk_at "rs"
      refine ite2 (fun c => hR _ _ ⟨by rw [if_pos c], rfl⟩) (fun c => hR _ _ ⟨by rw [if_neg c], rfl⟩)
    rintro σ J ⟨rfl, rfl⟩
    generalize (if how = 0 then (0 : Int) else n) = m
    walk_at "rs"
    refine to_ixL' (i := ((0 : Nat) : Int)) (SqL.of hu2) (atI_at rfl) ?_
    refine ⟨j, rfl, fun l H3 s3 m3 => ?_⟩
    rw [← kinds_err (errK_lt hj)] at m3
    refine ⟨_, _, .lst (SqL.of (s3 _ _ hk)) (dt_bls _), .lst (SqL.of m3) (dt_bls _), bls_shaped _, bls_shaped _, ?_⟩
    rw [bls_eqv]
    walk_at "rs"
    refine ⟨m, rfl, ?_⟩
    walk_at "rs"
    exact q _ (s1.trans (s2.trans s3))
end
section
variable {P : Program} {w : World} {K : PySem.W.Frag} {mg : Str → Option Value} {base : Heap} {er : Str → Addr}
/-! ### errors that are made and not raised -/
theorem nw2 {H H1 : Hp} {a dx : Addr} {o p : HO} (ha : H a = none) (hd : H dx = none) (hne : dx ≠ a) (e : upd (upd H dx p) a o = H1) : Same H H1 ∧ H1 a = some o ∧ H1 dx = some p := by
  subst e
  have h1 := Same.new hd p
  have ha1 : upd H dx p a = none := by rw [upd_ne hne.symm]; exact ha
  exact ⟨h1.trans (Same.new ha1 o), upd_same, by rw [upd_ne hne]; exact upd_same⟩
def MadeAt (er : Str → Addr) (H : Hp) (n : Int) (x : Str) (a : Addr) : Prop := ∃ dx, H a = some (errH a (er x) (some dx)) ∧ H dx = some (.xd [("line", .int n)])
theorem MadeAt.mono {er : Str → Addr} {H H' : Hp} {n : Int} {x : Str} {a : Addr} (h : MadeAt er H n x a) (s : Same H H') : MadeAt er H' n x a := let ⟨dx, h1, h2⟩ := h; ⟨dx, s _ _ h1, s _ _ h2⟩
def InvMd (H0 : Hp) (n : Int) (m : Addr) (_ : Nat) (σ : L2.St) (H : Hp) : Prop := ∃ y2 y3 : Option V, σ = [some (.int n), some (.ref m), y2, y3] ∧ Same H0 H
theorem ds_law_made : DS (defScope s_law_made) ["number", "made", "k", "e"] ["number"] ["LineError", "NoLine", "Twice", "Unknown", "TooMany", "range", "_law_kinds", "_law_due_kinds", "_law_whole"] := ds_of (by decide +kernel)
theorem ok_made02 (B : Bn mg) (ER : ErrT K mg ERN er) (IT : IniT K ERN er) (D : Def K mg "_law_made" s_law_made) (F_LineError___init__ : FnM P w K mg base 1 (er "LineError") "__init__" ["self", "line"] (spIni ERN er)) (F_law_kinds : Fn P w K mg base 1 "_law_kinds" ["e"] (spKinds02 ERN er)) (F_law_due_kinds : Fn P w K mg base 1 "_law_due_kinds" ["kind"] spDueK) (F_law_whole : Fn P w K mg base 1 "_law_whole" ["found"] spWhole02) : Fn P w K mg base 3 "_law_made" ["number"] spMade02 := by
  refine D.gq ds_law_made (fun _ _ _ _ _ _ us hl => match us, hl with | [_], _ => rfl) (fun vs H Q E h => ?_) ?_
  · obtain ⟨n, rfl, _⟩ := h; rfl
  intro X S e1 e2 e3 e4 e5 hc hsc hxe hr hu H vs Q E h
  subst e1 e2 e3 e4 e5
  obtain ⟨n, rfl, q⟩ := h
  refine ⟨_, (ss_cons (ssv S 1 (kls (kb_cons (kmke S 0 ER IT F_LineError___init__ hr (kb_cons (kv S 0) kb_nil)) (kb_cons (kmke S 1 ER IT F_LineError___init__ hr (kb_cons (kv S 0) kb_nil)) (kb_cons (kmke S 2 ER IT F_LineError___init__ hr (kb_cons (kv S 0) kb_nil)) (kb_cons (kmke S 3 ER IT F_LineError___init__ hr (kb_cons (kv S 0) kb_nil)) (kb_cons (kmke S 4 ER IT F_LineError___init__ hr (kb_cons (kv S 0) kb_nil)) kb_nil)))))))
      (ss_cons (sfor hxe hc (irg1 S 5 B.range (kb_cons kint kb_nil)) (kg S 2) (ss_cons (ssv S 3 (kix (ix_listK (K := X.K) rfl) (kv S 1) (kv S 2) (fun _ _ => rfl)))
      (ss_one (sif (wpt (wor (tcmp (op_neK hu (K := X.K) rfl) (kff S 6 F_law_kinds hr (kb_cons (kv S 3) kb_nil)) (kff S 7 F_law_due_kinds hr (kb_cons (kop op_sub (kv S 2) kint) kb_nil)) (nomark _)) (wor (tnot (tval (kff S 8 F_law_whole hr (kb_cons (kle ER IT (kv S 3)) kb_nil)))) (wor1 (tcmp op_ne (kle ER IT (kv S 3)) (kv S 0) (nomark _)))))) (ss_one (sret kbl)) ss_nil))))
      (ss_one (sret kbl)))), ?_⟩
  walk_at "rs"
  rw [q_seq]
  walk_at "rs"
  refine ⟨_, rfl, fun a1 d1 ha1 hd1 hn1 => ?_⟩
  generalize e1 : upd (upd H d1 _) a1 _ = H1
  obtain ⟨s1, m1, x1⟩ := nw2 ha1 hd1 hn1 e1
  clear e1
  refine ⟨_, rfl, fun a2 d2 ha2 hd2 hn2 => ?_⟩
  generalize e2 : upd (upd H1 d2 _) a2 _ = H2
  obtain ⟨s2, m2, x2⟩ := nw2 ha2 hd2 hn2 e2
  clear e2
  refine ⟨_, rfl, fun a3 d3 ha3 hd3 hn3 => ?_⟩
  generalize e3 : upd (upd H2 d3 _) a3 _ = H3
  obtain ⟨s3, m3, x3⟩ := nw2 ha3 hd3 hn3 e3
  clear e3
  refine ⟨_, rfl, fun a4 d4 ha4 hd4 hn4 => ?_⟩
  generalize e4 : upd (upd H3 d4 _) a4 _ = H4
  obtain ⟨s4, m4, x4⟩ := nw2 ha4 hd4 hn4 e4
  clear e4
  refine ⟨_, rfl, fun a5 d5 ha5 hd5 hn5 => ?_⟩
  generalize e5 : upd (upd H4 d5 _) a5 _ = H5
  obtain ⟨s5, m5, x5⟩ := nw2 ha5 hd5 hn5 e5
  clear e5
  refine ⟨by decide, fun ml hml => ?_⟩
  generalize e6 : upd H5 ml _ = H6
  obtain ⟨s6, m6⟩ := nw hml e6
  clear e6
  have t5 := s5.trans s6
  have t4 := s4.trans t5
  have t3 := s3.trans t4
  have t2 := s2.trans t3
  have h1 : MadeAt er H6 n "LineError" a1 := ⟨d1, t2 _ _ m1, t2 _ _ x1⟩
  have h2 : MadeAt er H6 n "NoLine" a2 := ⟨d2, t3 _ _ m2, t3 _ _ x2⟩
  have h3 : MadeAt er H6 n "Twice" a3 := ⟨d3, t4 _ _ m3, t4 _ _ x3⟩
  have h4 : MadeAt er H6 n "Unknown" a4 := ⟨d4, t5 _ _ m4, t5 _ _ x4⟩
  have h5 : MadeAt er H6 n "TooMany" a5 := ⟨d5, s6 _ _ m5, s6 _ _ x5⟩
  have sH6 : Same H H6 := s1.trans t2
  have all : ∀ k : Nat, k < 5 → ∃ a, [V.ref a1, V.ref a2, V.ref a3, V.ref a4, V.ref a5][k]? = some (.ref a) ∧ MadeAt er H6 n (namesL.getD k noS) a := fun k hk => by
    match k, hk with
    | 0, _ => exact ⟨a1, rfl, h1⟩
    | 1, _ => exact ⟨a2, rfl, h2⟩
    | 2, _ => exact ⟨a3, rfl, h3⟩
    | 3, _ => exact ⟨a4, rfl, h4⟩
    | 4, _ => exact ⟨a5, rfl, h5⟩
  clear h1 h2 h3 h4 h5 m1 m2 m3 m4 m5 x1 x2 x3 x4 x5
  have inl : ∀ k : Nat, k < 5 → namesL.getD k noS ∈ ERN ∧ hasIn (namesL.getD k noS) = true := by decide +kernel
  try dsimp only
  rw [q_seq]
  walk_at "rs"
  refine forR 5 (InvMd H6 n ml) rfl (by decide) ⟨_, _, rfl, Same.refl _⟩ ?_ ?_
  · rintro k σ J hk ⟨y2, y3, rfl, sJ⟩
    obtain ⟨a, hka, hma⟩ := all k hk
    obtain ⟨hin, hhas⟩ := inl k hk
    have hkd := kinds_due k hk
    generalize namesL.getD k noS = x at hma hin hhas hkd
    walk_at "rs"
    rw [q_seq]
    walk_at "rs"
    refine to_ixL' (SqL.of (sJ _ _ m6)) (atI_at hka) ?_
    walk_at "rs"
    obtain ⟨dx, ha, hd⟩ := hma.mono sJ
    refine ⟨a, x, dx, _, rfl, hin, ha, hd, fun l J1 sJ1 ml1 => ?_⟩
    walk_at "rs"
    refine ⟨_, rfl, fun l2 J2 sJ2 ml2 => ?_⟩
    rw [← hkd] at ml2
    refine ⟨_, _, .lst (SqL.of (sJ2 _ _ ml1)) (dt_bls _), .lst (SqL.of ml2) (dt_bls _), bls_shaped _, bls_shaped _, ?_⟩
    rw [bls_eqv]
    walk_at "rs"
    have sJ02 := sJ1.trans sJ2
    refine ⟨a, x, dx, _, rfl, hin, hhas, sJ02 _ _ ha, sJ02 _ _ hd, ?_⟩
    walk_at "rs"
    refine ⟨n, rfl, ?_⟩
    walk_at "rs"
    refine ⟨a, x, dx, _, rfl, hin, hhas, sJ02 _ _ ha, sJ02 _ _ hd, ?_⟩
    walk_at "rs"
    exact ⟨_, _, rfl, sJ.trans sJ02⟩
  · rintro σ J ⟨y2, y3, rfl, sJ⟩
    walk_at "rs"
    exact q _ (sH6.trans sJ)
/-! ### the law -/
theorem to_pickI {K : PySem.W.Frag} {H : Hp} {Q : VK} {a : Addr} {ns : List Int} {i : Int} (h : SqL K H a (ns.map V.int)) (h0 : 0 ≤ i) (h1 : i < ns.length) (q : ∀ x : Int, Q (.int x) H) : rIxL K (.ref a) (.int i) H Q := by
  obtain ⟨m, rfl⟩ := Int.eq_ofNat_of_zero_le h0
  have hm : m < ns.length := by omega
  exact to_ixL' h (atI_at (by rw [List.getElem?_map, List.getElem?_eq_getElem hm]; rfl)) (q _)
def odS : List Str := ["", " ", "hat", "sees", "hat a", "sees a", "hat a 1 ", " hat a 1", "sees a  b", "hat 1 a"]
theorem odS_ok : ∀ x ∈ odS, WdOk 20 x := by
  have h : ∀ x ∈ odS, wdB 20 x = true := by decide +kernel
  exact fun x hx => wdB_ok (h x hx)
def Inv02 (K : PySem.W.Frag) (H0 : Hp) (a od zz : Addr) (_ : Nat) (σ : L2.St) (H : Hp) : Prop := Same H0 H ∧ ∃ y2 y3 y4 y5 : Option V, σ = [some (.ref a), some (.ref od), y2, y3, y4, y5]
def InvT2 (H0 : Hp) (a od : Addr) (cell : Int) (dr : Addr) (σ : L2.St) (H : Hp) : Prop := H = H0 ∧ ∃ (z : Str) (y5 : Option V), σ = [some (.ref a), some (.ref od), some (.int cell), some (.ref dr), some (.str z), y5] ∧ WdOk 800 z
theorem ds_law : DS (defScope s_law) ["script", "odd", "cell", "drawn", "text", "number"] ["script"] ["_law_draws", "_law_spoiled", "len", "_law_right", "_law_words", "_law_made", "_law_cell_at"] := ds_of (by decide +kernel)
theorem ok_law (B : Bn mg) {f : Addr} {fd : FuncData} (FL : Fun K "law" "law" s_law f fd) (F_law_cell_at : Fn P w K mg base 1 "_law_cell_at" ["script", "k"] (spAt K)) (F_law_draws : Fn P w K mg base 1 "_law_draws" ["cell", "count"] spDrawsL) (F_law_words : Fn P w K mg base 3 "_law_words" ["drawn", "cell"] spWords02) (F_law_spoiled : Fn P w K mg base 1 "_law_spoiled" ["text", "drawn"] spSpoil02) (F_law_right : Fn P w K mg base 5 "_law_right" ["text", "how", "number"] spRight02) (F_law_made : Fn P w K mg base 3 "_law_made" ["number"] spMade02) : FnOk P w K mg base CX0 6 f fd ["script"] (spLaw K) := by
  refine FL.gq ds_law (fun vs H Q E h => ?_) ?_
  · obtain ⟨a, ns, rfl, _⟩ := h; rfl
  intro X S e1 e2 e3 e4 e5 hc hsc hxe hr hu H vs Q E h
  subst e1 e2 e3 e4 e5
  obtain ⟨a, ns, rfl, ha, hl, q⟩ := h
  refine ⟨_, (ss_cons (ssv S 1 (kls (kb_strs (ns := ["", " ", "hat", "sees", "hat a", "sees a", "hat a 1 ", " hat a 1", "sees a  b", "hat 1 a"]) (by decide +kernel))))
      (ss_cons (sfor hxe hc (ilistK (kop (op_catLK (K := X.K) rfl) (ksl (sl_listK (K := X.K) rfl) (kv S 0) ko_none (ko_some kint)) (kls (kb_cons (kcb S 2 (call_lenK (K := X.K) rfl) B.len boot_len (kb_cons (kv S 0) kb_nil)) kb_nil))) (K := X.K) rfl) (kg S 2) (ss_cons (ssv S 3 (kff S 0 F_law_draws hr (kb_cons (kv S 2) (kb_cons kint kb_nil))))
      (ss_cons (ssv S 4 (kff S 1 F_law_spoiled hr (kb_cons (kmb PySem.F.plainAttrs_str PySem.F.slot_str_join PySem.F.type_str_join (mt_str_join (K := X.K) rfl) (K := X.K) rfl kstr (kb_cons (kff S 4 F_law_words hr (kb_cons (kv S 3) (kb_cons (kv S 2) kb_nil))) kb_nil)) (kb_cons (kv S 3) kb_nil))))
      (ss_cons (sif (tcmp op_eq (kmodc (kix (ix_listK (K := X.K) rfl) (kv S 3) kint (fun _ _ => rfl))) kint (nomark _)) (ss_one (ssv S 4 (kix (ix_listK (K := X.K) rfl) (kv S 1) (kmodc (kix (ix_listK (K := X.K) rfl) (kv S 3) kint (fun _ _ => rfl))) (fun _ _ => rfl)))) ss_nil)
      (ss_cons (ssv S 5 (kix (ix_listK (K := X.K) rfl) (kls (kb_cons (kmodc (kix (ix_listK (K := X.K) rfl) (kv S 3) kint (fun _ _ => rfl))) (kb_cons (kop op_mod (kv S 2) (kop op_mulG (kop op_pow kint kint) (kop op_pow kint kint))) kb_nil))) (kmodc (kix (ix_listK (K := X.K) rfl) (kv S 3) kint (fun _ _ => rfl))) (fun _ _ => rfl)))
      (ss_one (sif (tnot (tval (kff S 3 F_law_right hr (kb_cons (kv S 4) (kb_cons (kmodc (kix (ix_listK (K := X.K) rfl) (kv S 3) kint (fun _ _ => rfl))) (kb_cons (kv S 5) kb_nil)))))) (ss_one (sret kbl)) ss_nil)))))))
      (ss_one (sret (kff S 5 F_law_made hr (kb_cons (kop op_mod (kff S 6 F_law_cell_at hr (kb_cons (kv S 0) (kb_cons kint kb_nil))) (kop op_pow kint kint)) kb_nil)))))), ?_⟩
  have h1000 : (1000 : Nat) ≤ sizeLine := by decide
  rw [q_seq]
  walk_at "rs"
  refine ⟨by decide, fun od hod => ?_⟩
  generalize e0 : upd H od _ = H0
  obtain ⟨s0, m0⟩ := nw hod e0
  clear e0
  have m0 : H0 od = some (.lst (odS.map V.str)) := m0
  rw [q_seq]
  walk_at "rs"
  refine ⟨a, _, rfl, s0.seq ha, fun p0 hp0 => ?_⟩
  rw [show (some (60 : Int)) = some ((60 : Nat) : Int) from rfl, cut_takeM, ← List.map_take]
  generalize e1 : upd H0 p0 _ = H1
  obtain ⟨s1, m1⟩ := nw hp0 e1
  clear e1
  refine to_len (.inl ((s0.trans s1).seq ha)) ?_
  walk_at "rs"
  refine ⟨by decide, fun p1 hp1 => ?_⟩
  generalize e2 : upd H1 p1 _ = H2
  obtain ⟨s2, m2⟩ := nw hp1 e2
  clear e2
  refine to_catL (ns := ns.take 60) (ms := [((ns.map V.int).length : Int)]) (SqL.of (s2 _ _ m1)) (SqL.of m2) (small8 (by rw [List.length_take]; show _ + 1 ≤ 100; omega)) fun zz hzz => ?_
  generalize e3 : upd H2 zz _ = H3
  obtain ⟨s3, m3⟩ := nw hzz e3
  clear e3
  have t3 := s0.trans (s1.trans (s2.trans s3))
  have m03 := (s1.trans (s2.trans s3)) _ _ m0
  refine forL (Inv02 X.K H3 a od zz) (SqL.of m3) ⟨Same.refl _, _, _, _, _, rfl⟩ (fun i σ H' h => SqL.of (h.1 _ _ m3)) ?_ ?_
  · rintro k σ J hk ⟨sJ, y2, y3, y4, y5, rfl⟩
    generalize (ns.take 60 ++ [((ns.map V.int).length : Int)]).getD k 0 = cell
    walk_at "rs"
    rw [q_seq]
    walk_at "rs"
    refine ⟨cell, 30, rfl, by decide, fun dr dn J1 t1 hdr0 hdr hdn hnn => ?_⟩
    have D1 : Dn J1 dr dn 30 := ⟨hdr, hdn, hnn⟩
    walk_at "rs"
    rw [q_seq]
    walk_at "rs"
    refine ⟨rfl, dr, cell, dn, rfl, D1, fun l ws J2 t2 ml hwl hws => ?_⟩
    walk_at "rs"
    have hjl := join_len 32 ws
    have hsl := sum_le 60 ws fun x hx => (hws x hx).1
    have h11 : ws.length * 61 ≤ 11 * 61 := Nat.mul_le_mul_right _ hwl
    refine ⟨_, l, ws, rfl, rfl, SqL.of ml, ?_, ?_, ?_⟩
    · rw [show (Str.ofString " ").length = 1 by decide +kernel]; omega
    · rw [blank_is]; omega
    rw [blank_is]
    walk_at "rs"
    refine ⟨_, dr, dn, rfl, D1.mono t2, by omega, OkS.join fun x hx => (hws x hx).2, fun z J3 hz hzo t3' => ?_⟩
    walk_at "rs"
    have D3 := D1.mono (t2.trans t3')
    have sJ3 := sJ.trans (t1.trans (t2.trans t3'))
    refine seqJ (InvT2 J3 a od cell dr) ?_ (fun R hR => ?_)
    rotate_left
    · walk_at "rs"
      refine to_drn D3 (by decide) (by decide) fun x1 hx1 => ?_
      walk_at "rs"
      refine ite2 (fun c => ?_) (fun c => hR _ _ ⟨rfl, z, _, rfl, by omega, hzo⟩)
      refine to_drn D3 (by decide) (by decide) fun x2 hx2 => ?_
      walk_at "rs"
      refine to_pickS (SqL.of (sJ3 _ _ m03)) (by omega) (by show _ < (10 : Int); omega) fun w hw => ?_
      exact hR _ _ ⟨rfl, w, _, rfl, (odS_ok w hw).mono (by decide)⟩
    rintro σ4 J4 ⟨rfl, z4, y5', rfl, hz4⟩
    walk_at "rs"
    rw [q_seq]
    walk_at "rs"
    refine to_drn D3 (by decide) (by decide) fun x3 hx3 => ?_
    walk_at "rs"
    refine ⟨by unfold CPow; decide, by unfold CPow; decide, ?_⟩
    walk_at "rs"
    refine ⟨Bt.ok (a := 300) (b := 300) ?_ ?_ (by decide), ?_⟩
    · unfold Bt; decide +kernel
    · unfold Bt; decide +kernel
    walk_at "rs"
    refine ⟨by decide +kernel, by decide, fun nl hnl => ?_⟩
    generalize e4 : upd J4 nl _ = J5
    obtain ⟨t5, m5⟩ := nw hnl e4
    clear e4
    refine to_drn (D3.mono t5) (by decide) (by decide) fun x4 hx4 => ?_
    walk_at "rs"
    refine to_pickI (ns := [_, _]) (SqL.of m5) (by omega) (by show _ < (2 : Int); omega) fun n => ?_
    walk_at "rs"
    refine to_drn (D3.mono t5) (by decide) (by decide) fun x5 hx5 => ?_
    walk_at "rs"
    refine ⟨z4, _, n, rfl, hz4.1, hz4.2, fun J6 t6 => ?_⟩
    walk_at "rs"
    exact ⟨sJ3.trans (t5.trans t6), _, _, _, _, rfl⟩
  · rintro σ J ⟨sJ, y2, y3, y4, y5, rfl⟩
    walk_at "rs"
    refine ⟨a, ns, 0, rfl, (t3.trans sJ).seq ha, fun r => ?_⟩
    walk_at "rs"
    refine ⟨by unfold CPow; decide, ?_⟩
    walk_at "rs"
    refine ⟨by decide +kernel, ?_⟩
    exact ⟨_, rfl, fun J' sJ' => q J'⟩
end
theorem all_mk {l : PySem.W.OpenLaw} {w : World} {K : PySem.W.Frag} {h : Heap} {mg : Str → Option Value} {fa f0 f1 f2 f3 f4 f5 f6 f7 f8 f9 f10 f11 f12 f13 f14 f15 f16 f17 f18 f19 f20 : Addr} (X : K.In h) (G : h.Ns mainGlobals mg) (hfa : mg "law" = some (.ref fa))
    {od0 an0 od1 an1 od2 an2 od3 an3 od4 an4 od5 an5 od6 an6 od7 an7 od8 an8 od9 an9 od10 an10 od11 an11 od12 an12 od13 an13 od14 an14 od15 an15 od16 an16 od17 an17 od18 an18 od19 an19 od20 an20 : Option Addr} {sl0 sl1 sl2 sl3 sl4 sl5 sl6 sl7 sl8 sl9 sl10 sl11 sl12 sl13 sl14 sl15 sl16 sl17 sl18 sl19 sl20 : Array (Option Value)} {oc0 kV0 dc0 pm0 cd0 ct0 oc1 kV1 dc1 pm1 cd1 ct1 oc2 kV2 dc2 pm2 cd2 ct2 oc3 kV3 dc3 pm3 cd3 ct3 oc4 kV4 dc4 pm4 cd4 ct4 oc5 kV5 dc5 pm5 cd5 ct5 oc6 kV6 dc6 pm6 cd6 ct6 oc7 kV7 dc7 pm7 cd7 ct7 oc8 kV8 dc8 pm8 cd8 ct8 oc9 kV9 dc9 pm9 cd9 ct9 oc10 kV10 dc10 pm10 cd10 ct10 oc11 kV11 dc11 pm11 cd11 ct11 oc12 kV12 dc12 pm12 cd12 ct12 oc13 kV13 dc13 pm13 cd13 ct13 oc14 kV14 dc14 pm14 cd14 ct14 oc15 kV15 dc15 pm15 cd15 ct15 oc16 kV16 dc16 pm16 cd16 ct16 oc17 kV17 dc17 pm17 cd17 ct17 oc18 kV18 dc18 pm18 cd18 ct18 oc19 kV19 dc19 pm19 cd19 ct19 oc20 kV20 dc20 pm20 cd20 ct20 : Value}
    (a0 : PySem.W.nsIn K mainGlobals "is_name" = some (some (.ref f0))) (l0 : K.lookup f0 = some ⟨oc0, od0, .func (PySem.W.fnOf "is_name" "is_name" (defArgs s_is_name) (defBody s_is_name) (defScope s_is_name) .none kV0 dc0 pm0 an0 cd0 ct0), sl0⟩) (c0 : PySem.W.codeIn K cd0 "is_name" = true) (k0 : PySem.W.keepIn K (.ref f0) = true)
    (a1 : PySem.W.nsIn K mainGlobals "is_count" = some (some (.ref f1))) (l1 : K.lookup f1 = some ⟨oc1, od1, .func (PySem.W.fnOf "is_count" "is_count" (defArgs s_is_count) (defBody s_is_count) (defScope s_is_count) .none kV1 dc1 pm1 an1 cd1 ct1), sl1⟩) (c1 : PySem.W.codeIn K cd1 "is_count" = true) (k1 : PySem.W.keepIn K (.ref f1) = true)
    (a2 : PySem.W.nsIn K mainGlobals "is_hat_line" = some (some (.ref f2))) (l2 : K.lookup f2 = some ⟨oc2, od2, .func (PySem.W.fnOf "is_hat_line" "is_hat_line" (defArgs s_is_hat_line) (defBody s_is_hat_line) (defScope s_is_hat_line) .none kV2 dc2 pm2 an2 cd2 ct2), sl2⟩) (c2 : PySem.W.codeIn K cd2 "is_hat_line" = true) (k2 : PySem.W.keepIn K (.ref f2) = true)
    (a3 : PySem.W.nsIn K mainGlobals "is_sees_line" = some (some (.ref f3))) (l3 : K.lookup f3 = some ⟨oc3, od3, .func (PySem.W.fnOf "is_sees_line" "is_sees_line" (defArgs s_is_sees_line) (defBody s_is_sees_line) (defScope s_is_sees_line) .none kV3 dc3 pm3 an3 cd3 ct3), sl3⟩) (c3 : PySem.W.codeIn K cd3 "is_sees_line" = true) (k3 : PySem.W.keepIn K (.ref f3) = true)
    {T4 : Addr} {t4 : Tok} {o4 : Obj} {m4 : Nat} (a4 : PySem.W.nsIn K mainGlobals "read_line" = some (some (.ref f4))) (l4 : K.lookup f4 = some ⟨oc4, od4, .func (PySem.W.fnOf "read_line" "read_line" (defArgs s_read_line) (defBody s_read_line) (defScope s_read_line) (.ref T4) kV4 dc4 pm4 an4 cd4 ct4), sl4⟩) (c4 : PySem.W.codeIn K cd4 "read_line" = true) (k4 : PySem.W.keepIn K (.ref f4) = true) (lt4 : K.lookup T4 = some o4) (ld4 : o4.data = .seq #[.int 0 t4] m4)
    (a5 : PySem.W.nsIn K mainGlobals "_law_draws" = some (some (.ref f5))) (l5 : K.lookup f5 = some ⟨oc5, od5, .func (PySem.W.fnOf "_law_draws" "_law_draws" (defArgs s_law_draws) (defBody s_law_draws) (defScope s_law_draws) .none kV5 dc5 pm5 an5 cd5 ct5), sl5⟩) (c5 : PySem.W.codeIn K cd5 "_law_draws" = true) (k5 : PySem.W.keepIn K (.ref f5) = true)
    (a6 : PySem.W.nsIn K mainGlobals "_law_cell_at" = some (some (.ref f6))) (l6 : K.lookup f6 = some ⟨oc6, od6, .func (PySem.W.fnOf "_law_cell_at" "_law_cell_at" (defArgs s_law_cell_at) (defBody s_law_cell_at) (defScope s_law_cell_at) .none kV6 dc6 pm6 an6 cd6 ct6), sl6⟩) (c6 : PySem.W.codeIn K cd6 "_law_cell_at" = true) (k6 : PySem.W.keepIn K (.ref f6) = true)
    (a7 : PySem.W.nsIn K mainGlobals "_law_fresh" = some (some (.ref f7))) (l7 : K.lookup f7 = some ⟨oc7, od7, .func (PySem.W.fnOf "_law_fresh" "_law_fresh" (defArgs s_law_fresh) (defBody s_law_fresh) (defScope s_law_fresh) .none kV7 dc7 pm7 an7 cd7 ct7), sl7⟩) (c7 : PySem.W.codeIn K cd7 "_law_fresh" = true) (k7 : PySem.W.keepIn K (.ref f7) = true)
    (a8 : PySem.W.nsIn K mainGlobals "_law_names" = some (some (.ref f8))) (l8 : K.lookup f8 = some ⟨oc8, od8, .func (PySem.W.fnOf "_law_names" "_law_names" (defArgs s_law_names) (defBody s_law_names) (defScope s_law_names) .none kV8 dc8 pm8 an8 cd8 ct8), sl8⟩) (c8 : PySem.W.codeIn K cd8 "_law_names" = true) (k8 : PySem.W.keepIn K (.ref f8) = true)
    (a9 : PySem.W.nsIn K mainGlobals "_law_count" = some (some (.ref f9))) (l9 : K.lookup f9 = some ⟨oc9, od9, .func (PySem.W.fnOf "_law_count" "_law_count" (defArgs s_law_count) (defBody s_law_count) (defScope s_law_count) .none kV9 dc9 pm9 an9 cd9 ct9), sl9⟩) (c9 : PySem.W.codeIn K cd9 "_law_count" = true) (k9 : PySem.W.keepIn K (.ref f9) = true)
    (a10 : PySem.W.nsIn K mainGlobals "_law_words" = some (some (.ref f10))) (l10 : K.lookup f10 = some ⟨oc10, od10, .func (PySem.W.fnOf "_law_words" "_law_words" (defArgs s_law_words) (defBody s_law_words) (defScope s_law_words) .none kV10 dc10 pm10 an10 cd10 ct10), sl10⟩) (c10 : PySem.W.codeIn K cd10 "_law_words" = true) (k10 : PySem.W.keepIn K (.ref f10) = true)
    (a11 : PySem.W.nsIn K mainGlobals "_law_spoiled" = some (some (.ref f11))) (l11 : K.lookup f11 = some ⟨oc11, od11, .func (PySem.W.fnOf "_law_spoiled" "_law_spoiled" (defArgs s_law_spoiled) (defBody s_law_spoiled) (defScope s_law_spoiled) .none kV11 dc11 pm11 an11 cd11 ct11), sl11⟩) (c11 : PySem.W.codeIn K cd11 "_law_spoiled" = true) (k11 : PySem.W.keepIn K (.ref f11) = true)
    (a12 : PySem.W.nsIn K mainGlobals "_law_made_of" = some (some (.ref f12))) (l12 : K.lookup f12 = some ⟨oc12, od12, .func (PySem.W.fnOf "_law_made_of" "_law_made_of" (defArgs s_law_made_of) (defBody s_law_made_of) (defScope s_law_made_of) .none kV12 dc12 pm12 an12 cd12 ct12), sl12⟩) (c12 : PySem.W.codeIn K cd12 "_law_made_of" = true) (k12 : PySem.W.keepIn K (.ref f12) = true)
    (a13 : PySem.W.nsIn K mainGlobals "_law_due" = some (some (.ref f13))) (l13 : K.lookup f13 = some ⟨oc13, od13, .func (PySem.W.fnOf "_law_due" "_law_due" (defArgs s_law_due) (defBody s_law_due) (defScope s_law_due) .none kV13 dc13 pm13 an13 cd13 ct13), sl13⟩) (c13 : PySem.W.codeIn K cd13 "_law_due" = true) (k13 : PySem.W.keepIn K (.ref f13) = true)
    (a14 : PySem.W.nsIn K mainGlobals "_law_kinds" = some (some (.ref f14))) (l14 : K.lookup f14 = some ⟨oc14, od14, .func (PySem.W.fnOf "_law_kinds" "_law_kinds" (defArgs s_law_kinds) (defBody s_law_kinds) (defScope s_law_kinds) .none kV14 dc14 pm14 an14 cd14 ct14), sl14⟩) (c14 : PySem.W.codeIn K cd14 "_law_kinds" = true) (k14 : PySem.W.keepIn K (.ref f14) = true)
    (a15 : PySem.W.nsIn K mainGlobals "_law_due_kinds" = some (some (.ref f15))) (l15 : K.lookup f15 = some ⟨oc15, od15, .func (PySem.W.fnOf "_law_due_kinds" "_law_due_kinds" (defArgs s_law_due_kinds) (defBody s_law_due_kinds) (defScope s_law_due_kinds) .none kV15 dc15 pm15 an15 cd15 ct15), sl15⟩) (c15 : PySem.W.codeIn K cd15 "_law_due_kinds" = true) (k15 : PySem.W.keepIn K (.ref f15) = true)
    (a16 : PySem.W.nsIn K mainGlobals "_law_asked" = some (some (.ref f16))) (l16 : K.lookup f16 = some ⟨oc16, od16, .func (PySem.W.fnOf "_law_asked" "_law_asked" (defArgs s_law_asked) (defBody s_law_asked) (defScope s_law_asked) .none kV16 dc16 pm16 an16 cd16 ct16), sl16⟩) (c16 : PySem.W.codeIn K cd16 "_law_asked" = true) (k16 : PySem.W.keepIn K (.ref f16) = true)
    (a17 : PySem.W.nsIn K mainGlobals "_law_whole" = some (some (.ref f17))) (l17 : K.lookup f17 = some ⟨oc17, od17, .func (PySem.W.fnOf "_law_whole" "_law_whole" (defArgs s_law_whole) (defBody s_law_whole) (defScope s_law_whole) .none kV17 dc17 pm17 an17 cd17 ct17), sl17⟩) (c17 : PySem.W.codeIn K cd17 "_law_whole" = true) (k17 : PySem.W.keepIn K (.ref f17) = true)
    (a18 : PySem.W.nsIn K mainGlobals "_law_made" = some (some (.ref f18))) (l18 : K.lookup f18 = some ⟨oc18, od18, .func (PySem.W.fnOf "_law_made" "_law_made" (defArgs s_law_made) (defBody s_law_made) (defScope s_law_made) .none kV18 dc18 pm18 an18 cd18 ct18), sl18⟩) (c18 : PySem.W.codeIn K cd18 "_law_made" = true) (k18 : PySem.W.keepIn K (.ref f18) = true)
    (a19 : PySem.W.nsIn K mainGlobals "_law_right" = some (some (.ref f19))) (l19 : K.lookup f19 = some ⟨oc19, od19, .func (PySem.W.fnOf "_law_right" "_law_right" (defArgs s_law_right) (defBody s_law_right) (defScope s_law_right) .none kV19 dc19 pm19 an19 cd19 ct19), sl19⟩) (c19 : PySem.W.codeIn K cd19 "_law_right" = true) (k19 : PySem.W.keepIn K (.ref f19) = true)
    (a20 : PySem.W.nsIn K mainGlobals "law" = some (some (.ref f20))) (l20 : K.lookup f20 = some ⟨oc20, od20, .func (PySem.W.fnOf "law" "law" (defArgs s_law) (defBody s_law) (defScope s_law) .none kV20 dc20 pm20 an20 cd20 ct20), sl20⟩) (c20 : PySem.W.codeIn K cd20 "law" = true) (k20 : PySem.W.keepIn K (.ref f20) = true)
    (z0 : PySem.W.nsIn K mainGlobals "range" = some none)
    (z1 : PySem.W.nsIn K mainGlobals "len" = some none)
    (z2 : PySem.W.nsIn K mainGlobals "all" = some none)
    (z3 : PySem.W.nsIn K mainGlobals "int" = some none)
    (z4 : PySem.W.nsIn K mainGlobals "str" = some none)
    (z5 : PySem.W.nsIn K mainGlobals "set" = some none)
    (z6 : PySem.W.nsIn K mainGlobals "tuple" = some none)
    (z7 : PySem.W.nsIn K mainGlobals "list" = some none)
    (z8 : PySem.W.nsIn K mainGlobals "isinstance" = some none)
    (z9 : PySem.W.nsIn K mainGlobals "bool" = some none)
    (z10 : PySem.W.nsIn K mainGlobals "ValueError" = some none)
    {u0 : Tok} (q0 : PySem.W.nsIn K mainGlobals "LETTERS" = some (some (.str "abcdefghijklmnopqrstuvwxyz" u0)))
    {u1 : Tok} (q1 : PySem.W.nsIn K mainGlobals "FIGURES" = some (some (.str "0123456789" u1)))
    {u2 : Tok} (q2 : PySem.W.nsIn K mainGlobals "LONGEST_NAME" = some (some (.int 12 u2)))
    {u3 : Tok} (q3 : PySem.W.nsIn K mainGlobals "LONGEST_COUNT" = some (some (.int 30 u3)))
    {er0 : Addr} {er1 : Addr} {er2 : Addr} {er3 : Addr} {er4 : Addr} {er5 : Addr} {er6 : Addr} {er7 : Addr} {er8 : Addr} {er9 : Addr} {er10 : Addr}
    {mf0 : Addr} {md0 mn0 : Option Addr} {ms0 : Array (Option Value)} {mo0 mk0 me0 mp0 mc0 mt0 : Value} (ma0 : PySem.W.findIn K (.ref er0) "__init__" = some (some (.ref mf0))) (ml0 : K.lookup mf0 = some ⟨mo0, md0, .func (PySem.W.fnOf "__init__" "LineError.__init__" (defArgs s_LineError___init__) (defBody s_LineError___init__) (defScope s_LineError___init__) .none mk0 me0 mp0 mn0 mc0 mt0), ms0⟩) (mq0 : PySem.W.codeIn K mc0 "LineError.__init__" = true) (mw0 : PySem.W.keepIn K (.ref mf0) = true) (mi0 : PySem.W.isFn K (.ref mf0) = true)
    (ea0 : PySem.W.nsIn K mainGlobals "LineError" = some (some (.ref er0)))
    (ea1 : PySem.W.nsIn K mainGlobals "HatError" = some (some (.ref er1)))
    (ea2 : PySem.W.nsIn K mainGlobals "NoLine" = some (some (.ref er2)))
    (ea3 : PySem.W.nsIn K mainGlobals "Twice" = some (some (.ref er3)))
    (ea4 : PySem.W.nsIn K mainGlobals "Unknown" = some (some (.ref er4)))
    (ea5 : PySem.W.nsIn K mainGlobals "TooMany" = some (some (.ref er5)))
    (ea6 : PySem.W.nsIn K mainGlobals "NoAsk" = some (some (.ref er6)))
    (ea7 : PySem.W.nsIn K mainGlobals "NoName" = some (some (.ref er7)))
    (ea8 : PySem.W.nsIn K mainGlobals "NoHats" = some (some (.ref er8)))
    (ea9 : PySem.W.nsIn K mainGlobals "NoGroups" = some (some (.ref er9)))
    (ea10 : PySem.W.nsIn K mainGlobals "NoPlan" = some (some (.ref er10)))
    (eok : errOk K ERN (fun x => if x = ("LineError" : Str) then er0 else if x = ("HatError" : Str) then er1 else if x = ("NoLine" : Str) then er2 else if x = ("Twice" : Str) then er3 else if x = ("Unknown" : Str) then er4 else if x = ("TooMany" : Str) then er5 else if x = ("NoAsk" : Str) then er6 else if x = ("NoName" : Str) then er7 else if x = ("NoHats" : Str) then er8 else if x = ("NoGroups" : Str) then er9 else if x = ("NoPlan" : Str) then er10 else 0) = true)
    (iok : iniOk K ERN (fun x => if x = ("LineError" : Str) then er0 else if x = ("HatError" : Str) then er1 else if x = ("NoLine" : Str) then er2 else if x = ("Twice" : Str) then er3 else if x = ("Unknown" : Str) then er4 else if x = ("TooMany" : Str) then er5 else if x = ("NoAsk" : Str) then er6 else if x = ("NoName" : Str) then er7 else if x = ("NoHats" : Str) then er8 else if x = ("NoGroups" : Str) then er9 else if x = ("NoPlan" : Str) then er10 else 0) = true)
    : ∃ fd : FuncData, (∀ (s : Shared) (v : Value), BindsTo s fd ⟨[v], []⟩ [("script", v)]) ∧ ∀ base : Heap, K.In base → base.Ns mainGlobals mg → FnOk l.prog w K mg base CX0 6 fa fd ["script"] (spLaw K) := by
  have e := hfa.symm.trans (PySem.W.mg_of X G a20)
  cases e
  have D_is_name : Def K mg "is_name" s_is_name := def_mk X G a0 l0 c0 k0
  have D_is_count : Def K mg "is_count" s_is_count := def_mk X G a1 l1 c1 k1
  have D_is_hat_line : Def K mg "is_hat_line" s_is_hat_line := def_mk X G a2 l2 c2 k2
  have D_is_sees_line : Def K mg "is_sees_line" s_is_sees_line := def_mk X G a3 l3 c3 k3
  have D_read_line : DefD K mg "read_line" s_read_line 0 := defd_mk X G a4 l4 c4 k4 lt4 ld4
  have D_law_draws : Def K mg "_law_draws" s_law_draws := def_mk X G a5 l5 c5 k5
  have D_law_cell_at : Def K mg "_law_cell_at" s_law_cell_at := def_mk X G a6 l6 c6 k6
  have D_law_fresh : Def K mg "_law_fresh" s_law_fresh := def_mk X G a7 l7 c7 k7
  have D_law_names : Def K mg "_law_names" s_law_names := def_mk X G a8 l8 c8 k8
  have D_law_count : Def K mg "_law_count" s_law_count := def_mk X G a9 l9 c9 k9
  have D_law_words : Def K mg "_law_words" s_law_words := def_mk X G a10 l10 c10 k10
  have D_law_spoiled : Def K mg "_law_spoiled" s_law_spoiled := def_mk X G a11 l11 c11 k11
  have D_law_made_of : Def K mg "_law_made_of" s_law_made_of := def_mk X G a12 l12 c12 k12
  have D_law_due : Def K mg "_law_due" s_law_due := def_mk X G a13 l13 c13 k13
  have D_law_kinds : Def K mg "_law_kinds" s_law_kinds := def_mk X G a14 l14 c14 k14
  have D_law_due_kinds : Def K mg "_law_due_kinds" s_law_due_kinds := def_mk X G a15 l15 c15 k15
  have D_law_asked : Def K mg "_law_asked" s_law_asked := def_mk X G a16 l16 c16 k16
  have D_law_whole : Def K mg "_law_whole" s_law_whole := def_mk X G a17 l17 c17 k17
  have D_law_made : Def K mg "_law_made" s_law_made := def_mk X G a18 l18 c18 k18
  have D_law_right : Def K mg "_law_right" s_law_right := def_mk X G a19 l19 c19 k19
  have B : Bn mg := ⟨PySem.W.mg_none_of X G z0, PySem.W.mg_none_of X G z1, PySem.W.mg_none_of X G z2, PySem.W.mg_none_of X G z3, PySem.W.mg_none_of X G z4, PySem.W.mg_none_of X G z5, PySem.W.mg_none_of X G z6, PySem.W.mg_none_of X G z7, PySem.W.mg_none_of X G z8, PySem.W.mg_none_of X G z9, PySem.W.mg_none_of X G z10⟩
  have D_LineError___init__ : MDef K ((fun x => if x = ("LineError" : Str) then er0 else if x = ("HatError" : Str) then er1 else if x = ("NoLine" : Str) then er2 else if x = ("Twice" : Str) then er3 else if x = ("Unknown" : Str) then er4 else if x = ("TooMany" : Str) then er5 else if x = ("NoAsk" : Str) then er6 else if x = ("NoName" : Str) then er7 else if x = ("NoHats" : Str) then er8 else if x = ("NoGroups" : Str) then er9 else if x = ("NoPlan" : Str) then er10 else 0) "LineError") "__init__" "LineError.__init__" s_LineError___init__ := by rw [show (fun x => if x = ("LineError" : Str) then er0 else if x = ("HatError" : Str) then er1 else if x = ("NoLine" : Str) then er2 else if x = ("Twice" : Str) then er3 else if x = ("Unknown" : Str) then er4 else if x = ("TooMany" : Str) then er5 else if x = ("NoAsk" : Str) then er6 else if x = ("NoName" : Str) then er7 else if x = ("NoHats" : Str) then er8 else if x = ("NoGroups" : Str) then er9 else if x = ("NoPlan" : Str) then er10 else 0) "LineError" = er0 from if_pos rfl]; exact mdef_mk ma0 ml0 mq0 mw0 mi0
  have ER := errT_of X G eok
  have IT := iniT_of iok
  have KC : Cs mg := ⟨⟨_, PySem.W.mg_of X G q0⟩, ⟨_, PySem.W.mg_of X G q1⟩, ⟨_, PySem.W.mg_of X G q2⟩, ⟨_, PySem.W.mg_of X G q3⟩⟩
  refine ⟨PySem.W.fnOf "law" "law" (defArgs s_law) (defBody s_law) (defScope s_law) .none kV20 dc20 pm20 an20 cd20 ct20, fun s v => .of_eq rfl, fun base _ _ => ?_⟩
  have FL := fun_mk (st := s_law) l20 c20 k20
  have F1 := ok_isname (P := l.prog) (w := w) (base := base) B KC D_is_name
  have F2 := ok_iscount (P := l.prog) (w := w) (base := base) B KC D_is_count
  have F3 := ok_ishat B D_is_hat_line F1 F2
  have F4 := ok_issees B D_is_sees_line F1
  have F0 := ok_ini (mg := mg) (P := l.prog) (w := w) (base := base) IT D_LineError___init__
  have F5 := ok_readR B ER IT D_read_line F0 F3 F4
  have F6 := ok_drawsL (P := l.prog) (w := w) (base := base) B D_law_draws
  have F7 := ok_fresh (P := l.prog) (w := w) (base := base) B D_law_fresh
  have F8 := ok_names B D_law_names F6 F7
  have F9 := ok_count B D_law_count F6
  have F10 := ok_at (P := l.prog) (w := w) (base := base) B D_law_cell_at
  have W1 := ok_words02 B D_law_words F8 F9
  have W2 := ok_spoil02 (P := l.prog) (w := w) (base := base) B D_law_spoiled
  have W3 := ok_madeOf (P := l.prog) (w := w) (base := base) B D_law_made_of
  have W4 := ok_due02 B D_law_due W3
  have W5 := ok_kinds02 (P := l.prog) (w := w) (base := base) B ER D_law_kinds
  have W6 := ok_dueK (P := l.prog) (w := w) (base := base) B D_law_due_kinds
  have W7 := ok_asked02 B ER IT D_law_asked F5
  have W8 := ok_whole02 (P := l.prog) (w := w) (base := base) B D_law_whole
  have W9 := ok_right02 B D_law_right W4 W7 W6 W8
  have W10 := ok_made02 B ER IT D_law_made F0 W5 W6 W8
  exact ok_law B FL F10 F6 W1 W2 W9 W10
theorem walk {l : PySem.W.OpenLaw} {q : Program} {loose : List Str} {XP : (Str → Option Value) → Heap → Prop} {YP : World → Heap → Prop} {d : DefRec} {K : Params → PySem.W.Frag} (hn : l.most = some 63) (hdf : d.params.defaults = [])
    (hY : ∀ (w : World) (h : Heap), YP w h → (K w.params).In h)
    (F : ∀ (w : World) (mg : Str → Option Value) (fa : Addr) (h : Heap), (K w.params).In h → h.Ns mainGlobals mg → mg d.name = some (.ref fa) →
      ∃ fd : FuncData, (∀ (s : Shared) (u : Value), BindsTo s fd ⟨[u], []⟩ [("script", u)]) ∧ ∀ base : Heap, (K w.params).In base → base.Ns mainGlobals mg → FnOk l.prog w (K w.params) mg base CX0 6 fa fd ["script"] (spLaw (K w.params))) :
    PySem.W.WalkO q loose XP YP l.row.toRowW d [] (fun f vs => PySem.call f vs) :=
  L2.walk_of (n := 63) (k := 6) (x := "script") (CX := fun _ => CX0) (sp := fun w => spLaw (K w.params)) hn (by decide) hdf ⟨rfl, by decide, by decide⟩ hY F (fun _ _ a ns hl _ hS => ⟨a, ns, rfl, hS, hl, fun _ => rfl⟩) fun _ _ _ _ _ z => z
end K02
open PySem PySem.W PyProof.Rows
set_option maxRecDepth 100000 in
set_option maxHeartbeats 0 in
theorem PySem.Challenge.cw_hatsight_k02_lines_refused_holds : PySem.Challenge.rw_hatsight_k02_lines_refused.Holds := by
  w_on; o_law; k_head; (case hw => w_witness2)
  k_fill
  refine K02.walk (l := PySem.Challenge.rw_hatsight_k02_lines_refused) rfl rfl (fun w h Y => PySem.W.kIn_of Y) ?F
  case F =>
    intro w mg fa h KX G hmg
    refine' K02.all_mk KX G hmg ?a0 ?l0 ?c0 ?k0 ?a1 ?l1 ?c1 ?k1 ?a2 ?l2 ?c2 ?k2 ?a3 ?l3 ?c3 ?k3 ?a4 ?l4 ?c4 ?k4 ?lt4 ?ld4 ?a5 ?l5 ?c5 ?k5 ?a6 ?l6 ?c6 ?k6 ?a7 ?l7 ?c7 ?k7 ?a8 ?l8 ?c8 ?k8 ?a9 ?l9 ?c9 ?k9 ?a10 ?l10 ?c10 ?k10 ?a11 ?l11 ?c11 ?k11 ?a12 ?l12 ?c12 ?k12 ?a13 ?l13 ?c13 ?k13 ?a14 ?l14 ?c14 ?k14 ?a15 ?l15 ?c15 ?k15 ?a16 ?l16 ?c16 ?k16 ?a17 ?l17 ?c17 ?k17 ?a18 ?l18 ?c18 ?k18 ?a19 ?l19 ?c19 ?k19 ?a20 ?l20 ?c20 ?k20 ?z0 ?z1 ?z2 ?z3 ?z4 ?z5 ?z6 ?z7 ?z8 ?z9 ?z10 ?q0 ?q1 ?q2 ?q3 ?ma0 ?ml0 ?mq0 ?mw0 ?mi0 ?ea0 ?ea1 ?ea2 ?ea3 ?ea4 ?ea5 ?ea6 ?ea7 ?ea8 ?ea9 ?ea10 ?eok ?iok
    (case a0 => k_is); (case l0 => k_is); (case c0 => k_is); (case k0 => k_is)
    (case a1 => k_is); (case l1 => k_is); (case c1 => k_is); (case k1 => k_is)
    (case a2 => k_is); (case l2 => k_is); (case c2 => k_is); (case k2 => k_is)
    (case a3 => k_is); (case l3 => k_is); (case c3 => k_is); (case k3 => k_is)
    (case a4 => k_is); (case l4 => k_is); (case c4 => k_is); (case k4 => k_is)
    (case lt4 => k_is); (case ld4 => rfl)
    (case a5 => k_is); (case l5 => k_is); (case c5 => k_is); (case k5 => k_is)
    (case a6 => k_is); (case l6 => k_is); (case c6 => k_is); (case k6 => k_is)
    (case a7 => k_is); (case l7 => k_is); (case c7 => k_is); (case k7 => k_is)
    (case a8 => k_is); (case l8 => k_is); (case c8 => k_is); (case k8 => k_is)
    (case a9 => k_is); (case l9 => k_is); (case c9 => k_is); (case k9 => k_is)
    (case a10 => k_is); (case l10 => k_is); (case c10 => k_is); (case k10 => k_is)
    (case a11 => k_is); (case l11 => k_is); (case c11 => k_is); (case k11 => k_is)
    (case a12 => k_is); (case l12 => k_is); (case c12 => k_is); (case k12 => k_is)
    (case a13 => k_is); (case l13 => k_is); (case c13 => k_is); (case k13 => k_is)
    (case a14 => k_is); (case l14 => k_is); (case c14 => k_is); (case k14 => k_is)
    (case a15 => k_is); (case l15 => k_is); (case c15 => k_is); (case k15 => k_is)
    (case a16 => k_is); (case l16 => k_is); (case c16 => k_is); (case k16 => k_is)
    (case a17 => k_is); (case l17 => k_is); (case c17 => k_is); (case k17 => k_is)
    (case a18 => k_is); (case l18 => k_is); (case c18 => k_is); (case k18 => k_is)
    (case a19 => k_is); (case l19 => k_is); (case c19 => k_is); (case k19 => k_is)
    (case a20 => k_is); (case l20 => k_is); (case c20 => k_is); (case k20 => k_is)
    (case q0 => k_is)
    (case q1 => k_is)
    (case q2 => k_is)
    (case q3 => k_is)
    (case ea0 => k_is)
    (case ea1 => k_is)
    (case ea2 => k_is)
    (case ea3 => k_is)
    (case ea4 => k_is)
    (case ea5 => k_is)
    (case ea6 => k_is)
    (case ea7 => k_is)
    (case ea8 => k_is)
    (case ea9 => k_is)
    (case ea10 => k_is)
    (case ma0 => k_is); (case ml0 => k_is); (case mq0 => k_is); (case mw0 => k_is); (case mi0 => k_is)
    (case eok => kernel_rfl)
    (case iok => kernel_rfl)
    (case z0 => k_is)
    (case z1 => k_is)
    (case z2 => k_is)
    (case z3 => k_is)
    (case z4 => k_is)
    (case z5 => k_is)
    (case z6 => k_is)
    (case z7 => k_is)
    (case z8 => k_is)
    (case z9 => k_is)
    (case z10 => k_is)
