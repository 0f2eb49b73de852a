import PyProof.Rows.All
import Wide.All
import OpenK.AllK
import Wide.FinOn
import Lean
import PyProof.EqAt
import PyProof.EqKinds
import PyProof.TupleCall
import PySem.Challenge.RW_hatsight_k70_hall
set_option Elab.async false
set_option linter.all false
set_option maxRecDepth 100000
open PySem.W (Frag)
namespace L2
open PySem PySem.Spec PyProof.Rows
abbrev Key := Sum Int Str
def keyIs : Key -> Value -> Bool
  | .inl k, v => Value.isInt k v
  | .inr x, v => Value.isStrOf x v
def keyH (w : World) : Key -> Int
  | .inl k => hashInt k
  | .inr x => hashStr w x
theorem keyIs_shape : ∀ {k : Key} {v : Value}, keyIs k v = true -> (∃ i t, k = Sum.inl i /\ v = Value.int i t) ∨ (∃ x t, k = Sum.inr x /\ v = Value.str x t)
  | .inl i, v, h => by
    obtain ⟨t, e⟩ := Value.isInt_shape (k := i) (v := v) h
    exact .inl ⟨i, t, rfl, e⟩
  | .inr x, v, h => by
    obtain ⟨t, e⟩ := Value.isStrOf_shape (x := x) (v := v) h
    exact .inr ⟨x, t, rfl, e⟩
theorem keyIs_int (i : Int) (t : Tok) : keyIs (.inl i) (.int i t) = true := by simp [keyIs, Value.isInt]
theorem keyIs_str (x : Str) (t : Tok) : keyIs (.inr x) (.str x t) = true := by simp [keyIs, Value.isStrOf]
theorem key_ll (a b : Int) : decide ((Sum.inl a : Key) = Sum.inl b) = (a == b) := by
  by_cases e : a = b
  · subst e; simp
  · have h : ¬ (Sum.inl a : Key) = Sum.inl b := fun q => e (Sum.inl.inj q)
    rw [decide_eq_false h]
    exact (beq_eq_false_iff_ne.mpr e).symm
theorem key_rr (a b : Str) : decide ((Sum.inr a : Key) = Sum.inr b) = decide (a = b) := by
  by_cases e : a = b
  · subst e; simp
  · have h : ¬ (Sum.inr a : Key) = Sum.inr b := fun q => e (Sum.inr.inj q)
    rw [decide_eq_false h, decide_eq_false e]
theorem key_lr (a : Int) (b : Str) : decide ((Sum.inl a : Key) = Sum.inr b) = false := decide_eq_false (fun q => nomatch q)
theorem key_rl (a : Str) (b : Int) : decide ((Sum.inr a : Key) = Sum.inl b) = false := decide_eq_false (fun q => nomatch q)
def mixKind (prog : Program) (w : World) : PySem.KeyKind prog w Key where
  is := keyIs
  hash := keyH w
  inj := fun v a b ha hb => by
    rcases keyIs_shape ha with ⟨i, t, rfl, rfl⟩ | ⟨x, t, rfl, rfl⟩
    · rcases keyIs_shape hb with ⟨j, u, rfl, e⟩ | ⟨y, u, rfl, e⟩
      · injection e with e1 _; rw [e1]
      · exact nomatch e
    · rcases keyIs_shape hb with ⟨j, u, rfl, e⟩ | ⟨y, u, rfl, e⟩
      · exact nomatch e
      · injection e with e1 _; rw [e1]
  byValue := fun k v h => by
    rcases keyIs_shape h with ⟨i, t, rfl, rfl⟩ | ⟨x, t, rfl, rfl⟩ <;> rfl
  pyHash := fun hv h => by
    rcases keyIs_shape hv with ⟨i, t, rfl, rfl⟩ | ⟨x, t, rfl, rfl⟩
    · exact wpAny_pyHash_int h
    · exact wpAny_pyHash_str h
  eqBool := fun hu hv h => by
    rcases keyIs_shape hu with ⟨i, t, rfl, rfl⟩ | ⟨x, t, rfl, rfl⟩
    · rcases keyIs_shape hv with ⟨j, u, rfl, rfl⟩ | ⟨y, u, rfl, rfl⟩
      · rw [key_ll] at h; exact wpAny_eqBool_int h
      · rw [key_lr] at h; exact SeqAt.EqAt.int_str i t y u _ _ _ _ h
    · rcases keyIs_shape hv with ⟨j, u, rfl, rfl⟩ | ⟨y, u, rfl, rfl⟩
      · rw [key_rl] at h; exact SeqAt.EqAt.str_int x t j u _ _ _ _ h
      · rw [key_rr] at h; exact wpAny_eqBool_str h
  «strs» := fun k x t v h => by
    rcases keyIs_shape h with ⟨i, u, rfl, e⟩ | ⟨y, u, rfl, e⟩
    · exact nomatch e
    · injection e with e1 _
      subst e1
      cases v <;> rfl
theorem mixKind_int (prog : Program) (w : World) (i : Int) (t : Tok) : (mixKind prog w).is (.inl i) (.int i t) = true := keyIs_int i t
theorem mixKind_str (prog : Program) (w : World) (x : Str) (t : Tok) : (mixKind prog w).is (.inr x) (.str x t) = true := keyIs_str x t
inductive V where
  | non | bl (b : Bool) | int (i : Int) | str (x : Str) | byt (b : Array UInt8) | flt (b : UInt64) | ref (a : Addr) | ty (n : String)
  deriving DecidableEq
def RelV : V -> Value -> Prop
  | .non, u => u = Value.none
  | .bl b, u => u = Value.bool b
  | .int i, u => ∃ t, u = Value.int i t
  | .str x, u => ∃ t, u = Value.str x t
  | .byt b, u => ∃ t, u = Value.bytes b t
  | .flt b, u => ∃ t, u = Value.float b t
  | .ref a, u => u = Value.ref a
  | .ty n, u => u = Value.type n
abbrev Vals : List V -> List Value -> Prop := Paired RelV
theorem Vals.length {xs : List V} {us : List Value} (r : Vals xs us) : xs.length = us.length := Paired.length r
theorem Vals.get : ∀ {xs : List V} {us : List Value} {i : Nat} {x : V}, Vals xs us -> xs[i]? = some x -> ∃ u, us[i]? = some u /\ RelV x u
  | _, _, _, _, .nil, e => by simp at e
  | _, _, 0, _, .cons r _, e => by simp at e; subst e; exact ⟨_, rfl, r⟩
  | _, _, i + 1, x, .cons _ t, e => by
    obtain ⟨u, h1, h2⟩ := Vals.get (i := i) (x := x) t (by simpa using e)
    exact ⟨u, by simpa using h1, h2⟩
theorem Vals.set {x : V} {u : Value} (r : RelV x u) : ∀ {xs : List V} {us : List Value} (i : Nat), Vals xs us -> Vals (xs.set i x) (us.set i u)
  | _, _, _, .nil => .nil
  | _, _, 0, .cons _ t => .cons r t
  | _, _, i + 1, .cons q t => .cons q (Vals.set r i t)
theorem Vals.append : ∀ {xs ys : List V} {us ws : List Value}, Vals xs us -> Vals ys ws -> Vals (xs ++ ys) (us ++ ws)
  | _, _, _, _, .nil, s => s
  | _, _, _, _, .cons r t, s => .cons r (Vals.append t s)
theorem Vals.take : ∀ {xs : List V} {us : List Value} (n : Nat), Vals xs us -> Vals (xs.take n) (us.take n)
  | _, _, 0, _ => .nil
  | _, _, _ + 1, .nil => .nil
  | _, _, n + 1, .cons r t => .cons r (Vals.take n t)
theorem Vals.drop : ∀ {xs : List V} {us : List Value} (n : Nat), Vals xs us -> Vals (xs.drop n) (us.drop n)
  | _, _, 0, r => r
  | _, _, _ + 1, .nil => .nil
  | _, _, n + 1, .cons _ t => Vals.drop n t
def RelO : Option V -> Option Value -> Prop
  | some v, some u => RelV v u
  | none, none => True
  | _, _ => False
def KV {κ : Type} : List (κ × V) -> List (κ × Value) -> Prop := Paired fun (p : κ × V) (q : κ × Value) => p.1 = q.1 /\ RelV p.2 q.2
def kV : Key -> V
  | .inl i => .int i
  | .inr x => .str x
inductive HO where
  | lst (xs : List V)
  | tup (xs : List V)
  | dK (kvs : List (Key × V)) | dT (kvs : List (List Key × V))
  | set (S : Int -> Bool) (n : Nat)
  | ins (C dx : Addr) (fs : List (Str × V))
  | own (x : Addr)
  | xd (fs : List (Str × V))
  | met (f x : Addr)
  | rng (lo hi : Int)
  | frz (o : Obj) (u : HO)
  | tbl (ps : Array Value)
  | ext (φ : Heap -> Prop)
abbrev Hp := Addr -> Option HO
def upd (H : Hp) (a : Addr) (o : HO) : Hp := fun b => if b = a then some o else H b
theorem zq1 {H : Hp} {a : Addr} {o : HO} : upd H a o a = some o := by unfold upd; rw [if_pos rfl]
theorem zj4 {H : Hp} {a b : Addr} {o : HO} (h : b ≠ a) : upd H a o b = H b := by unfold upd; rw [if_neg h]
theorem upd_upd {H : Hp} {a : Addr} {o u : HO} : upd (upd H a o) a u = upd H a u := by
  funext b; unfold upd; split <;> rfl
theorem ne_of {H : Hp} {a b : Addr} {o u : HO} (h : H a = some o) (h' : H b = some u) (d : o ≠ u) : a ≠ b := by
  intro e; subst e; rw [h] at h'; exact d (Option.some.inj h')
theorem zj0 {H : Hp} {a b : Addr} {o : HO} (h : H a = some o) (h' : H b = none) : a ≠ b := by
  intro e; subst e; rw [h] at h'; cases h'
section
variable (P : Program) (w : World)
def ObjOk (H : Hp) (h : Heap) (a : Addr) : HO -> Prop
  | .lst xs => xs.length <= sizeLine /\ ∃ (its : List Value) (n : Nat), Vals xs its /\ h.get? a = some { cls := .type "list", data := .seq its.toArray n }
  | .tup xs => xs.length <= sizeLine /\ ∃ its : List Value, Vals xs its /\ IsTup h a its.toArray
  | .dK kvs => kvs.length <= sizeLine /\ (a == sysModules) = false /\ ∃ vs, KV kvs vs /\ h.DictOf (mixKind P w) a vs
  | .dT kvs => kvs.length <= sizeLine /\ (a == sysModules) = false /\ ∃ xs : List (List Key × Addr × Value),
      Paired (fun (p : List Key × V) (q : List Key × Addr × Value) => p.1 = q.1 /\ H q.2.1 = some (.tup (p.1.map kV)) /\ RelV p.2 q.2.2) kvs xs /\
      ∃ o es ep, h.get? a = some o /\ o.ExactDict /\ o.data = .dict es ep /\ es.toList = xs.map (entryOfKey (tupleKind (mixKind P w))) /\ (xs.map (·.1)).Nodup
  | .set S n => h.SetOf (intKind P w) a S n
  | .ins C dx fs => H dx = some (.own a) /\ fs.length <= 1000 /\ dx ≠ a /\ h.get? a = some (PySem.W.instObj C dx) /\
      ∃ mA, h.Ns1 dx mA /\ (∀ f, RelO (fs.lookup f) (mA f)) /\ PySem.Within mA (fs.map (·.1))
  | .own _ => ∃ o, h.get? a = some o
  | .xd fs => ∃ mA, h.Ns1 a mA /\ ∀ f, RelO (fs.lookup f) (mA f)
  | .rng lo hi => ∃ t u v, h.get? a = some { cls := .type "range", data := .fields #[.int lo t, .int hi u, .int 1 v] }
  | .frz o u => h.get? a = some o /\ ObjOk H h a u
  | .tbl ps => h.get? a = some { cls := .none, data := .fields ps }
  | .met f x => h.get? a = some (PySem.W.methodObj (.ref f) (.ref x))
  | .ext φ => φ h /\ (∃ o, h.get? a = some o) /\ ∀ h1 h2 : Heap, φ h1 -> (∀ o, h1.get? a = some o -> h2.get? a = some o) -> φ h2
def HOk (H : Hp) (h : Heap) : Prop := ∀ a o, H a = some o -> ObjOk P w H h a o
end
section
variable {P : Program} {w : World} {H H' : Hp} {h h' : Heap} {a : Addr} {o : HO}
theorem ObjOk.lt (x : ObjOk P w H h a o) : a < h.objs.size := by
  cases o with
  | lst xs => obtain ⟨_, _, _, _, e⟩ := x; exact Heap.lt_size e
  | tup xs => obtain ⟨_, _, _, p⟩ := x; exact p.lt
  | dK kvs => obtain ⟨_, _, _, _, o, _, _, e, _⟩ := x; exact Heap.lt_size e
  | dT kvs => obtain ⟨_, _, _, _, o, _, _, e, _⟩ := x; exact Heap.lt_size e
  | set S n => obtain ⟨o, _, _, _, e, _⟩ := x; exact Heap.lt_size e
  | ins C dx fs => obtain ⟨_, _, _, e, _⟩ := x; exact Heap.lt_size e
  | own y => obtain ⟨_, e⟩ := x; exact Heap.lt_size e
  | xd fs => obtain ⟨_, ⟨_, _, _, e, _⟩, _⟩ := x; exact Heap.lt_size e
  | rng lo hi => obtain ⟨_, _, _, e⟩ := x; exact Heap.lt_size e
  | frz ob u => obtain ⟨e, _⟩ := x; exact Heap.lt_size e
  | tbl ps => exact Heap.lt_size (show h.get? a = some _ from x)
  | met f y => exact Heap.lt_size (show h.get? a = some _ from x)
  | ext φ => obtain ⟨_, ⟨_, e⟩, _⟩ := x; exact Heap.lt_size e
theorem Paired.mapP {α β : Type} {F G : α -> β -> Prop} : ∀ {l₁ : List α} {l₂ : List β}, Paired F l₁ l₂ -> (∀ a b, F a b -> G a b) -> Paired G l₁ l₂
  | _, _, .nil, _ => .nil
  | _, _, .cons r t, f => .cons (f _ _ r) (Paired.mapP t f)
theorem ObjOk.stay (x : ObjOk P w H h a o) (k : ∀ b u, (b = a ∨ H b = some (.own a)) -> h.get? b = some u -> h'.get? b = some u)
    (ho : ∀ b, H b = some (.own a) -> H' b = some (.own a)) (ht : ∀ b xs, H b = some (.tup xs) -> H' b = some (.tup xs)) : ObjOk P w H' h' a o := by
  induction o with
  | lst xs => obtain ⟨z, its, n, r, e⟩ := x; exact ⟨z, its, n, r, k _ _ (.inl rfl) e⟩
  | tup xs => obtain ⟨z, its, r, ob, e, c⟩ := x; exact ⟨z, its, r, ob, k _ _ (.inl rfl) e, c⟩
  | dK kvs => obtain ⟨z, y, vs, r, ob, es, ep, e, c⟩ := x; exact ⟨z, y, vs, r, ob, es, ep, k _ _ (.inl rfl) e, c⟩
  | dT kvs =>
    obtain ⟨z, y, xs, r, ob, es, ep, e, c⟩ := x
    exact ⟨z, y, xs, Paired.mapP r fun p q z => ⟨z.1, ht _ _ z.2.1, z.2.2⟩, ob, es, ep, k _ _ (.inl rfl) e, c⟩
  | set S n => obtain ⟨ob, es, ep, t, e, c⟩ := x; exact ⟨ob, es, ep, t, k _ _ (.inl rfl) e, c⟩
  | ins C dx fs =>
    obtain ⟨d, z, ne, e, mA, ⟨od, es, ep, e2, c⟩, r⟩ := x
    exact ⟨ho _ d, z, ne, k _ _ (.inl rfl) e, mA, ⟨od, es, ep, k _ _ (.inr d) e2, c⟩, r⟩
  | own y => obtain ⟨ob, e⟩ := x; exact ⟨ob, k _ _ (.inl rfl) e⟩
  | xd fs => obtain ⟨mA, ⟨od, es, ep, e, c⟩, r⟩ := x; exact ⟨mA, ⟨od, es, ep, k _ _ (.inl rfl) e, c⟩, r⟩
  | rng lo hi => obtain ⟨t, u, v, e⟩ := x; exact ⟨t, u, v, k _ _ (.inl rfl) e⟩
  | frz ob u ih => obtain ⟨e, q⟩ := x; exact ⟨k _ _ (.inl rfl) e, ih q⟩
  | tbl ps =>
    have e : h.get? a = some { cls := .none, data := .fields ps } := x
    show h'.get? a = some { cls := .none, data := .fields ps }
    exact k a _ (.inl rfl) e
  | met f y =>
    have e : h.get? a = some (PySem.W.methodObj (.ref f) (.ref y)) := x
    show h'.get? a = some (PySem.W.methodObj (.ref f) (.ref y))
    exact k a _ (.inl rfl) e
  | ext φ => obtain ⟨p, ⟨o, e⟩, st⟩ := x; exact ⟨st _ _ p fun o q => k _ _ (.inl rfl) q, ⟨o, k _ _ (.inl rfl) e⟩, st⟩
theorem HOk.lt (x : HOk P w H h) (e : H a = some o) : a < h.objs.size := (x a o e).lt
theorem HOk.fresh (x : HOk P w H h) (e : h.objs.size <= a) : H a = none := by
  cases q : H a with
  | none => rfl
  | some u => exact absurd (Nat.lt_of_lt_of_le (x.lt q) e) (Nat.lt_irrefl _)
theorem HOk.kept (x : HOk P w H h) (k : ∀ b u, h.get? b = some u -> h'.get? b = some u) : HOk P w H h' := fun a o e =>
  (x a o e).stay (fun b u _ q => k b u q) (fun _ q => q) fun _ _ q => q
theorem HOk.laid (x : HOk P w H h) (k : ∀ b u, h.get? b = some u -> h'.get? b = some u) (hp : h.objs.size <= a) (new : ObjOk P w (upd H a o) h' a o) : HOk P w (upd H a o) h' := fun b u e => by
  have hn := x.fresh hp
  by_cases hb : b = a
  · subst hb; rw [zq1] at e; cases e; exact new
  · rw [zj4 hb] at e
    exact (x b u e).stay (fun c v _ q => k c v q) (fun c q => by rw [zj4 (zj0 q hn)]; exact q) fun c xs q => by rw [zj4 (zj0 q hn)]; exact q
end
def Rd (H : Hp) (a : Addr) (u : HO) : Prop := H a = some u ∨ ∃ o, H a = some (.frz o u)
theorem Rd.ok {P : Program} {w : World} {H : Hp} {h : Heap} {a : Addr} {u : HO} (r : Rd H a u) (x : HOk P w H h) : ObjOk P w H h a u := by
  rcases r with r | ⟨o, r⟩
  · exact x a u r
  · obtain ⟨_, q⟩ := x a _ r
    exact q
def Mut : Option HO -> Prop
  | some (.lst _) => True
  | some (.dK _) => True
  | some (.dT _) => True
  | some (.set _ _) => True
  | some (.ins _ _ _) => True
  | some (.ext _) => True
  | _ => False
section
variable {P : Program} {w : World} {H : Hp} {h h' : Heap} {x e : Addr} {o' : HO}
theorem HOk.write (ok : HOk P w H h) (mu : Mut (H x)) (he : e = x ∨ H e = some (.own x)) (k : ∀ b u, b ≠ e -> h.get? b = some u -> h'.get? b = some u) (heo : ∃ u, h'.get? e = some u)
    (new : ObjOk P w (upd H x o') h' x o') : HOk P w (upd H x o') h' := fun b u q => by
  have nown : ∀ c y, H c = some (.own y) -> c ≠ x := fun c y r z => by subst z; rw [r] at mu; exact mu
  have ntup : ∀ c xs, H c = some (.tup xs) -> c ≠ x := fun c xs r z => by subst z; rw [r] at mu; exact mu
  by_cases hb : b = x
  · subst hb; rw [zq1] at q; cases q; exact new
  · rw [zj4 hb] at q
    by_cases hbe : b = e
    · have q' : H b = some (.own x) := by
        rcases he with z | z
        · exact absurd (hbe.trans z) hb
        · rw [hbe]; exact z
      rw [q] at q'; cases q'
      obtain ⟨v, hv⟩ := heo
      exact ⟨v, by rw [hbe]; exact hv⟩
    · refine (ok b u q).stay (fun c v hc r => k c v ?_ r) (fun c r => by rw [zj4 (nown c b r)]; exact r) fun c xs r => by rw [zj4 (ntup c xs r)]; exact r
      rcases hc with rfl | hc
      · exact hbe
      · rintro rfl
        rcases he with z | z
        · exact nown c b hc z
        · rw [hc] at z; cases z; exact hb rfl
end
structure Un (fs ex : List Addr) (H H' : Hp) (h h' : Heap) : Prop where
  keep : ∀ b o, h.get? b = some o -> H b = none -> b ∉ fs -> b ∉ ex -> h'.get? b = some o
  slot : ∀ b o, h.get? b = some o -> H b = none -> b ∈ fs -> b ∉ ex -> ∃ sl, h'.get? b = some { o with slots := sl }
  free : ∀ b o, h.get? b = some o -> H b = none -> b ∉ ex -> H' b = none
  there : ∀ b o, h.get? b = some o -> b ∉ ex -> ∃ o', h'.get? b = some o'
  tups : ∀ b xs, H b = some (.tup xs) -> H' b = some (.tup xs)
  frzs : ∀ b o u, H b = some (.frz o u) -> H' b = some (.frz o u)
  tbls : ∀ b ps, H b = some (.tbl ps) -> ∃ more, H' b = some (.tbl (ps ++ more))
section
variable {fs fs' ex ex' : List Addr} {H H1 H2 : Hp} {h h1 h2 h' : Heap} {a x e : Addr} {o : HO}
theorem Un.any (u : Un fs ex H H1 h h1) {b : Addr} {ob : Obj} (q : h.get? b = some ob) (n : H b = none) (hx : b ∉ ex) : ∃ sl, h1.get? b = some { ob with slots := sl } := by
  by_cases hb : b ∈ fs
  · exact u.slot b ob q n hb hx
  · exact ⟨ob.slots, u.keep b ob q n hb hx⟩
theorem Un.trans (a : Un fs ex H H1 h h1) (b : Un fs ex H1 H2 h1 h2) : Un fs ex H H2 h h2 where
  keep := fun c ob q n hc hx => b.keep c ob (a.keep c ob q n hc hx) (a.free c ob q n hx) hc hx
  slot := fun c ob q n hc hx => by
    obtain ⟨sl, e1⟩ := a.slot c ob q n hc hx
    obtain ⟨sl', e2⟩ := b.slot c _ e1 (a.free c ob q n hx) hc hx
    exact ⟨sl', e2⟩
  free := fun c ob q n hx => by
    obtain ⟨o', e1⟩ := a.there c ob q hx
    exact b.free c o' e1 (a.free c ob q n hx) hx
  there := fun c ob q hx => by
    obtain ⟨o', e1⟩ := a.there c ob q hx
    exact b.there c o' e1 hx
  tups := fun c xs q => b.tups c xs (a.tups c xs q)
  frzs := fun c ob xs q => b.frzs c ob xs (a.frzs c ob xs q)
  tbls := fun c ps q => by
    obtain ⟨m1, e1⟩ := a.tbls c ps q
    obtain ⟨m2, e2⟩ := b.tbls c _ e1
    exact ⟨m1 ++ m2, by rw [e2, Array.append_assoc]⟩
theorem Un.kept (k : ∀ b u, h.get? b = some u -> h'.get? b = some u) : Un fs ex H H h h' :=
  ⟨fun b ob q _ _ _ => k b ob q, fun b ob q _ _ _ => ⟨ob.slots, k b ob q⟩, fun _ _ _ n _ => n, fun b ob q _ => ⟨ob, k b ob q⟩, fun _ _ q => q, fun _ _ _ q => q, fun _ ps q => ⟨#[], by rw [q]; simp⟩⟩
theorem Un.refl : Un fs ex H H h h := Un.kept fun _ _ q => q
theorem Un.laid (k : ∀ b u, h.get? b = some u -> h'.get? b = some u) (hp : h.objs.size <= a) (hn : H a = none) : Un fs ex H (upd H a o) h h' where
  keep := fun b u q _ _ _ => k b u q
  slot := fun b u q _ _ _ => ⟨u.slots, k b u q⟩
  free := fun b u q n _ => by rw [zj4 (Nat.ne_of_lt (Nat.lt_of_lt_of_le (Heap.lt_size q) hp))]; exact n
  there := fun b u q _ => ⟨u, k b u q⟩
  tups := fun b xs q => by rw [zj4 (zj0 q hn)]; exact q
  frzs := fun b u xs q => by rw [zj4 (zj0 q hn)]; exact q
  tbls := fun b ps q => ⟨#[], by rw [zj4 (zj0 q hn), q]; simp⟩
theorem Un.write (mu : Mut (H x)) (he : e = x ∨ H e = some (.own x)) (k : ∀ b u, b ≠ e -> h.get? b = some u -> h'.get? b = some u) (heo : ∃ u, h'.get? e = some u) : Un fs ex H (upd H x o) h h' := by
  have hx : ∀ b, H b = none -> b ≠ x := fun b n z => by subst z; rw [n] at mu; exact mu
  have hb : ∀ b, H b = none -> b ≠ e := fun b n z => by
    subst z
    rcases he with r | r
    · exact hx b n r
    · rw [n] at r; cases r
  have hm : ∀ b u, H b = some u -> ¬ Mut (some u) -> b ≠ x := fun b u q nm z => by subst z; rw [q] at mu; exact nm mu
  refine ⟨fun b u q n _ _ => k b u (hb b n) q, fun b u q n _ _ => ⟨u.slots, k b u (hb b n) q⟩, fun b u q n _ => by rw [zj4 (hx b n)]; exact n, fun b u q _ => ?_,
    fun b xs q => by rw [zj4 (hm b _ q fun z => z)]; exact q, fun b u xs q => by rw [zj4 (hm b _ q fun z => z)]; exact q, fun b ps q => ⟨#[], by rw [zj4 (hm b _ q fun z => z), q]; simp⟩⟩
  by_cases hbe : b = e
  · subst hbe; exact heo
  · exact ⟨u, k b u hbe q⟩
end
def trk (h : Heap) (H : Hp) : List Addr := (List.range h.objs.size).filter fun a => (H a).isSome
def hidT (h : Heap) (H : Hp) : Heap := PySem.W.hideAll h (trk h H)
theorem hidT_size (h : Heap) (H : Hp) : (hidT h H).objs.size = h.objs.size := PySem.W.hideAll_size _ _
theorem hidT_get {h : Heap} {H : Hp} {b : Addr} {o : Obj} (e : h.get? b = some o) (n : H b = none) : (hidT h H).get? b = some o :=
  PySem.W.hideAll_get _ e fun hm => by
    have q : (H b).isSome = true := (List.mem_filter.mp hm).2
    rw [n] at q; simp at q
theorem of_hidT {h : Heap} {H : Hp} {b : Addr} {o : Obj} (e : (hidT h H).get? b = some o) : h.get? b = some o /\ H b = none := by
  have e' : h.get? b = some o := PySem.W.of_hideAll (trk h H) e
  refine ⟨e', ?_⟩
  cases q : H b with
  | none => rfl
  | some x =>
    have hm : b ∈ trk h H := List.mem_filter.mpr ⟨List.mem_range.mpr (Heap.lt_size e'), by simp [q]⟩
    have z : (hidT h H).get? b = none := PySem.W.hideAll_none (trk h H) hm
    rw [z] at e; cases e
def allNews (g h : Heap) (L : Addr) : List (Addr × Obj) := (List.range h.objs.size).filterMap fun a => if a = L ∨ (g.get? a).isSome = true then none else (h.get? a).map fun o => (a, o)
def rest (g h : Heap) (L d : Addr) : List (Addr × Obj) := (allNews g h L).filter fun p => decide (p.1 ≠ d)
structure Mod (K : Frag) (mg : Str -> Option Value) (base : Heap) : Prop where
  kin : K.In base
  glob : base.Ns mainGlobals mg
  blt : ∃ mb, base.Ns builtinsNs mb /\ ∀ x : Str, x ≠ "__name__" -> mb x = bootBuiltins x
  nolimit : base.NoLimit
structure Cx where
  prog : Program
  w : World
  K : Frag
  mg : Str -> Option Value
  base : Heap
  A : Around
  N : List Str
  s₀ : Shared
  H₀ : Hp
  env : Env
  outer : List Env
  stack : List Env
  ex : List Addr
  fn : Str -> Bool
  calm : Bool
  pn : List (Addr × Obj)
  xe : Value -> Shared -> Prop
def frs (l : List Env) : List Addr := l.filterMap (·.frame)
abbrev Cx.fs (X : Cx) : List Addr := frs X.outer
def Vis (sc : Scope) (x : Str) : Prop := sc.names.lookup x = some .local ∨ sc.names.lookup x = some .cell ∨ sc.names.lookup x = some .free
def Loc (sc : Scope) (x : Str) : Prop := sc.names.lookup x = some .local ∨ sc.names.lookup x = some .cell
def Look (env : Env) (h : Heap) (m : Str -> Option Value) (x : Str) (u : Value) : Prop :=
  (env.kindOf x = some .local /\ m x = some u) ∨ ((env.kindOf x = some .cell ∨ env.kindOf x = some .free) /\ ∃ c, env.cells.lookup x = some c /\ h.IsCell c (some u))
structure Cx.Ok (X : Cx) : Prop where
  mod : Mod X.K X.mg X.base
  kind : X.env.scope.kind = .function
  glob : X.env.globals = mainGlobals
  blt : X.env.builtins = builtinsNs
  above : X.s₀.heap.objs.size <= X.env.locals
  inj : ∀ x y c, X.env.cells.lookup x = some c -> X.env.cells.lookup y = some c -> x = y
  has : ∀ x, (X.env.kindOf x = some .cell ∨ X.env.kindOf x = some .free) -> ∃ c, X.env.cells.lookup x = some c
  cab : ∀ x c, X.fn x = true -> X.env.cells.lookup x = some c -> X.s₀.heap.objs.size <= c
  hd : X.calm = true -> X.A.handled = none
  frames : X.A.frames = some X.stack
  stk : X.stack = X.outer ∨ (X.stack = X.env :: X.outer /\ X.env.frame = some X.env.locals)
  exf : ∀ b ∈ X.ex, b ≠ X.env.locals /\ ∀ x c, X.env.cells.lookup x = some c -> c ≠ b
  bs : ∀ b o, X.base.get? b = some o -> X.s₀.heap.get? b = some o /\ X.H₀ b = none
  bsz : X.base.objs.size <= X.s₀.heap.objs.size
  noex : ∀ b o, X.base.get? b = some o -> b ∉ X.ex
  exfs : ∀ b ∈ X.ex, b ∉ X.fs
  funs : X.s₀.heap.FunFrames X.base X.outer
  frf : ∀ b ∈ X.fs, X.H₀ b = none
structure Inv (X : Cx) (pins : List (Addr × Obj)) (σ : List (Option V)) (H : Hp) (s : Shared) : Prop where
  ok : X.Ok
  os : s.os = X.s₀.os
  bare : AllBare s.gens
  base : Un X.fs X.ex X.H₀ H X.s₀.heap s.heap
  loc : ∃ m, s.heap.Ns X.env.locals m /\ ∀ (i : Nat) (x : Str) (v : V), X.N[i]? = some x -> σ[i]? = some (some v) -> Vis X.env.scope x -> ∃ u, RelV v u /\ Look X.env s.heap m x u
  cell : ∀ x c, X.env.cells.lookup x = some c -> ∃ v, s.heap.IsCell c v
  free : H X.env.locals = none
  freeC : ∀ x c, X.env.cells.lookup x = some c -> H c = none
  pin : ∀ p ∈ X.pn ++ pins, s.heap.get? p.1 = some p.2 /\ H p.1 = none /\ p.1 ≠ X.env.locals /\ p.1 ∉ X.fs /\ ∀ v, p.2.data ≠ .cell v
  hok : HOk X.prog X.w H s.heap
  len : σ.length = X.N.length
section
variable {X : Cx} {pins : List (Addr × Obj)} {σ : List (Option V)} {H H' : Hp} {s : Shared} {h' : Heap}
theorem Cx.Ok.nofr (ok : X.Ok) {b : Addr} {o : Obj} (e : X.base.get? b = some o) : b ∉ X.fs := fun hb => by
  have := (ok.funs.mem hb).1
  rw [e] at this; cases this
theorem Inv.bs (I : Inv X pins σ H s) : ∀ b o, X.base.get? b = some o -> s.heap.get? b = some o /\ H b = none := fun b o e =>
  ⟨I.base.keep b o (I.ok.bs b o e).1 (I.ok.bs b o e).2 (I.ok.nofr e) (I.ok.noex b o e), I.base.free b o (I.ok.bs b o e).1 (I.ok.bs b o e).2 (I.ok.noex b o e)⟩
theorem Inv.bk (I : Inv X pins σ H s) : ∀ b o, X.base.get? b = some o -> s.heap.get? b = some o := fun b o e => (I.bs b o e).1
theorem Inv.mod (I : Inv X pins σ H s) : Mod X.K X.mg X.base := I.ok.mod
theorem Inv.kIn (I : Inv X pins σ H s) : X.K.In s.heap := I.ok.mod.kin.keeps I.bk
theorem Inv.lt (I : Inv X pins σ H s) : X.env.locals < s.heap.objs.size := let ⟨_, hn, _⟩ := I.loc; hn.lt
theorem Inv.sz (I : Inv X pins σ H s) : X.s₀.heap.objs.size <= s.heap.objs.size := Nat.le_trans I.ok.above (Nat.le_of_lt I.lt)
theorem Inv.nofs (I : Inv X pins σ H s) {a : Addr} (h : s.heap.objs.size <= a) : a ∉ X.fs := fun hb => by
  obtain ⟨_, o, ho, _⟩ := I.ok.funs.mem hb
  exact absurd (Nat.lt_of_lt_of_le (Heap.lt_size ho) (Nat.le_trans I.sz h)) (Nat.lt_irrefl _)
theorem Inv.cne (I : Inv X pins σ H s) : ∀ x c, X.env.cells.lookup x = some c -> c ≠ X.env.locals := fun x c e z => by
  obtain ⟨v, o, ho, hd⟩ := I.cell x c e
  obtain ⟨m, ⟨o', es, ep, ho', hd', _⟩, _⟩ := I.loc
  rw [z, ho'] at ho; cases ho; rw [hd'] at hd; cases hd
theorem Inv.funs (I : Inv X pins σ H s) : s.heap.FunFrames X.base X.outer := by
  have all : ∀ (l : List Env), (∀ b ∈ frs l, b ∈ X.fs) -> X.s₀.heap.FunFrames X.base l -> s.heap.FunFrames X.base l := by
    intro l
    induction l with
    | nil => intro _ _; trivial
    | cons env r ih =>
      intro hs hl
      obtain ⟨hk, ⟨L, o, hf, hn, ho, hd⟩, hr⟩ := hl
      have hL : L ∈ X.fs := hs L (by unfold frs; rw [List.filterMap_cons, hf]; exact List.mem_cons_self)
      obtain ⟨sl, e⟩ := I.base.slot L o ho (I.ok.frf L hL) hL fun z => I.ok.exfs L z hL
      exact ⟨hk, ⟨L, _, hf, hn, e, hd⟩, ih (fun b hb => hs b (by unfold frs; rw [List.filterMap_cons, hf]; exact List.mem_cons_of_mem _ hb)) hr⟩
  exact all X.outer (fun _ hb => hb) I.ok.funs
theorem Inv.stack (I : Inv X pins σ H s) : s.heap.FunFrames X.base X.stack := by
  rcases I.ok.stk with e | ⟨e, hf⟩
  · rw [e]; exact I.funs
  · rw [e]
    obtain ⟨m, hn, _⟩ := I.loc
    refine .cons (by rw [I.ok.kind]; decide) hf hn ?_ I.funs
    exact Heap.get?_none_of_le (Nat.le_trans I.ok.bsz I.ok.above)
theorem Inv.stkSub (I : Inv X pins σ H s) : ∀ b ∈ frs X.stack, b ∈ X.env.locals :: X.fs := fun b hb => by
  rcases I.ok.stk with e | ⟨e, hf⟩
  · rw [e] at hb; exact List.mem_cons_of_mem _ hb
  · rw [e] at hb
    unfold frs at hb
    rw [List.filterMap_cons, hf] at hb
    exact hb
theorem Inv.stkFree (I : Inv X pins σ H s) : ∀ b ∈ frs X.stack, H b = none := fun b hb => by
  rcases List.mem_cons.mp (I.stkSub b hb) with e | hb
  · rw [e]; exact I.free
  · obtain ⟨_, o, ho, _⟩ := I.ok.funs.mem hb
    exact I.base.free b o ho (I.ok.frf b hb) fun z => I.ok.exfs b z hb
theorem Inv.step {g' : Array GenState} {t' : Nat} {d' : Drawn} {ch : List Addr} (I : Inv X pins σ H s)
    (hch : ∀ b ∈ ch, (b ∈ X.ex ∨ X.s₀.heap.objs.size <= b) /\ b ≠ X.env.locals /\ (∀ x c, X.env.cells.lookup x = some c -> c ≠ b) /\ ∀ p ∈ X.pn ++ pins, p.1 ≠ b)
    (keep : ∀ b o, b ≠ X.env.locals -> b ∉ X.fs -> b ∉ ch -> s.heap.get? b = some o -> H b = none -> h'.get? b = some o)
    (slot : ∀ b o, b ≠ X.env.locals -> b ∈ X.fs -> b ∉ ch -> s.heap.get? b = some o -> H b = none -> ∃ sl, h'.get? b = some { o with slots := sl }) (free : ∀ b o, b ∉ ch -> s.heap.get? b = some o -> H b = none -> H' b = none)
    (there : ∀ b o, b ∉ ch -> s.heap.get? b = some o -> ∃ o', h'.get? b = some o')
    (tups : ∀ b xs, H b = some (.tup xs) -> H' b = some (.tup xs)) (frzs : ∀ b o u, H b = some (.frz o u) -> H' b = some (.frz o u)) (tbls : ∀ b ps, H b = some (.tbl ps) -> ∃ more, H' b = some (.tbl (ps ++ more)))
    (ns : ∀ m, s.heap.Ns X.env.locals m -> h'.Ns X.env.locals m) (hok : HOk X.prog X.w H' h') (hg : AllBare g') :
    Inv X pins σ H' { s with heap := h', gens := g', drawn := d', toks := t' } := by
  have neL : ∀ b o, X.s₀.heap.get? b = some o -> b ≠ X.env.locals := fun b o e => Nat.ne_of_lt (Nat.lt_of_lt_of_le (Heap.lt_size e) I.ok.above)
  have neC : ∀ b o, X.s₀.heap.get? b = some o -> b ∉ X.ex -> b ∉ ch := fun b o e hx hb => by
    rcases (hch b hb).1 with z | z
    · exact hx z
    · exact absurd (Nat.lt_of_lt_of_le (Heap.lt_size e) z) (Nat.lt_irrefl _)
  have cellK : ∀ x c, X.env.cells.lookup x = some c -> ∀ v, s.heap.IsCell c v -> h'.IsCell c v := fun x c e v ⟨o, ho, hd⟩ => by
    have nch : c ∉ ch := fun z => (hch c z).2.2.1 x c e rfl
    by_cases hc : c ∈ X.fs
    · obtain ⟨sl, q⟩ := slot c o (I.cne x c e) hc nch ho (I.freeC x c e)
      exact ⟨_, q, hd⟩
    · exact ⟨o, keep c o (I.cne x c e) hc nch ho (I.freeC x c e), hd⟩
  refine ⟨I.ok, I.os, hg, ⟨fun b o e n hb hx => ?_, fun b o e n hb hx => ?_, fun b o e n hx => ?_, fun b o e hx => ?_, fun b xs e => tups b xs (I.base.tups b xs e), fun b o xs e => frzs b o xs (I.base.frzs b o xs e), fun b ps e => ?_⟩, ?_, fun x c e => ?_, ?_, fun x c e => ?_, fun p hp => ?_, hok, I.len⟩
  · exact keep b o (neL b o e) hb (neC b o e hx) (I.base.keep b o e n hb hx) (I.base.free b o e n hx)
  · obtain ⟨sl, e1⟩ := I.base.slot b o e n hb hx
    obtain ⟨sl', e2⟩ := slot b _ (neL b o e) hb (neC b o e hx) e1 (I.base.free b o e n hx)
    exact ⟨sl', e2⟩
  · obtain ⟨o', e1⟩ := I.base.there b o e hx
    exact free b o' (neC b o e hx) e1 (I.base.free b o e n hx)
  · obtain ⟨o', e1⟩ := I.base.there b o e hx
    exact there b o' (neC b o e hx) e1
  · obtain ⟨m1, e1⟩ := I.base.tbls b ps e
    obtain ⟨m2, e2⟩ := tbls b _ e1
    exact ⟨m1 ++ m2, by rw [e2, Array.append_assoc]⟩
  · obtain ⟨m, hn, hl⟩ := I.loc
    refine ⟨m, ns m hn, fun i x v e1 e2 e3 => ?_⟩
    obtain ⟨u, r, l⟩ := hl i x v e1 e2 e3
    refine ⟨u, r, ?_⟩
    rcases l with l | ⟨k, c, e, z⟩
    · exact .inl l
    · exact .inr ⟨k, c, e, cellK x c e _ z⟩
  · obtain ⟨v, z⟩ := I.cell x c e
    exact ⟨v, cellK x c e v z⟩
  · obtain ⟨m, ⟨o, _, _, ho, _⟩, _⟩ := I.loc
    exact free _ o (fun z => (hch _ z).2.1 rfl) ho I.free
  · obtain ⟨v, o, ho, hd⟩ := I.cell x c e
    exact free c o (fun z => (hch c z).2.2.1 x c e rfl) ho (I.freeC x c e)
  · obtain ⟨e, n, ne, nf, d⟩ := I.pin p hp
    have nch : p.1 ∉ ch := fun z => (hch p.1 z).2.2.2 p hp rfl
    exact ⟨keep p.1 p.2 ne nf nch e n, free p.1 p.2 nch e n, ne, nf, d⟩
theorem Inv.un {t' : Nat} (I : Inv X pins σ H s) (u : Un X.fs [] H H' s.heap h') (hok : HOk X.prog X.w H' h') : Inv X pins σ H' { s with heap := h', toks := t' } := by
  obtain ⟨m, ⟨o, es, ep, ho, r⟩, _⟩ := id I.loc
  obtain ⟨sl, hL⟩ := u.any ho I.free (by simp)
  exact I.step (g' := s.gens) (d' := s.drawn) (ch := []) (fun _ z => nomatch z) (fun b o _ hb _ e n => u.keep b o e n hb (by simp)) (fun b o _ hb _ e n => u.slot b o e n hb (by simp)) (fun b o _ e n => u.free b o e n (by simp)) (fun b o _ e => u.there b o e (by simp)) u.tups u.frzs u.tbls (fun m' hm => by
    obtain ⟨o', es', ep', ho', r'⟩ := hm
    rw [ho] at ho'; cases ho'
    exact ⟨_, es', ep', hL, r'⟩) hok I.bare
theorem Inv.call {g' : Array GenState} {t' : Nat} {d' : Drawn} {ch : List Addr} (I : Inv X pins σ H s) (u : Un (frs X.stack) ch H H' s.heap h') (hok : HOk X.prog X.w H' h') (hg : AllBare g')
    (hch : ∀ b ∈ ch, (b ∈ X.ex ∨ X.s₀.heap.objs.size <= b) /\ b ≠ X.env.locals /\ (∀ x c, X.env.cells.lookup x = some c -> c ≠ b) /\ ∀ p ∈ X.pn ++ pins, p.1 ≠ b) :
    Inv X pins σ H' { s with heap := h', gens := g', drawn := d', toks := t' } := by
  obtain ⟨m, ⟨o, es, ep, ho, r⟩, _⟩ := id I.loc
  obtain ⟨sl, hL⟩ := u.any ho I.free fun z => (hch _ z).2.1 rfl
  exact I.step (ch := ch) hch (fun b o hL hb hc e n => u.keep b o e n (fun z => (List.mem_cons.mp (I.stkSub b z)).elim hL hb) hc) (fun b o _ _ hc e n => u.any e n hc) (fun b o hc e n => u.free b o e n hc) (fun b o hc e => u.there b o e hc) u.tups u.frzs u.tbls (fun m' hm => by
    obtain ⟨o', es', ep', ho', r'⟩ := hm
    rw [ho] at ho'; cases ho'
    exact ⟨_, es', ep', hL, r'⟩) hok hg
theorem Inv.turned {t' : Nat} {it : Addr} (I : Inv X pins σ H s) (k : ∀ b o, b ≠ it -> s.heap.get? b = some o -> h'.get? b = some o) (hn : H it = none) (hL : it ≠ X.env.locals)
    (h1 : it ∈ X.ex ∨ X.s₀.heap.objs.size <= it) (h2 : ∀ x c, X.env.cells.lookup x = some c -> c ≠ it) (h3 : ∀ p ∈ X.pn ++ pins, p.1 ≠ it) : Inv X pins σ H { s with heap := h', toks := t' } := by
  have nit : ∀ b u, H b = some u -> b ≠ it := fun b u e z => by rw [z, hn] at e; cases e
  refine I.step (g' := s.gens) (d' := s.drawn) (ch := [it]) (fun b hb => ?_) (fun b o _ _ hc e _ => k b o (fun z => hc (by simp [z])) e) (fun b o _ _ hc e _ => ⟨o.slots, k b o (fun z => hc (by simp [z])) e⟩) (fun _ _ _ _ n => n)
    (fun b o hc e => ⟨o, k b o (fun z => hc (by simp [z])) e⟩) (fun _ _ e => e) (fun _ _ _ e => e) (fun b ps e => ⟨#[], by rw [e]; simp⟩) (fun m hm => ?_) (fun b u e => ?_) I.bare
  · have e : b = it := by simpa using hb
    subst e
    exact ⟨h1, hL, h2, h3⟩
  · obtain ⟨o, es, ep, ho, r⟩ := hm
    exact ⟨o, es, ep, k _ o (Ne.symm hL) ho, r⟩
  · refine (I.hok b u e).stay (fun c v hc q => k c v ?_ q) (fun _ q => q) fun _ _ q => q
    rcases hc with z | z
    · rw [z]; exact nit b u e
    · exact nit c _ z
theorem Inv.tok (I : Inv X pins σ H s) (t : Nat) : Inv X pins σ H { s with toks := t } := I.un (h' := s.heap) (t' := t) Un.refl I.hok
theorem Inv.kept {t' : Nat} (I : Inv X pins σ H s) (k : ∀ b u, s.heap.get? b = some u -> h'.get? b = some u) : Inv X pins σ H { s with heap := h', toks := t' } := I.un (Un.kept k) (I.hok.kept k)
theorem Inv.laid {a : Addr} {o : HO} {t' : Nat} (I : Inv X pins σ H s) (k : ∀ b u, s.heap.get? b = some u -> h'.get? b = some u) (hp : s.heap.objs.size <= a) (new : ObjOk X.prog X.w (upd H a o) h' a o) :
    Inv X pins σ (upd H a o) { s with heap := h', toks := t' } := I.un (Un.laid k hp (I.hok.fresh hp)) (I.hok.laid k hp new)
theorem Inv.write {x e : Addr} {o : HO} {t' : Nat} (I : Inv X pins σ H s) (mu : Mut (H x)) (he : e = x ∨ H e = some (.own x)) (k : ∀ b u, b ≠ e -> s.heap.get? b = some u -> h'.get? b = some u) (heo : ∃ u, h'.get? e = some u)
    (new : ObjOk X.prog X.w (upd H x o) h' x o) : Inv X pins σ (upd H x o) { s with heap := h', toks := t' } := I.un (Un.write mu he k heo) (I.hok.write mu he k heo new)
theorem Inv.pins_of {pins' : List (Addr × Obj)} (I : Inv X pins σ H s) (h : ∀ p ∈ pins', s.heap.get? p.1 = some p.2 /\ H p.1 = none /\ p.1 ≠ X.env.locals /\ p.1 ∉ X.fs /\ ∀ v, p.2.data ≠ .cell v) : Inv X pins' σ H s :=
  ⟨I.ok, I.os, I.bare, I.base, I.loc, I.cell, I.free, I.freeC, fun p hp => (List.mem_append.mp hp).elim (fun z => I.pin p (List.mem_append_left _ z)) (h p), I.hok, I.len⟩
theorem nodup_ix {N : List Str} (hN : N.Nodup) {i j : Nat} {x : Str} (a : N[i]? = some x) (b : N[j]? = some x) : i = j := by
  obtain ⟨h1, e1⟩ := List.getElem?_eq_some_iff.mp a
  obtain ⟨h2, e2⟩ := List.getElem?_eq_some_iff.mp b
  exact (List.getElem_inj hN).mp (e1.trans e2.symm)
theorem store_ok2 {M : Model} {A : Around} {E : Value -> Shared -> Prop} {i : Nat} {x : Str} {v : V} {u : Value} {Q : Unit -> Shared -> Prop} (I : Inv X pins σ H s) (hN : X.N.Nodup) (hi : X.N[i]? = some x) (hx : Loc X.env.scope x) (r : RelV v u)
    (h : ∀ s', Inv X pins (σ.set i (some v)) H s' -> (∃ a, Heap.SameBut a s.heap s'.heap /\ (a = X.env.locals ∨ X.env.cells.lookup x = some a)) -> Q () s') (hf : X.fn x = true ∨ X.env.scope.names.lookup x = some .local := by first | exact .inl rfl | exact .inr rfl | assumption) : wpAny M A (storeName X.env x u) Q E s := by
  obtain ⟨m, hn, hl⟩ := id I.loc
  have hcls : (X.env.scope.kind == .class || (X.env.scope.kind == .module && X.env.locals != X.env.globals)) = false := by rw [I.ok.kind]; rfl
  have hiσ : i < σ.length := by rw [I.len]; exact (List.getElem?_eq_some_iff.mp hi).1
  have cne := I.cne
  have tracked : ∀ {a : Addr} {h' : Heap}, (∃ o, s.heap.get? a = some o /\ H a = none) -> Heap.SameBut a s.heap h' -> HOk X.prog X.w H h' := fun {a h'} ha hs b ob e => by
    obtain ⟨_, _, hfree⟩ := ha
    refine (I.hok b ob e).stay (fun c w' hc q => (hs.2 c ?_).trans q) (fun _ q => q) fun _ _ q => q
    rintro rfl
    rcases hc with rfl | hc
    · rw [hfree] at e; cases e
    · rw [hfree] at hc; cases hc
  rcases hx with hk | hk
  · refine wpAny_storeName_local hk hn (fun h' hn' hs => ?_) hcls
    obtain ⟨oL, _, _, hoL, _⟩ := id hn
    refine h _ ⟨I.ok, I.os, I.bare, ⟨fun b o e n hb hx => ?_, fun b o e n hb hx => ?_, I.base.free, fun b o e hx => ?_, I.base.tups, I.base.frzs, I.base.tbls⟩, ⟨_, hn', fun j y v' e1 e2 e3 => ?_⟩, fun y c e => ?_, I.free, I.freeC, fun p hp => ?_, tracked ⟨oL, hoL, I.free⟩ hs, by simpa using I.len⟩ ⟨_, hs, .inl rfl⟩
    · exact (hs.2 b (Nat.ne_of_lt (Nat.lt_of_lt_of_le (Heap.lt_size e) I.ok.above))).trans (I.base.keep b o e n hb hx)
    · obtain ⟨sl, e1⟩ := I.base.slot b o e n hb hx
      exact ⟨sl, (hs.2 b (Nat.ne_of_lt (Nat.lt_of_lt_of_le (Heap.lt_size e) I.ok.above))).trans e1⟩
    · obtain ⟨o', e1⟩ := I.base.there b o e hx
      exact ⟨o', (hs.2 b (Nat.ne_of_lt (Nat.lt_of_lt_of_le (Heap.lt_size e) I.ok.above))).trans e1⟩
    · by_cases hj : j = i
      · subst hj
        rw [hi] at e1; cases e1
        rw [List.getElem?_set_self hiσ] at e2
        cases e2
        exact ⟨u, r, .inl ⟨hk, by simp⟩⟩
      · rw [List.getElem?_set_ne (Ne.symm hj)] at e2
        obtain ⟨u', r', q⟩ := hl j y v' e1 e2 e3
        refine ⟨u', r', ?_⟩
        rcases q with ⟨k, e⟩ | ⟨k, c, e, z⟩
        · refine .inl ⟨k, ?_⟩
          have : y ≠ x := fun e => hj (nodup_ix hN e1 (e ▸ hi))
          simp [this, e]
        · exact .inr ⟨k, c, e, z.sameBut hs (cne y c e)⟩
    · obtain ⟨w', z⟩ := I.cell y c e
      exact ⟨w', z.sameBut hs (cne y c e)⟩
    · obtain ⟨e, n, ne, nf, d⟩ := I.pin p hp
      exact ⟨(hs.2 p.1 ne).trans e, n, ne, nf, d⟩
  · have hfn : X.fn x = true := by
      rcases hf with z | z
      · exact z
      · rw [z] at hk; cases hk
    obtain ⟨c, hc⟩ := I.ok.has x (.inl hk)
    obtain ⟨w', z⟩ := I.cell x c hc
    refine wpAny_storeName_cell I.ok.kind hk hc z (fun h' hc' hs => ?_)
    obtain ⟨oc, hoc, hocd⟩ := id z
    refine h { s with heap := h' } ⟨I.ok, I.os, I.bare, ⟨fun b o e n hb hx => ?_, fun b o e n hb hx => ?_, I.base.free, fun b o e hx => ?_, I.base.tups, I.base.frzs, I.base.tbls⟩, ⟨m, hn.sameBut hs (Ne.symm (cne x c hc)), fun j y v' e1 e2 e3 => ?_⟩, fun y c' e => ?_, I.free, I.freeC, fun p hp => ?_, tracked ⟨oc, hoc, I.freeC x c hc⟩ hs, by simpa using I.len⟩ ⟨c, hs, .inr hc⟩
    · exact (hs.2 b (Nat.ne_of_lt (Nat.lt_of_lt_of_le (Heap.lt_size e) (I.ok.cab x c hfn hc)))).trans (I.base.keep b o e n hb hx)
    · obtain ⟨sl, e1⟩ := I.base.slot b o e n hb hx
      exact ⟨sl, (hs.2 b (Nat.ne_of_lt (Nat.lt_of_lt_of_le (Heap.lt_size e) (I.ok.cab x c hfn hc)))).trans e1⟩
    · obtain ⟨o', e1⟩ := I.base.there b o e hx
      exact ⟨o', (hs.2 b (Nat.ne_of_lt (Nat.lt_of_lt_of_le (Heap.lt_size e) (I.ok.cab x c hfn hc)))).trans e1⟩
    · by_cases hj : j = i
      · subst hj
        rw [hi] at e1; cases e1
        rw [List.getElem?_set_self hiσ] at e2
        cases e2
        exact ⟨u, r, .inr ⟨.inl hk, c, hc, hc'⟩⟩
      · rw [List.getElem?_set_ne (Ne.symm hj)] at e2
        obtain ⟨u', r', q⟩ := hl j y v' e1 e2 e3
        refine ⟨u', r', ?_⟩
        rcases q with q | ⟨k, c', e, z'⟩
        · exact .inl q
        · refine .inr ⟨k, c', e, z'.sameBut hs ?_⟩
          rintro rfl
          exact hj (nodup_ix hN e1 (I.ok.inj _ _ _ e hc ▸ hi))
    · by_cases hcc : c' = c
      · subst hcc; exact ⟨_, hc'⟩
      · obtain ⟨w2, z2⟩ := I.cell y c' e
        exact ⟨w2, z2.sameBut hs hcc⟩
    · obtain ⟨e, n, ne, nf, d⟩ := I.pin p hp
      refine ⟨(hs.2 p.1 ?_).trans e, n, ne, nf, d⟩
      intro q
      rw [q, hoc] at e
      have q' : oc = p.2 := Option.some.inj e
      exact d w' (by rw [<- q']; exact hocd)
theorem store_ok {M : Model} {A : Around} {E : Value -> Shared -> Prop} {i : Nat} {x : Str} {v : V} {u : Value} {Q : Unit -> Shared -> Prop} (I : Inv X pins σ H s) (hN : X.N.Nodup) (hi : X.N[i]? = some x) (hx : Loc X.env.scope x) (r : RelV v u)
    (h : ∀ s', Inv X pins (σ.set i (some v)) H s' -> Q () s') (hf : X.fn x = true ∨ X.env.scope.names.lookup x = some .local := by first | exact .inl rfl | exact .inr rfl | assumption) : wpAny M A (storeName X.env x u) Q E s :=
  store_ok2 I hN hi hx r (fun s' I' _ => h s' I') hf
theorem Inv.call' {s' : Shared} {ch : List Addr} (I : Inv X pins σ H s) (ho : s'.os = s.os) (u : Un (frs X.stack) ch H H' s.heap s'.heap) (hok : HOk X.prog X.w H' s'.heap) (hg : AllBare s'.gens)
    (hch : ∀ b ∈ ch, (b ∈ X.ex ∨ X.s₀.heap.objs.size <= b) /\ b ≠ X.env.locals /\ (∀ x c, X.env.cells.lookup x = some c -> c ≠ b) /\ ∀ p ∈ X.pn ++ pins, p.1 ≠ b) : Inv X pins σ H' s' := by
  obtain ⟨h', g', d', t', o'⟩ := s'
  have e : o' = s.os := ho
  subst e
  exact I.call (g' := g') (t' := t') (d' := d') u hok hg hch
end
abbrev XK := Value -> Option Addr -> Hp -> Prop
abbrev St := List (Option V)
abbrev VK := V -> Hp -> Prop
abbrev TE := St -> Hp -> VK -> Prop
abbrev TT := St -> Hp -> (Bool -> Hp -> Prop) -> Prop
abbrev TA := St -> Hp -> (List V -> Hp -> Prop) -> Prop
structure Ends where
  nx : St -> Hp -> Prop
  rt : VK
  bk : St -> Hp -> Prop := fun _ _ => False
  ct : St -> Hp -> Prop := fun _ _ => False
abbrev TS := Ends -> St -> Hp -> Prop
def EP (X : Cx) (pins : List (Addr × Obj)) (σ : St) (Q : VK) (u : Value) (s' : Shared) : Prop := ∃ v H', Inv X pins σ H' s' /\ RelV v u /\ Q v H'
def TP (X : Cx) (pins : List (Addr × Obj)) (σ : St) (Q : Bool -> Hp -> Prop) (b : Bool) (s' : Shared) : Prop := ∃ H', Inv X pins σ H' s' /\ Q b H'
def AP (X : Cx) (pins : List (Addr × Obj)) (σ : St) (Q : List V -> Hp -> Prop) (us : List Value) (s' : Shared) : Prop := ∃ vs H', Inv X pins σ H' s' /\ Vals vs us /\ Q vs H'
def SP (X : Cx) (pins : List (Addr × Obj)) (D : Ends) (f : Flow) (s' : Shared) : Prop :=
  match f with
  | .next => ∃ σ' H', Inv X pins σ' H' s' /\ D.nx σ' H'
  | .brk => ∃ σ' H', Inv X pins σ' H' s' /\ D.bk σ' H'
  | .cont => ∃ σ' H', Inv X pins σ' H' s' /\ D.ct σ' H'
  | .ret u => ∃ v σ' H', Inv X pins σ' H' s' /\ RelV v u /\ D.rt v H'
def PE (X : Cx) (e : Expr) (t : TE) : Prop :=
  ∀ (pins : List (Addr × Obj)) (s : Shared) (σ : St) (H : Hp) (Q : VK), Inv X pins σ H s -> t σ H Q -> wpAny (model X.prog X.w) X.A (eval e X.env) (EP X pins σ Q) X.xe s
def PT (X : Cx) (e : Expr) (t : TT) : Prop :=
  ∀ (pins : List (Addr × Obj)) (s : Shared) (σ : St) (H : Hp) (Q : Bool -> Hp -> Prop), Inv X pins σ H s -> t σ H Q -> wpAny (model X.prog X.w) X.A (isTrue e X.env (eval e X.env)) (TP X pins σ Q) X.xe s
def PW (X : Cx) (e : Expr) (t : TT) : Prop :=
  ∀ (whole : Sem Value) (pins : List (Addr × Obj)) (s : Shared) (σ : St) (H : Hp) (Q : Bool -> Hp -> Prop), Inv X pins σ H s -> t σ H Q -> wpAny (model X.prog X.w) X.A (isTrue e X.env whole) (TP X pins σ Q) X.xe s
theorem PW.pt {X : Cx} {e : Expr} {t : TT} (h : PW X e t) : PT X e t := h _
def PA (X : Cx) (es : List Expr) (t : TA) : Prop :=
  ∀ (pos : Pos) (pins : List (Addr × Obj)) (s : Shared) (σ : St) (H : Hp) (Q : List V -> Hp -> Prop), Inv X pins σ H s -> t σ H Q -> wpAny (model X.prog X.w) X.A (spliced (backTo pos (starEach es X.env))) (AP X pins σ Q) X.xe s
def PS (X : Cx) (st : Stmt) (t : TS) : Prop :=
  ∀ (pins : List (Addr × Obj)) (s : Shared) (σ : St) (H : Hp) (D : Ends), Inv X pins σ H s -> t D σ H -> wpAny (model X.prog X.w) X.A (exec st X.env) (SP X pins D) X.xe s
def PSs (X : Cx) (st : List Stmt) (t : TS) : Prop :=
  ∀ (pins : List (Addr × Obj)) (s : Shared) (σ : St) (H : Hp) (D : Ends), Inv X pins σ H s -> t D σ H -> wpAny (model X.prog X.w) X.A (execs st X.env) (SP X pins D) X.xe s
theorem thn {α : Type} {t : Sem α} {Q Q' : α -> Shared -> Prop} {M : Model} {A : Around} {E : Value -> Shared -> Prop} {s : Shared} (h : wpAny M A t Q E s) (hQ : ∀ a s, Q a s -> Q' a s) : wpAny M A t Q' E s := wpAny_mono h hQ fun _ _ x => x
section
variable {X : Cx}
def tVar (i : Nat) : TE := fun σ H Q => ∃ v, σ[i]? = some (some v) /\ Q v H
def tC (v : V) : TE := fun _ H Q => Q v H
theorem pe_var {i : Nat} {x : Str} {pos : Pos} (hN : X.N[i]? = some x) (hv : Vis X.env.scope x) (hd : (x == ("__debug__" : Str)) = false := by decide) (hcd : (x == ("__classdict__" : Str)) = false := by decide) : PE X (.Name x pos) (tVar i) := by
  intro pins s σ H Q I h
  obtain ⟨v, e, h⟩ := h
  obtain ⟨m, hn, hl⟩ := I.loc
  obtain ⟨u, r, l⟩ := hl i x v hN e hv
  have fin : EP X pins σ Q u s := ⟨v, H, I, r, h⟩
  rcases l with ⟨hk, hm⟩ | ⟨hk, c, hc, hcell⟩
  · exact wpAny_Name (wpAny_loadName_local I.ok.kind hk hn hm fin) hd
  · rcases hk with hk | hk
    · exact wpAny_Name (wpAny_loadName_cell I.ok.kind hk hc hcell fin) hd
    · exact wpAny_Name (wpAny_loadName_free I.ok.kind hk hc hcell fin hcd) hd
theorem pe_int {i j pos} : PE X (.Constant (.int i) j pos) (tC (.int i)) := fun _ _ _ H _ I h => wpAny_Constant_int ⟨.int i, H, I.tok _, ⟨_, rfl⟩, h⟩
theorem pe_bl {b j pos} : PE X (.Constant (.bool b) j pos) (tC (.bl b)) := fun _ _ _ H _ I h => Constant_bool ⟨.bl b, H, I, rfl, h⟩
theorem pe_non {j pos} : PE X (.Constant .none j pos) (tC .non) := fun _ _ _ H _ I h => Constant_none ⟨.non, H, I, rfl, h⟩
theorem pe_str {x j pos} : PE X (.Constant (.str x) j pos) (tC (.str x)) := fun _ _ _ H _ I h => Calls.Constant_str ⟨.str x, H, I.tok _, ⟨_, rfl⟩, h⟩
def Gl (X : Cx) (x : Str) : Prop := X.env.kindOf x = some .globalImplicit
theorem ld_glob {E : Value -> Shared -> Prop} {pins : List (Addr × Obj)} {s : Shared} {σ : St} {H : Hp} {x : Str} {u : Value} {pos : Pos} {Q : Value -> Shared -> Prop} (I : Inv X pins σ H s) (hg : Gl X x) (hm : X.mg x = some u) (h : Q u s)
    (hd : (x == ("__debug__" : Str)) = false := by decide) : wpAny (model X.prog X.w) X.A (eval (.Name x pos) X.env) Q E s :=
  Calls.Name_function_global I.ok.kind hg (Calls.loadGlobal_global (by rw [I.ok.glob]; exact I.mod.glob.keeps I.bk) hm h) hd
theorem ld_blt {E : Value -> Shared -> Prop} {pins : List (Addr × Obj)} {s : Shared} {σ : St} {H : Hp} {x : Str} {u : Value} {pos : Pos} {Q : Value -> Shared -> Prop} (I : Inv X pins σ H s) (hg : Gl X x) (hm : X.mg x = none) (hv : bootBuiltins x = some u) (h : Q u s)
    (hn : x ≠ "__name__" := by decide) (hd : (x == ("__debug__" : Str)) = false := by decide) : wpAny (model X.prog X.w) X.A (eval (.Name x pos) X.env) Q E s := by
  obtain ⟨mb, h1, h2⟩ := I.mod.blt
  exact Calls.Name_function_global I.ok.kind hg (Calls.loadGlobal_builtin (by rw [I.ok.glob]; exact I.mod.glob.keeps I.bk) hm (by rw [I.ok.blt]; exact h1.keeps I.bk) ((h2 x hn).trans hv) h) hd
theorem pe_glob {x : Str} {v : V} {u : Value} {pos : Pos} (hg : Gl X x) (hm : X.mg x = some u) (r : RelV v u) (hd : (x == ("__debug__" : Str)) = false := by decide) : PE X (.Name x pos) (tC v) :=
  fun _ _ _ H _ I h => ld_glob I hg hm ⟨v, H, I, r, h⟩ hd
theorem pe_bltn {x : Str} {v : V} {u : Value} {pos : Pos} (hg : Gl X x) (hm : X.mg x = none) (hv : bootBuiltins x = some u) (r : RelV v u) (hn : x ≠ "__name__" := by decide) (hd : (x == ("__debug__" : Str)) = false := by decide) : PE X (.Name x pos) (tC v) :=
  fun _ _ _ H _ I h => ld_blt I hg hm hv ⟨v, H, I, r, h⟩ hn hd
variable {a b : Expr} {ta tb : TE} {pos : Pos}
def PC (X : Cx) (op : CmpOp) (a b : Expr) (t : TE) : Prop :=
  ∀ (pins : List (Addr × Obj)) (s : Shared) (σ : St) (H : Hp) (Q : VK), Inv X pins σ H s -> t σ H Q ->
    wpAny (model X.prog X.w) X.A (eval a X.env) (fun v s₁ => wpAny (model X.prog X.w) X.A (eval b X.env) (fun u s₂ => wpAny (model X.prog X.w) X.A (compareOp op v u) (EP X pins σ Q) X.xe s₂) X.xe s₁) X.xe s
def tB (t : TE) : TT := fun σ H Q => t σ H fun x H1 => ∃ c, x = .bl c /\ Q c H1
theorem pe_cmp {op : CmpOp} {t : TE} (h : PC X op a b t) (h1 : behindInMarks op b = false := by first | exact nobehind _ (by decide) (by decide) | rfl) : PE X (.Compare a [op] [b] pos) t := fun pins s σ H Q I hw => wpAny_Compare1 (h pins s σ H Q I hw) h1
theorem pt_val {e : Expr} {t : TE} (h : PE X e t) (he : ∀ whole, isTrue e X.env whole = (do let v <- whole; standAt e.pos; holding [v] (truthy v)) := by intro _; rfl) : PT X e (tB t) := by
  intro pins s σ H Q I hw
  refine isTrue_plain (thn (h pins s σ H _ I hw) fun v s1 ⟨x, H1, I1, r1, q1⟩ => ?_) (he _)
  obtain ⟨d, rfl, q⟩ := q1
  cases r1
  exact wpAny_truthy_bool ⟨H1, I1, q⟩
variable {tA tB' : TT} {rest : List Expr}
def tAnd (t u : TT) : TT := fun σ H Q => t σ H fun c H1 => if c = true then u σ H1 Q else Q false H1
def tOr (t u : TT) : TT := fun σ H Q => t σ H fun c H1 => if c = true then Q true H1 else u σ H1 Q
def tNot (t : TT) : TT := fun σ H Q => t σ H fun c H1 => Q (!c) H1
theorem pw_and1 (ha : PT X a tA) : PW X (.BoolOp .And [a] pos) tA := by
  intro wh pins s σ H Q I h
  refine isTrue_and (thn (ha pins s σ H Q I h) fun c s1 e => ?_)
  cases c with
  | true => exact isTrue_and_nil e
  | false => exact e
theorem pw_or1 (ha : PT X a tA) : PW X (.BoolOp .Or [a] pos) tA := by
  intro wh pins s σ H Q I h
  refine isTrue_or (thn (ha pins s σ H Q I h) fun c s1 e => ?_)
  cases c with
  | false => exact isTrue_or_nil e
  | true => exact e
theorem pw_and (ha : PT X a tA) (hb : PW X (.BoolOp .And (b :: rest) pos) tB') : PW X (.BoolOp .And (a :: b :: rest) pos) (tAnd tA tB') := by
  intro wh pins s σ H Q I h
  refine isTrue_and (thn (ha pins s σ H _ I h) fun c s1 ⟨H1, I1, q1⟩ => ?_)
  cases c with
  | true => exact hb wh pins s1 σ H1 Q I1 q1
  | false => exact ⟨H1, I1, q1⟩
theorem pw_or (ha : PT X a tA) (hb : PW X (.BoolOp .Or (b :: rest) pos) tB') : PW X (.BoolOp .Or (a :: b :: rest) pos) (tOr tA tB') := by
  intro wh pins s σ H Q I h
  refine isTrue_or (thn (ha pins s σ H _ I h) fun c s1 ⟨H1, I1, q1⟩ => ?_)
  cases c with
  | true => exact ⟨H1, I1, q1⟩
  | false => exact hb wh pins s1 σ H1 Q I1 q1
theorem pt_not (ha : PT X a tA) : PT X (.UnaryOp .Not a pos) (tNot tA) := by
  intro pins s σ H Q I h
  exact isTrue_not (ha pins s σ H (fun c H1 => Q (!c) H1) I h)
def tAndV (ta tb : TE) : TE := fun σ H Q => ta σ H fun x H1 => ∃ c, x = .bl c /\ if c = true then tb σ H1 Q else Q (.bl false) H1
def tNotV (ta : TE) : TE := fun σ H Q => ta σ H fun x H1 => ∃ c, x = .bl c /\ Q (.bl (!c)) H1
theorem pe_one {op} {t : TE} (h : PE X a t) : PE X (.BoolOp op [a] pos) t := fun pins s σ H Q I hw => BoolOp_one (h pins s σ H Q I hw)
theorem pe_and (ha : PE X a ta) (hb : PE X (.BoolOp .And (b :: rest) pos) tb) : PE X (.BoolOp .And (a :: b :: rest) pos) (tAndV ta tb) := by
  intro pins s σ H Q I h
  refine BoolOp_and (thn (ha pins s σ H _ I h) fun v s1 ⟨x, H1, I1, r1, q1⟩ => ?_)
  obtain ⟨c, rfl, q1⟩ := q1
  cases r1
  refine wpAny_truthy_bool ?_
  cases c with
  | true => exact hb pins s1 σ H1 Q I1 q1
  | false => exact ⟨.bl false, H1, I1, rfl, q1⟩
theorem pe_not (ha : PE X a ta) : PE X (.UnaryOp .Not a pos) (tNotV ta) := by
  intro pins s σ H Q I h
  refine UnaryOp_ (thn (ha pins s σ H _ I h) fun v s1 ⟨x, H1, I1, r1, q1⟩ => ?_)
  obtain ⟨c, rfl, q1⟩ := q1
  cases r1
  exact not_of (wpAny_truthy_bool ⟨.bl (!c), H1, I1, rfl, q1⟩)
end
def SqL (K : Frag) (H : Hp) (a : Addr) (xs : List V) : Prop :=
  Rd H a (.lst xs) ∨
    ∃ (o : Obj) (its : Array Value) (n : Nat), K.lookup a = some o /\ o.cls = .type "list" /\ o.dict = none /\ o.data = .seq its n /\ its.size <= sizeLine /\ Vals xs its.toList
def SqT (K : Frag) (H : Hp) (a : Addr) (xs : List V) : Prop :=
  Rd H a (.tup xs) ∨
    ∃ (o : Obj) (its : Array Value) (n : Nat), K.lookup a = some o /\ o.cls = .type "tuple" /\ o.data = .seq its n /\ its.size <= sizeLine /\ Vals xs its.toList
def absV : Value -> Option V
  | .none => some .non
  | .bool b => some (.bl b)
  | .int i _ => some (.int i)
  | .str x _ => some (.str x)
  | .bytes b _ => some (.byt b)
  | .float b _ => some (.flt b)
  | .ref a => some (.ref a)
  | .type n => some (.ty n)
  | _ => none
theorem RelV.abs {x : V} {u : Value} (r : RelV x u) : absV u = some x := by
  cases x with
  | non => cases r; rfl
  | bl _ => cases r; rfl
  | int _ => obtain ⟨t, rfl⟩ := r; rfl
  | str _ => obtain ⟨t, rfl⟩ := r; rfl
  | byt _ => obtain ⟨t, rfl⟩ := r; rfl
  | flt _ => obtain ⟨t, rfl⟩ := r; rfl
  | ref _ => cases r; rfl
  | ty _ => cases r; rfl
theorem RelV.inj {x y : V} {u : Value} (r : RelV x u) (q : RelV y u) : x = y := Option.some.inj (r.abs.symm.trans q.abs)
theorem Vals.inj : ∀ {xs ys : List V} {us : List Value}, Vals xs us -> Vals ys us -> xs = ys
  | _, _, _, .nil, .nil => rfl
  | _, _, _, .cons r t, .cons r' t' => by rw [r.inj r', Vals.inj t t']
section
variable {X : Cx} {pins : List (Addr × Obj)} {σ : St} {H : Hp} {s : Shared} {a : Addr} {xs ys : List V}
theorem SqL.of {K : Frag} (h : H a = some (.lst xs)) : SqL K H a xs := .inl (.inl h)
theorem SqT.of {K : Frag} (h : H a = some (.tup xs)) : SqT K H a xs := .inl (.inl h)
theorem Inv.list (I : Inv X pins σ H s) (h : SqL X.K H a xs) : ∃ its : List Value, Vals xs its /\ PlainL s.heap a its.toArray /\ xs.length <= sizeLine := by
  rcases h with h | ⟨o, its, n, hk, hc, hd, hs, hz, r⟩
  · obtain ⟨z, its, n, r, e⟩ := h.ok I.hok
    exact ⟨its, r, ⟨_, n, e, rfl, rfl, rfl⟩, z⟩
  · refine ⟨its.toList, r, ⟨o, n, I.kIn a o hk, hc, hd, by simpa using hs⟩, ?_⟩
    have e := r.length
    simp only [Array.length_toList] at e
    omega
theorem Inv.tuple (I : Inv X pins σ H s) (h : SqT X.K H a xs) : ∃ its : List Value, Vals xs its /\ IsTup s.heap a its.toArray /\ xs.length <= sizeLine := by
  rcases h with h | ⟨o, its, n, hk, hc, hs, hz, r⟩
  · obtain ⟨z, its, r, p⟩ := h.ok I.hok
    exact ⟨its, r, p, z⟩
  · refine ⟨its.toList, r, ⟨o, I.kIn a o hk, hc, n, by simpa using hs⟩, ?_⟩
    have e := r.length
    simp only [Array.length_toList] at e
    omega
theorem Inv.list_inj (I : Inv X pins σ H s) (h : SqL X.K H a xs) (h' : SqL X.K H a ys) : xs = ys := by
  obtain ⟨its, r, ⟨o, n, e, _, _, d⟩, _⟩ := I.list h
  obtain ⟨its', r', ⟨o', n', e', _, _, d'⟩, _⟩ := I.list h'
  rw [e] at e'; cases e'
  rw [d] at d'
  injection d' with d1 _
  have : its = its' := by simpa using congrArg Array.toList d1
  subst this
  exact r.inj r'
theorem Inv.tuple_inj (I : Inv X pins σ H s) (h : SqT X.K H a xs) (h' : SqT X.K H a ys) : xs = ys := by
  obtain ⟨its, r, ⟨o, e, _, n, d⟩, _⟩ := I.tuple h
  obtain ⟨its', r', ⟨o', e', _, n', d'⟩, _⟩ := I.tuple h'
  rw [e] at e'; cases e'
  rw [d] at d'
  injection d' with d1 _
  have : its = its' := by simpa using congrArg Array.toList d1
  subst this
  exact r.inj r'
end
abbrev Cx.wish (X : Cx) (E : Value -> Shared -> Prop) : Cx := { X with xe := E }
abbrev Cx.nox (X : Cx) : Cx := X.wish fun _ _ => False
theorem Cx.Ok.wish {X : Cx} (ok : X.Ok) (E : Value -> Shared -> Prop) : (X.wish E).Ok :=
  ⟨ok.mod, ok.kind, ok.glob, ok.blt, ok.above, ok.inj, ok.has, ok.cab, ok.hd, ok.frames, ok.stk, ok.exf, ok.bs, ok.bsz, ok.noex, ok.exfs, ok.funs, ok.frf⟩
theorem Cx.Ok.unwish {X : Cx} {E : Value -> Shared -> Prop} (ok : (X.wish E).Ok) : X.Ok :=
  ⟨ok.mod, ok.kind, ok.glob, ok.blt, ok.above, ok.inj, ok.has, ok.cab, ok.hd, ok.frames, ok.stk, ok.exf, ok.bs, ok.bsz, ok.noex, ok.exfs, ok.funs, ok.frf⟩
section
variable {X : Cx} {pins : List (Addr × Obj)} {σ : St} {H : Hp} {s : Shared} {E : Value -> Shared -> Prop}
theorem Inv.wish (I : Inv X pins σ H s) (E : Value -> Shared -> Prop) : Inv (X.wish E) pins σ H s := ⟨I.ok.wish E, I.os, I.bare, I.base, I.loc, I.cell, I.free, I.freeC, I.pin, I.hok, I.len⟩
theorem Inv.unwish (I : Inv (X.wish E) pins σ H s) : Inv X pins σ H s := ⟨I.ok.unwish, I.os, I.bare, I.base, I.loc, I.cell, I.free, I.freeC, I.pin, I.hok, I.len⟩
theorem SP.unwish {D : Ends} {f : Flow} {s' : Shared} (h : SP (X.wish E) pins D f s') : SP X pins D f s' := by
  cases f with
  | next => obtain ⟨σ', H', I, q⟩ := h; exact ⟨σ', H', I.unwish, q⟩
  | brk => obtain ⟨σ', H', I, q⟩ := h; exact ⟨σ', H', I.unwish, q⟩
  | cont => obtain ⟨σ', H', I, q⟩ := h; exact ⟨σ', H', I.unwish, q⟩
  | ret u => obtain ⟨v, σ', H', I, r, q⟩ := h; exact ⟨v, σ', H', I.unwish, r, q⟩
theorem PSs.nox {st : List Stmt} {t : TS} (h : PSs X.nox st t) : PSs X st t := fun pins s σ H D I hw =>
  wpAny_mono (h pins s σ H D (I.wish _) hw) (fun _ _ q => q.unwish) fun _ _ z => False.elim z
end
section
variable {X : Cx} {st : Stmt} {rest : List Stmt} {t u : TS} {e : Expr} {te : TE} {pos : Pos}
def tNext : TS := fun D σ H => D.nx σ H
def tSeq (t u : TS) : TS := fun D σ H => t { D with nx := u D } σ H
theorem pss_nil : PSs X [] tNext := fun _ _ σ H _ I h => wpAny_execs_nil ⟨σ, H, I, h⟩
theorem pss_cons (h1 : PS X st t) (h2 : PSs X rest u) : PSs X (st :: rest) (tSeq t u) := by
  intro pins s σ H D I h
  refine wpAny_execs_cons (thn (h1 pins s σ H { D with nx := u D } I h) fun f s1 q => ?_)
  cases f with
  | next =>
    obtain ⟨σ', H', I', q⟩ := q
    exact h2 pins s1 σ' H' D I' q
  | ret v => exact q
  | brk => exact q
  | cont => exact q
theorem pss_one (h1 : PS X st t) : PSs X [st] t := by
  intro pins s σ H D I h
  refine wpAny_execs_cons (thn (h1 pins s σ H D I h) fun f s1 q => ?_)
  cases f with
  | next => exact wpAny_execs_nil q
  | ret v => exact q
  | brk => exact q
  | cont => exact q
theorem Inv.quiet {pins : List (Addr × Obj)} {σ : St} {H : Hp} {s : Shared} (I : Inv X pins σ H s) : interactive X.env = false := by simp [interactive, I.ok.kind]
def tDrop (te : TE) : TS := fun D σ H => te σ H fun _ H1 => D.nx σ H1
theorem ps_expr (he : PE X e te) (hs : swapsWith e none pos.line X.env = pure false := by rfl) : PS X (.Expr e pos) (tDrop te) := by
  intro pins s σ H D I h
  exact wpAny_Expr_any (thn (he pins s σ H _ I h) fun v s1 ⟨x, H1, I1, r1, q1⟩ => ⟨σ, H1, I1, q1⟩) I.quiet hs
def tRet (te : TE) : TS := fun D σ H => te σ H D.rt
theorem ps_ret (he : PE X e te) : PS X (.Return (some e) pos) (tRet te) := by
  intro pins s σ H D I h
  exact wpAny_Return_some (thn (he pins s σ H _ I h) fun v s1 ⟨x, H1, I1, r1, q1⟩ => ⟨x, σ, H1, I1, r1, q1⟩)
def tIfS (c : TT) (t u : TS) : TS := fun D σ H => c σ H fun b H1 => if b = true then t D σ H1 else u D σ H1
theorem ps_if {c : Expr} {a b : List Stmt} {tc : TT} (hc : PT X c tc) (ha : PSs X a t) (hb : PSs X b u) : PS X (.If c a b pos) (tIfS tc t u) := by
  intro pins s σ H D I h
  refine wpAny_If (thn (hc pins s σ H _ I h) fun d s1 ⟨H1, I1, q1⟩ => ?_)
  cases d with
  | true => exact ha pins s1 σ H1 D I1 q1
  | false => exact hb pins s1 σ H1 D I1 q1
end
abbrev TG := V -> St -> Hp -> (St -> Hp -> Prop) -> Prop
abbrev TGs := List V -> St -> Hp -> (St -> Hp -> Prop) -> Prop
def PG (X : Cx) (target : Expr) (t : TG) : Prop :=
  ∀ (pins : List (Addr × Obj)) (s : Shared) (σ : St) (H : Hp) (v : V) (u : Value) (Q : St -> Hp -> Prop), Inv X pins σ H s -> RelV v u -> t v σ H Q ->
    wpAny (model X.prog X.w) X.A (assign target X.env u) (fun _ s' => ∃ σ' H', Inv X pins σ' H' s' /\ Q σ' H') X.xe s
def PGs (X : Cx) (ts : List Expr) (t : TGs) : Prop :=
  ∀ (pins : List (Addr × Obj)) (s : Shared) (σ : St) (H : Hp) (vs : List V) (us : List Value) (Q : St -> Hp -> Prop), Inv X pins σ H s -> Vals vs us -> t vs σ H Q ->
    wpAny (model X.prog X.w) X.A (assignInOrder ((assignEach ts X.env).map (·.2)) us) (fun _ s' => ∃ σ' H', Inv X pins σ' H' s' /\ Q σ' H') X.xe s
abbrev TSet := V -> V -> V -> Hp -> (Hp -> Prop) -> Prop
def PSet (X : Cx) (t : TSet) : Prop :=
  ∀ (pins : List (Addr × Obj)) (s : Shared) (σ : St) (H : Hp) (o i v : V) (ov iv u : Value) (Q : Hp -> Prop), Inv X pins σ H s -> RelV o ov -> RelV i iv -> RelV v u -> t o i v H Q ->
    wpAny (model X.prog X.w) X.A (setItem ov iv u) (fun _ s' => ∃ H', Inv X pins σ H' s' /\ Q H') X.xe s
section
variable {X : Cx} {pos : Pos}
def gName (i : Nat) : TG := fun v σ H Q => Q (σ.set i (some v)) H
theorem pg_name {i : Nat} {x : Str} (hN : X.N.Nodup) (hi : X.N[i]? = some x) (hx : Loc X.env.scope x) (hf : X.fn x = true ∨ X.env.scope.names.lookup x = some .local := by first | exact .inl rfl | exact .inr rfl | assumption) : PG X (.Name x pos) (gName i) := by
  intro pins s σ H v u Q I r h
  exact wpAny_assign_Name (store_ok I hN hi hx r (fun s' I' => ⟨_, H, I', h⟩) hf)
def gNil : TGs := fun vs σ H Q => vs = [] /\ Q σ H
def gCons (t : TG) (u : TGs) : TGs := fun vs σ H Q => ∃ v r, vs = v :: r /\ t v σ H fun σ' H' => u r σ' H' Q
theorem pgs_nil : PGs X [] gNil := by
  intro pins s σ H vs us Q I r h
  obtain ⟨e, h⟩ := h
  subst e
  cases r
  exact assignInOrder_nil ⟨σ, H, I, h⟩
theorem pgs_cons {e : Expr} {es : List Expr} {t : TG} {u : TGs} (h1 : PG X e t) (h2 : PGs X es u)
    (hs : (assignEach (e :: es) X.env).map (·.2) = assign e X.env :: (assignEach es X.env).map (·.2) := by rfl) : PGs X (e :: es) (gCons t u) := by
  intro pins s σ H vs us Q I r h
  obtain ⟨v, vr, e1, h⟩ := h
  subst e1
  cases r with
  | cons r rr =>
    rw [hs]
    refine assignInOrder_cons (thn (h1 pins s σ H _ _ _ I r h) fun _ s1 ⟨σ1, H1, I1, q1⟩ => ?_)
    exact h2 pins s1 σ1 H1 _ _ Q I1 rr q1
def gTup (K : Frag) (n : Nat) (t : TGs) : TG := fun v σ H Q => ∃ a xs, v = .ref a /\ SqT K H a xs /\ xs.length = n /\ t xs σ H Q
theorem pg_tup {es : List Expr} {k : Nat} {t : TGs} {n : Nat} (hc : X.calm = true) (h : PGs X es t)
    (hn : (assignEach es X.env).length = n := by rfl) (hst : (assignEach es X.env).findIdx? (·.1) = none := by rfl) : PG X (.Tuple es k pos) (gTup X.K n t) := by
  intro pins s σ H v u Q I r hw
  obtain ⟨a, xs, e1, hq, hl, hw⟩ := hw
  subst e1
  cases r
  obtain ⟨its, rv, ht, hz⟩ := I.tuple hq
  refine assign_Tuple_tuple (I.ok.hd hc) ht (by simp [hn, <- hl, rv.length]) hst fun h' hx => ?_
  have I1 : Inv X pins σ H { s with heap := h' } := I.kept (t' := s.toks) fun b o e => hx b o (Nat.ne_of_lt (Heap.lt_size e)) e
  exact h pins _ σ H xs _ Q I1 (by simpa using rv) hw
def gSub (to ti : TE) (t : TSet) : TG := fun v σ H Q => to σ H fun o H1 => ti σ H1 fun i H2 => t o i v H2 fun H3 => Q σ H3
theorem pg_sub {o i : Expr} {to ti : TE} {t : TSet} (ho : PE X o to) (hi : PE X i ti) (hs : PSet X t)
    (ha : ∀ v, assign (.Subscript o i pos) X.env v = (do
      let ov <- holding [v] (eval o X.env)
      let iv <- holding [v, ov] (eval i X.env)
      standAt pos
      holding [v, ov, iv] (setItem ov iv v)
      release [v, ov, iv] []) := by intro _; rfl) : PG X (.Subscript o i pos) (gSub to ti t) := by
  intro pins s σ H v u Q I r h
  rw [ha]
  refine wpAny_bind (wpAny_holding (thn (ho pins s σ H _ I h) fun ov s1 ⟨x, H1, I1, r1, q1⟩ => ?_))
  refine wpAny_bind (wpAny_holding (thn (hi pins s1 σ H1 _ I1 q1) fun iv s2 ⟨y, H2, I2, r2, q2⟩ => ?_))
  refine wpAny_bind (wpAny_standAt (wpAny_bind (wpAny_holding (thn (hs pins s2 σ H2 x y v ov iv u _ I2 r1 r2 r q2) fun _ s3 ⟨H3, I3, q3⟩ => ?_))))
  exact wpAny_release ⟨σ, H3, I3, q3⟩
def tAsg (te : TE) (g : TG) : TS := fun D σ H => te σ H fun x H1 => g x σ H1 D.nx
theorem ps_asg {tg e : Expr} {te : TE} {g : TG} (he : PE X e te) (hg : PG X tg g) (hs : swapsWithSole [tg] e pos.line X.env = pure false := by rfl) (hw : swappedStores [tg] e X.env = pure none := by rfl)
    (h1 : (assignEach [tg] X.env).map (·.2) = [assign tg X.env] := by rfl) : PS X (.Assign [tg] e pos) (tAsg te g) := by
  intro pins s σ H D I h
  refine wpAny_Assign_stores (thn (he pins s σ H _ I h) fun v s1 ⟨x, H1, I1, r1, q1⟩ => ?_) hs hw
  rw [h1]
  exact thn (hg pins s1 σ H1 x v _ I1 r1 q1) fun _ s2 q => q
theorem ps_set {i : Nat} {x : Str} {e : Expr} {te : TE} {pos' : Pos} (hN : X.N.Nodup) (hi : X.N[i]? = some x) (hx : Loc X.env.scope x) (he : PE X e te) (hs : swapsWith e (some (.Name x pos')) pos.line X.env = pure false := by rfl) (hf : X.fn x = true ∨ X.env.scope.names.lookup x = some .local := by first | exact .inl rfl | exact .inr rfl | assumption) :
    PS X (.Assign [.Name x pos'] e pos) (tAsg te (gName i)) := by
  intro pins s σ H D I h
  refine wpAny_Assign_Name (thn (he pins s σ H _ I h) fun v s1 ⟨y, H1, I1, r1, q1⟩ => ?_) hs
  exact store_ok I1 hN hi hx r1 (fun s2 I2 => ⟨_, H1, I2, q1⟩) hf
def tPar (i j : Nat) (ta : TA) : TS := fun D σ H => ta σ H fun vs H1 => ∃ v w, vs = [v, w] /\ D.nx ((σ.set i (some v)).set j (some w)) H1
theorem ps_par {i j : Nat} {x y : Str} {a b : Expr} {ta : TA} {px py pt : Pos} {kt k2 pt2} (hc : X.calm = true) (hN : X.N.Nodup) (hi : X.N[i]? = some x) (hj : X.N[j]? = some y) (hij : i ≠ j)
    (hx : X.env.scope.names.lookup x = some .local) (hy : X.env.scope.names.lookup y = some .local) (ha : PA X [a, b] ta)
    (hw : swappedStores [.Tuple [.Name x px, .Name y py] kt pt] (.Tuple [a, b] k2 pt2) X.env = pure (some [x, y]))
    (hs : swapsWithSole [.Tuple [.Name x px, .Name y py] kt pt] (.Tuple [a, b] k2 pt2) pos.line X.env = pure false := by rfl) :
    PS X (.Assign [.Tuple [.Name x px, .Name y py] kt pt] (.Tuple [a, b] k2 pt2) pos) (tPar i j ta) := by
  intro pins s σ H D I h
  rw [exec_Assign_arm]
  refine wpAny_bind (wpAny_standAt ?_)
  rw [hs]
  refine wpAny_bind (wpAny_pure ?_)
  rw [if_neg (by decide)]
  refine wpAny_bind (Tuple_ (thn (ha _ pins s σ H _ I h) fun us s1 ⟨vs, H1, I1, r1, q1⟩ => ?_))
  obtain ⟨v, w, e1, q1⟩ := q1
  subst e1
  obtain ⟨u1, u2, rfl, rv, rw'⟩ : ∃ u1 u2, us = [u1, u2] /\ RelV v u1 /\ RelV w u2 := by
    cases r1 with
    | cons p q =>
      cases q with
      | cons p' q' =>
        cases q'
        exact ⟨_, _, rfl, p, p'⟩
  refine wpAny_newObj_type ?_ (by show 2 <= sizeLine; decide)
  have I2 : Inv X pins σ H1 { s1 with heap := s1.heap.push { cls := .type "tuple", data := .seq [u1, u2].toArray } } := I1.kept (t' := s1.toks) fun b o e => Heap.get?_push_of_some _ e
  rw [hw]
  refine wpAny_bind (wpAny_pure ?_)
  show wpAny (model X.prog X.w) X.A (do rule "assign.swapped-stores"; let items <- unpackItems (.ref s1.heap.objs.size) 2 none; assignInOrder [fun v => bindName X.env y v, fun v => bindName X.env x v] items.reverse; pure Flow.next) _ _ _
  refine wpAny_bind (wpAny_rule (wpAny_bind (unpackItems_tuple (items := #[u1, u2]) (I.ok.hd hc) (IsTup.new s1.heap _) fun h' hx' => ?_)))
  have I3 := I2.kept (h' := h') (t' := s1.toks) fun b o e => hx' b o (Nat.ne_of_lt (Heap.lt_size e)) e
  show wpAny _ _ (assignInOrder [fun v => bindName X.env y v, fun v => bindName X.env x v] [u2, u1] >>= fun _ => pure Flow.next) _ _ _
  refine wpAny_bind (assignInOrder_cons (wpAny_bindName (store_ok I3 hN hj (.inl hy) rw' (fun s2 I4 => ?_) (.inr hy))))
  refine assignInOrder_cons (wpAny_bindName (store_ok I4 hN hi (.inl hx) rv (fun s3 I5 => assignInOrder_nil (wpAny_pure ?_)) (.inr hx)))
  rw [List.set_comm _ _ (Ne.symm hij)] at I5
  exact ⟨_, H1, I5, q1⟩
end
section
variable {X : Cx} {pos : Pos}
end
structure It where
  go : Nat -> Hp -> Prop
  yld : Nat -> Hp -> V -> Hp -> Prop
  stop : Nat -> Hp -> Prop
def FpOk (X : Cx) (pins : List (Addr × Obj)) (H : Hp) (b : Addr) : Prop :=
  H b = none /\ b ≠ X.env.locals /\ b ∉ X.fs /\ (b ∈ X.ex ∨ X.s₀.heap.objs.size <= b) /\ (∀ x c, X.env.cells.lookup x = some c -> c ≠ b) /\ ∀ p ∈ X.pn ++ pins, p.1 ≠ b
theorem Inv.fpOk {X : Cx} {pins : List (Addr × Obj)} {σ : St} {H H' : Hp} {s : Shared} {b : Addr} (I : Inv X pins σ H s) (hb : s.heap.objs.size <= b) (hn : H' b = none) : FpOk X pins H' b := by
  refine ⟨hn, Nat.ne_of_gt (Nat.lt_of_lt_of_le I.lt hb), I.nofs hb, .inr (Nat.le_trans I.sz hb), fun x c e z => ?_, fun p hp z => ?_⟩
  · obtain ⟨v, q⟩ := I.cell x c e
    exact absurd (Nat.lt_of_lt_of_le q.lt (by rw [z]; exact hb)) (Nat.lt_irrefl _)
  · exact absurd (Nat.lt_of_lt_of_le (Heap.lt_size (I.pin p hp).1) (by rw [z]; exact hb)) (Nat.lt_irrefl _)
structure Turn (P : Program) (w : World) (K : Frag) (tg : Expr) (J : It) (fp : List Addr) (it : Addr) (tn : Nat -> Heap -> Prop) : Prop where
  mem : it ∈ fp
  obj : ∀ i h, tn i h -> ∀ b ∈ fp, ∃ o, h.get? b = some o /\ ∀ v, o.data ≠ .cell v
  keep : ∀ i h h', tn i h -> (∀ b ∈ fp, ∀ o, h.get? b = some o -> h'.get? b = some o) -> tn i h'
  item : ∀ (X : Cx), X.prog = P -> X.w = w -> X.K = K -> X.calm = true -> ∀ (i : Nat) (pins : List (Addr × Obj)) (s : Shared) (σ : St) (H : Hp) (E : Value -> Shared -> Prop), Inv X pins σ H s -> (∀ b ∈ fp, FpOk X pins H b) -> tn i s.heap -> J.go i H ->
    wpAny (model P w) X.A (pyNext (.ref it)) (fun r s1 => ∃ u, r = some u /\
      wpAny (model P w) X.A (letOwnedTupleGo tg (.ref it) u) (fun _ s2 => ∃ x H', Inv X pins σ H' s2 /\ RelV x u /\ J.yld i H x H' /\ tn (i + 1) s2.heap /\ ∀ b ∈ fp, H' b = none) E s1) E s
  done : ∀ (X : Cx), X.prog = P -> X.w = w -> X.K = K -> X.calm = true -> ∀ (i : Nat) (pins : List (Addr × Obj)) (s : Shared) (σ : St) (H : Hp) (E : Value -> Shared -> Prop), Inv X pins σ H s -> (∀ b ∈ fp, FpOk X pins H b) -> tn i s.heap -> J.stop i H ->
    wpAny (model P w) X.A (pyNext (.ref it)) (fun r s1 => r = none /\ Inv X pins σ H s1) E s
  self : ∀ (A : Around) (i : Nat) (s : Shared) (Q : Value -> Shared -> Prop) (E : Value -> Shared -> Prop), tn i s.heap -> Q (.ref it) s -> wpAny (model P w) A (pyIter (.ref it)) Q E s
abbrev TI := St -> Hp -> (It -> Hp -> Prop) -> Prop
def PIE (X : Cx) (pins : List (Addr × Obj)) (σ : St) (tg : Expr) (R : It -> Hp -> Prop) (itv : Value) (s2 : Shared) : Prop :=
  ∃ (it : Addr) (fp : List Addr) (tn : Nat -> Heap -> Prop) (J : It) (H' : Hp), itv = .ref it /\ Inv X pins σ H' s2 /\ Turn X.prog X.w X.K tg J fp it tn /\ tn 0 s2.heap /\ (∀ b ∈ fp, FpOk X pins H' b) /\ R J H'
def PI (X : Cx) (tg iter : Expr) (wi : TI) : Prop :=
  ∀ (pins : List (Addr × Obj)) (s : Shared) (σ : St) (H : Hp) (R : It -> Hp -> Prop), Inv X pins σ H s -> wi σ H R ->
    wpAny (model X.prog X.w) X.A (eval iter X.env) (fun v s1 => wpAny (model X.prog X.w) X.A (pyIter v) (PIE X pins σ tg R) X.xe s1) X.xe s
theorem go_of {M : Model} {A : Around} {E : Value -> Shared -> Prop} {s : Shared} {tg : Expr} {it : Addr} {u : Value} {o : Obj} {n : String} {vs : Array Value} {Q : Unit -> Shared -> Prop} (ho : s.heap.get? it = some o) (hc : o.cls = .type n) (hd : o.data = .fields vs)
    (hn : ["enumerate", "zip", "dict_itemiterator", "dict_reverseitemiterator", "odict_iterator", "itertools.zip_longest", "itertools.pairwise"].contains n = false) (hQ : Q () s) : wpAny M A (letOwnedTupleGo tg (.ref it) u) Q E s := by
  unfold letOwnedTupleGo
  cases tg <;> first
    | exact wpAny_pure hQ
    | (cases u <;> first
        | exact wpAny_pure hQ
        | (refine wpAny_bind (wpAny_load ho ?_)
           rw [hc, hd]
           show wpAny M A (if (["enumerate", "zip", "dict_itemiterator", "dict_reverseitemiterator", "odict_iterator", "itertools.zip_longest", "itertools.pairwise"].contains n && vs[0]? == some (rawInt _)) = true then _ else _) Q E s
           rw [if_neg (by intro h; rw [hn, Bool.false_and] at h; cases h)]
           exact wpAny_pure hQ))
def Itl (K : Frag) (a : Addr) : It :=
  ⟨fun i H => ∃ xs x, SqL K H a xs /\ xs[i]? = some x, fun i H x H' => H' = H /\ ∀ xs, SqL K H a xs -> xs[i]? = some x, fun i H => ∃ xs, SqL K H a xs /\ xs.length <= i⟩
def Itt (K : Frag) (a : Addr) : It :=
  ⟨fun i H => ∃ xs x, SqT K H a xs /\ xs[i]? = some x, fun i H x H' => H' = H /\ ∀ xs, SqT K H a xs -> xs[i]? = some x, fun i H => ∃ xs, SqT K H a xs /\ xs.length <= i⟩
def Itr (lo : Int) (n : Nat) : It := ⟨fun i _ => i < n, fun i H x H' => H' = H /\ x = .int (lo + i), fun i _ => n <= i⟩
theorem turn_list {P : Program} {w : World} {K : Frag} {tg : Expr} (a it : Addr) : Turn P w K tg (Itl K a) [it] it (fun i h => h.IsListIter it a i) where
  mem := by simp
  obj := fun i h st b hb => by
    have e : b = it := by simpa using hb
    subst e
    obtain ⟨o, e, c, d⟩ := st
    exact ⟨o, e, fun v z => by rw [d] at z; cases z⟩
  keep := fun i h h' st k => st.at fun o e => k it (by simp) o e
  item := by
    intro X hP hw hK hc i pins s σ H E I hf st hg
    subst hP hw hK
    obtain ⟨xs, x, hq, hx⟩ := hg
    obtain ⟨its, rv, p, hz⟩ := I.list hq
    obtain ⟨u, hu, ru⟩ := rv.get hx
    obtain ⟨f0, f1, f2, f3, f4, f5⟩ := hf it (by simp)
    refine wpAny_pyNext_list_item st p.isList (x := u) (by simpa using hu) fun h' st' sb => ?_
    have I1 : Inv X pins σ H { s with heap := h' } := I.turned (t' := s.toks) (fun b o hb e => (sb.2 b hb).trans e) f0 f1 f3 f4 f5
    obtain ⟨o, e, c, d⟩ := id st'
    exact ⟨u, rfl, go_of (s := { s with heap := h' }) e c d (by decide) ⟨x, H, I1, ru, ⟨rfl, fun ys hy => by rw [I.list_inj hy hq]; exact hx⟩, st', fun b hb => (hf b hb).1⟩⟩
  done := by
    intro X hP hw hK hc i pins s σ H E I hf st hg
    subst hP hw hK
    obtain ⟨xs, hq, hx⟩ := hg
    obtain ⟨its, rv, p, hz⟩ := I.list hq
    obtain ⟨f0, f1, f2, f3, f4, f5⟩ := hf it (by simp)
    have hl := rv.length
    exact wpAny_pyNext_list_end (I.ok.hd hc) st p.isList (by simp; omega) fun h' eb => ⟨rfl, I.turned (t' := s.toks) (fun b o hb e => eb b o hb e) f0 f1 f3 f4 f5⟩
  self := fun _ _ _ _ _ st h => wpAny_pyIter_listiter st h
theorem turn_tuple {P : Program} {w : World} {K : Frag} {tg : Expr} (a it : Addr) : Turn P w K tg (Itt K a) [it] it (fun i h => h.IsTupleIter it a i) where
  mem := by simp
  obj := fun i h st b hb => by
    have e : b = it := by simpa using hb
    subst e
    obtain ⟨o, e, c, d⟩ := st
    exact ⟨o, e, fun v z => by rw [d] at z; cases z⟩
  keep := fun i h h' st k => st.at fun o e => k it (by simp) o e
  item := by
    intro X hP hw hK hc i pins s σ H E I hf st hg
    subst hP hw hK
    obtain ⟨xs, x, hq, hx⟩ := hg
    obtain ⟨its, rv, p, hz⟩ := I.tuple hq
    obtain ⟨u, hu, ru⟩ := rv.get hx
    obtain ⟨f0, f1, f2, f3, f4, f5⟩ := hf it (by simp)
    refine wpAny_pyNext_tuple_item st (show s.heap.IsTuple a its.toArray from p) (x := u) (by simpa using hu) fun h' st' sb => ?_
    have I1 : Inv X pins σ H { s with heap := h' } := I.turned (t' := s.toks) (fun b o hb e => (sb.2 b hb).trans e) f0 f1 f3 f4 f5
    obtain ⟨o, e, c, d⟩ := id st'
    exact ⟨u, rfl, go_of (s := { s with heap := h' }) e c d (by decide) ⟨x, H, I1, ru, ⟨rfl, fun ys hy => by rw [I.tuple_inj hy hq]; exact hx⟩, st', fun b hb => (hf b hb).1⟩⟩
  done := by
    intro X hP hw hK hc i pins s σ H E I hf st hg
    subst hP hw hK
    obtain ⟨xs, hq, hx⟩ := hg
    obtain ⟨its, rv, p, hz⟩ := I.tuple hq
    obtain ⟨f0, f1, f2, f3, f4, f5⟩ := hf it (by simp)
    have hl := rv.length
    exact wpAny_pyNext_tuple_end (I.ok.hd hc) st (show s.heap.IsTuple a its.toArray from p) (by simp; omega) fun h' eb => ⟨rfl, I.turned (t' := s.toks) (fun b o hb e => eb b o hb e) f0 f1 f3 f4 f5⟩
  self := fun _ _ _ _ _ st h => wpAny_pyIter_tupleiter st h
theorem turn_range {P : Program} {w : World} {K : Frag} {tg : Expr} (it : Addr) (lo : Int) (n : Nat) : Turn P w K tg (Itr lo n) [it] it (fun i h => IsRangeIter h it (lo + (i : Nat) * 1) ((n : Int) - (i : Nat)) 1) where
  mem := by simp
  obj := fun i h st b hb => by
    have e : b = it := by simpa using hb
    subst e
    exact ⟨_, st, fun v z => by
      have z' : Data.fields _ = Data.cell v := z
      cases z'⟩
  keep := fun i h h' st k => k it (by simp) _ st
  item := by
    intro X hP hw hK hc i pins s σ H E I hf st hg
    subst hP hw hK
    obtain ⟨f0, f1, f2, f3, f4, f5⟩ := hf it (by simp)
    have W := Walks.range (prog := X.prog) (w := X.w) (I.ok.hd hc) it lo 1 n
    refine W.item i s _ _ hg st fun v h' tk hv st' kk => ?_
    obtain ⟨t, rfl⟩ := hv
    have I1 : Inv X pins σ H { s with heap := h', toks := tk } := I.turned (fun b o hb e => kk b o (by simpa using hb) e) f0 f1 f3 f4 f5
    refine ⟨_, rfl, go_of (s := { s with heap := h', toks := tk }) (n := "range_iterator") st' rfl rfl (by decide) ⟨.int (lo + i), H, I1, ⟨t, ?_⟩, ⟨rfl, rfl⟩, st', fun b hb => (hf b hb).1⟩⟩
    rw [Int.mul_one]
  done := by
    intro X hP hw hK hc i pins s σ H E I hf st hg
    subst hP hw hK
    obtain ⟨f0, f1, f2, f3, f4, f5⟩ := hf it (by simp)
    exact wpAny_pyNext_range_end (I.ok.hd hc) st (by have : n <= i := hg; omega) fun h' eb => ⟨rfl, I.turned (t' := s.toks) (fun b o hb e => eb b o hb e) f0 f1 f3 f4 f5⟩
  self := fun _ _ _ _ _ st h => wpAny_pyIter_rangeiter st h
section
variable {X : Cx} {tg : Expr}
def iList (K : Frag) (tl : TE) : TI := fun σ H R => tl σ H fun x H1 => ∃ a, x = .ref a /\ (∃ xs, SqL K H1 a xs) /\ R (Itl K a) H1
def iTup (K : Frag) (tl : TE) : TI := fun σ H R => tl σ H fun x H1 => ∃ a, x = .ref a /\ (∃ xs, SqT K H1 a xs) /\ R (Itt K a) H1
theorem pi_list {l : Expr} {tl : TE} (hl : PE X l tl) : PI X tg l (iList X.K tl) := by
  intro pins s σ H R I h
  refine thn (hl pins s σ H _ I h) fun v s1 ⟨x, H1, I1, r1, q1⟩ => ?_
  obtain ⟨a, e, ⟨xs, hq⟩, q⟩ := q1
  subst e
  cases r1
  obtain ⟨its, rv, p, hz⟩ := I1.list hq
  refine wpAny_pyIter_list p.isList ?_
  refine ⟨s1.heap.objs.size, [s1.heap.objs.size], _, _, H1, rfl, I1.kept (t' := s1.toks) fun b o e => Heap.get?_push_of_some _ e, turn_list a _, ⟨_, Heap.get?_push_size _ rfl, rfl, rfl⟩, fun b hb => ?_, q⟩
  have e : b = s1.heap.objs.size := by simpa using hb
  subst e
  exact I1.fpOk (Nat.le_refl _) (I1.hok.fresh (Nat.le_refl _))
theorem pi_tup {l : Expr} {tl : TE} (hl : PE X l tl) : PI X tg l (iTup X.K tl) := by
  intro pins s σ H R I h
  refine thn (hl pins s σ H _ I h) fun v s1 ⟨x, H1, I1, r1, q1⟩ => ?_
  obtain ⟨a, e, ⟨xs, hq⟩, q⟩ := q1
  subst e
  cases r1
  obtain ⟨its, rv, p, hz⟩ := I1.tuple hq
  refine wpAny_pyIter_tuple (show s1.heap.IsTuple a its.toArray from p) ?_
  refine ⟨s1.heap.objs.size, [s1.heap.objs.size], _, _, H1, rfl, I1.kept (t' := s1.toks) fun b o e => Heap.get?_push_of_some _ e, turn_tuple a _, ⟨_, Heap.get?_push_size _ rfl, rfl, rfl⟩, fun b hb => ?_, q⟩
  have e : b = s1.heap.objs.size := by simpa using hb
  subst e
  exact I1.fpOk (Nat.le_refl _) (I1.hok.fresh (Nat.le_refl _))
theorem range_it {pins : List (Addr × Obj)} {σ : St} {H : Hp} {s : Shared} {R : It -> Hp -> Prop} {E : Value -> Shared -> Prop} {lo hi : Int} {t u v : Tok} {tk : Nat} (I : Inv X pins σ H s) (h1 : -(2 ^ 62) <= lo) (h2 : lo < 2 ^ 62) (h3 : -(2 ^ 62) <= hi) (h4 : hi < 2 ^ 62)
    (q : R (Itr lo (hi - lo).toNat) H) : wpAny (model X.prog X.w) X.A (pyIter (.ref s.heap.objs.size)) (PIE X pins σ tg R) E { s with heap := s.heap.push { cls := .type "range", data := .fields #[.int lo t, .int hi u, .int 1 v] }, toks := tk } := by
  refine wpAny_pyIter_range (IsRange.new ..) (small_one h1 h2 h3 h4) ?_
  have I1 : Inv X pins σ H { s with heap := s.heap.push { cls := .type "range", data := .fields #[.int lo t, .int hi u, .int 1 v] }, toks := tk } := I.kept fun b o e => Heap.get?_push_of_some _ e
  refine ⟨(s.heap.push { cls := .type "range", data := .fields #[.int lo t, .int hi u, .int 1 v] }).objs.size, [(s.heap.push { cls := .type "range", data := .fields #[.int lo t, .int hi u, .int 1 v] }).objs.size], _, _, H, rfl,
    I1.kept (t' := tk) fun b o e => Heap.get?_push_of_some _ e, turn_range _ lo (hi - lo).toNat, ?_, fun b hb => ?_, q⟩
  · have e1 : lo + ((0 : Nat) : Int) * 1 = lo := by simp
    have e2 : (((hi - lo).toNat : Nat) : Int) - ((0 : Nat) : Int) = Builtin.Range.rangeSize lo hi 1 := by rw [rangeSize_one]; split <;> omega
    show IsRangeIter _ _ (lo + ((0 : Nat) : Int) * 1) ((((hi - lo).toNat : Nat) : Int) - ((0 : Nat) : Int)) 1
    rw [e1, e2]
    exact Heap.get?_push_size _ rfl
  · have e : b = (s.heap.push { cls := .type "range", data := .fields #[.int lo t, .int hi u, .int 1 v] }).objs.size := by simpa using hb
    subst e
    exact I1.fpOk (Nat.le_refl _) (I1.hok.fresh (Nat.le_refl _))
def iRng1 (ta : TA) : TI := fun σ H R => ta σ H fun vs H1 => ∃ j : Int, vs = [.int j] /\ -(2 ^ 62) <= j /\ j < 2 ^ 62 /\ R (Itr 0 j.toNat) H1
theorem pi_range1 {a : Expr} {ta : TA} {p pos : Pos} (hg : Gl X "range") (hm : X.mg "range" = none) (ha : PA X [a] ta) (hs : starEach [a] X.env = [(false, eval a X.env)] := by rfl) : PI X tg (.Call (.Name "range" p) [a] [] pos) (iRng1 ta) := by
  intro pins s σ H R I h
  refine Call_ (ld_blt I hg hm boot_range (PyProof.Rows.callWith_type1 (thn (ha pos pins s σ H _ I h) fun us s1 ⟨vs, H1, I1, r1, q1⟩ => ?_) hs rfl))
  obtain ⟨j, e, q1, q2, q⟩ := q1
  subst e
  cases r1 with
  | cons r rr =>
    cases rr
    obtain ⟨t, rfl⟩ := r
    exact call_range_1 (range_it I1 (by omega) (by omega) q1 q2 (by simpa using q))
def tFor (wi : TI) (g : TG) (tb : TS) : TS := fun D σ H => wi σ H fun J H1 => ∃ W : Nat -> Nat -> St -> Hp -> Prop, (∃ m, W 0 m σ H1) /\ ∀ i m σ H, W i m σ H ->
  (J.stop i H /\ D.nx σ H) ∨ (J.go i H /\ ∃ N : St -> Hp -> Prop, (∀ σ' H', N σ' H' -> ∃ m', m' < m /\ W (i + 1) m' σ' H') /\ ∀ x H', J.yld i H x H' -> g x σ H' fun σ2 H2 => tb { D with nx := N, ct := N, bk := D.nx } σ2 H2)
def pinsAt (fp : List Addr) (h : Heap) : List (Addr × Obj) := fp.filterMap fun b => (h.get? b).map fun o => (b, o)
theorem mem_pinsAt {fp : List Addr} {h : Heap} {b : Addr} {o : Obj} (hb : b ∈ fp) (e : h.get? b = some o) : (b, o) ∈ pinsAt fp h := List.mem_filterMap.mpr ⟨b, hb, by rw [e]; rfl⟩
theorem of_pinsAt {fp : List Addr} {h : Heap} {p : Addr × Obj} (hp : p ∈ pinsAt fp h) : p.1 ∈ fp /\ h.get? p.1 = some p.2 := by
  obtain ⟨b, hb, e⟩ := List.mem_filterMap.mp hp
  cases q : h.get? b with
  | none => rw [q] at e; cases e
  | some o =>
    rw [q] at e
    have e' : (b, o) = p := Option.some.inj e
    subst e'
    exact ⟨hb, q⟩
theorem Inv.pinned {pins : List (Addr × Obj)} {σ : St} {H : Hp} {s : Shared} {fp : List Addr} (I : Inv X pins σ H s) (hf : ∀ b ∈ fp, FpOk X pins H b) (ho : ∀ b ∈ fp, ∃ o, s.heap.get? b = some o /\ ∀ v, o.data ≠ .cell v) : Inv X (pins ++ pinsAt fp s.heap) σ H s :=
  I.pins_of fun p hp => (List.mem_append.mp hp).elim (fun z => I.pin p (List.mem_append_right _ z)) fun z => by
    obtain ⟨hb, e⟩ := of_pinsAt z
    obtain ⟨f0, f1, f2, _⟩ := hf p.1 hb
    obtain ⟨o, e', d⟩ := ho p.1 hb
    rw [e] at e'; cases e'
    exact ⟨e, f0, f1, f2, d⟩
theorem Inv.unpinned {pins pl : List (Addr × Obj)} {σ : St} {H : Hp} {s : Shared} (I : Inv X (pins ++ pl) σ H s) : Inv X pins σ H s := I.pins_of fun p hp => I.pin p (List.mem_append_right _ (List.mem_append_left _ hp))
theorem ps_for {iter : Expr} {body : List Stmt} {wi : TI} {g : TG} {tb : TS} {pos : Pos} (hp : PassesOwn (model X.prog X.w) X.A X.env X.xe) (hc : X.calm = true) (hi : PI X tg iter wi) (hg : PG X tg g) (hb : PSs X body tb)
    (hs : ∀ x, foldedSetIterable iter X.env x = pure x := by intro _; rfl) : PS X (.For tg iter body [] pos) (tFor wi g tb) := by
  intro pins s σ H D I h
  refine wpAny_For (thn (hi pins s σ H _ I h) fun v s1 h1 => thn h1 fun itv s2 h2 => ?_) hs
  obtain ⟨it, fp, tn, J, H2, e, I2, T, st2, f2, W, ⟨m0, w0⟩, turn⟩ := h2
  subst e
  have stat : ∀ {H' : Hp}, (∀ b ∈ fp, H' b = none) -> ∀ b ∈ fp, FpOk X pins H' b := fun hn b hb => ⟨hn b hb, (f2 b hb).2⟩
  refine codeAny_forLoop_any (fun n s' => ∃ i σ' H', Inv X pins σ' H' s' /\ tn i s'.heap /\ (∀ b ∈ fp, H' b = none) /\ W i n σ' H') ?_ m0 ⟨0, σ, H2, I2, st2, fun b hb => (f2 b hb).1, w0⟩
  rintro n s3 ⟨i, σ3, H3, I3, st3, fr3, w3⟩
  rcases turn i n σ3 H3 w3 with ⟨stop, qn⟩ | ⟨go, N, hN, step⟩
  · refine wpAny_passesOwn hp (thn (T.done X rfl rfl rfl hc i pins s3 σ3 H3 X.xe I3 (stat fr3) st3 stop) fun r s4 ⟨hr, I4⟩ => ?_)
    subst hr
    exact wpAny_execs_nil ⟨σ3, H3, I4, qn⟩
  · refine wpAny_passesOwn hp (thn (T.item X rfl rfl rfl hc i pins s3 σ3 H3 X.xe I3 (stat fr3) st3 go) fun r s4 ⟨u, hr, h4⟩ => ?_)
    subst hr
    refine wpAny_passesOwn hp (thn h4 fun _ s5 ⟨x, H5, I5, r5, y5, st5, fr5⟩ => ?_)
    have I5' := I5.pinned (stat fr5) (T.obj _ _ st5)
    refine wpAny_passesOwn hp (thn (hg _ s5 σ3 H5 x u _ I5' r5 (step x H5 y5)) fun _ s6 ⟨σ6, H6, I6, q6⟩ => ?_)
    refine wpAny_passesOwn hp (thn (hb _ s6 σ6 H6 _ I6 q6) fun f s7 q7 => ?_)
    have again : ∀ {σ7 : St} {H7 : Hp}, Inv X (pins ++ pinsAt fp s5.heap) σ7 H7 s7 -> N σ7 H7 -> ∃ m, m < n /\ ∃ i σ' H', Inv X pins σ' H' s7 /\ tn i s7.heap /\ (∀ b ∈ fp, H' b = none) /\ W i m σ' H' := fun {σ7 H7} I7 n7 => by
      obtain ⟨m', hm, w7⟩ := hN σ7 H7 n7
      refine ⟨m', hm, i + 1, σ7, H7, I7.unpinned, T.keep _ _ _ st5 fun b hb o e => (I7.pin (b, o) (List.mem_append_right _ (List.mem_append_right _ (mem_pinsAt hb e)))).1, fun b hb => ?_, w7⟩
      obtain ⟨o, e, d⟩ := T.obj _ _ st5 b hb
      exact (I7.pin (b, o) (List.mem_append_right _ (List.mem_append_right _ (mem_pinsAt hb e)))).2.1
    cases f with
    | next => obtain ⟨σ7, H7, I7, n7⟩ := q7; exact again I7 n7
    | cont => obtain ⟨σ7, H7, I7, n7⟩ := q7; exact again I7 n7
    | brk => obtain ⟨σ7, H7, I7, q7⟩ := q7; exact ⟨σ7, H7, I7.unpinned, q7⟩
    | ret v => obtain ⟨x7, σ7, H7, I7, r7, q7⟩ := q7; exact ⟨x7, σ7, H7, I7.unpinned, r7, q7⟩
end
theorem for_list {K : Frag} {a : Addr} {xs : List V} {g : TG} {tb : TS} {D : Ends} {σ : St} {H : Hp} (Pv : Nat -> St -> Hp -> Prop) (h0 : Pv 0 σ H) (hl : ∀ i σ H, i <= xs.length -> Pv i σ H -> SqL K H a xs)
    (hs : ∀ i x σ H, xs[i]? = some x -> Pv i σ H -> g x σ H fun σ2 H2 => tb { D with nx := Pv (i + 1), ct := Pv (i + 1), bk := D.nx } σ2 H2) (hd : ∀ σ H, Pv xs.length σ H -> D.nx σ H) :
    ∃ W : Nat -> Nat -> St -> Hp -> Prop, (∃ m, W 0 m σ H) /\ ∀ i m σ H, W i m σ H ->
      ((Itl K a).stop i H /\ D.nx σ H) ∨ ((Itl K a).go i H /\ ∃ N : St -> Hp -> Prop, (∀ σ' H', N σ' H' -> ∃ m', m' < m /\ W (i + 1) m' σ' H') /\ ∀ x H', (Itl K a).yld i H x H' -> g x σ H' fun σ2 H2 => tb { D with nx := N, ct := N, bk := D.nx } σ2 H2) := by
  refine ⟨fun i m σ H => m = xs.length - i /\ i <= xs.length /\ Pv i σ H, ⟨xs.length, by simp, Nat.zero_le _, h0⟩, ?_⟩
  rintro i m σ H ⟨rfl, hi, p⟩
  have q := hl i σ H hi p
  by_cases hlt : i < xs.length
  · refine .inr ⟨⟨xs, xs[i], q, by simp [hlt]⟩, Pv (i + 1), fun σ' H' p' => ⟨xs.length - (i + 1), by omega, rfl, hlt, p'⟩, fun x H' y => ?_⟩
    obtain ⟨e, y⟩ := y
    subst e
    exact hs i x σ _ (y xs q) p
  · have e : i = xs.length := by omega
    subst e
    exact .inl ⟨⟨xs, q, Nat.le_refl _⟩, hd σ H p⟩
theorem for_tup {K : Frag} {a : Addr} {xs : List V} {g : TG} {tb : TS} {D : Ends} {σ : St} {H : Hp} (Pv : Nat -> St -> Hp -> Prop) (h0 : Pv 0 σ H) (hl : ∀ i σ H, i <= xs.length -> Pv i σ H -> SqT K H a xs)
    (hs : ∀ i x σ H, xs[i]? = some x -> Pv i σ H -> g x σ H fun σ2 H2 => tb { D with nx := Pv (i + 1), ct := Pv (i + 1), bk := D.nx } σ2 H2) (hd : ∀ σ H, Pv xs.length σ H -> D.nx σ H) :
    ∃ W : Nat -> Nat -> St -> Hp -> Prop, (∃ m, W 0 m σ H) /\ ∀ i m σ H, W i m σ H ->
      ((Itt K a).stop i H /\ D.nx σ H) ∨ ((Itt K a).go i H /\ ∃ N : St -> Hp -> Prop, (∀ σ' H', N σ' H' -> ∃ m', m' < m /\ W (i + 1) m' σ' H') /\ ∀ x H', (Itt K a).yld i H x H' -> g x σ H' fun σ2 H2 => tb { D with nx := N, ct := N, bk := D.nx } σ2 H2) := by
  refine ⟨fun i m σ H => m = xs.length - i /\ i <= xs.length /\ Pv i σ H, ⟨xs.length, by simp, Nat.zero_le _, h0⟩, ?_⟩
  rintro i m σ H ⟨rfl, hi, p⟩
  have q := hl i σ H hi p
  by_cases hlt : i < xs.length
  · refine .inr ⟨⟨xs, xs[i], q, by simp [hlt]⟩, Pv (i + 1), fun σ' H' p' => ⟨xs.length - (i + 1), by omega, rfl, hlt, p'⟩, fun x H' y => ?_⟩
    obtain ⟨e, y⟩ := y
    subst e
    exact hs i x σ _ (y xs q) p
  · have e : i = xs.length := by omega
    subst e
    exact .inl ⟨⟨xs, q, Nat.le_refl _⟩, hd σ H p⟩
theorem for_range {lo : Int} {n : Nat} {g : TG} {tb : TS} {D : Ends} {σ : St} {H : Hp} (Pv : Nat -> St -> Hp -> Prop) (h0 : Pv 0 σ H)
    (hs : ∀ i σ H, i < n -> Pv i σ H -> g (.int (lo + i)) σ H fun σ2 H2 => tb { D with nx := Pv (i + 1), ct := Pv (i + 1), bk := D.nx } σ2 H2) (hd : ∀ σ H, Pv n σ H -> D.nx σ H) :
    ∃ W : Nat -> Nat -> St -> Hp -> Prop, (∃ m, W 0 m σ H) /\ ∀ i m σ H, W i m σ H ->
      ((Itr lo n).stop i H /\ D.nx σ H) ∨ ((Itr lo n).go i H /\ ∃ N : St -> Hp -> Prop, (∀ σ' H', N σ' H' -> ∃ m', m' < m /\ W (i + 1) m' σ' H') /\ ∀ x H', (Itr lo n).yld i H x H' -> g x σ H' fun σ2 H2 => tb { D with nx := N, ct := N, bk := D.nx } σ2 H2) := by
  refine ⟨fun i m σ H => m = n - i /\ i <= n /\ Pv i σ H, ⟨n, by simp, Nat.zero_le _, h0⟩, ?_⟩
  rintro i m σ H ⟨rfl, hi, p⟩
  by_cases hlt : i < n
  · refine .inr ⟨hlt, Pv (i + 1), fun σ' H' p' => ⟨n - (i + 1), by omega, rfl, hlt, p'⟩, fun x H' y => ?_⟩
    obtain ⟨e, y⟩ := y
    subst e y
    exact hs i σ _ hlt p
  · have e : i = n := by omega
    subst e
    exact .inl ⟨Nat.le_refl _, hd σ H p⟩
abbrev R2 := V -> V -> Hp -> VK -> Prop
def OpR (X : Cx) (f : Value -> Value -> Sem Value) (r : R2) : Prop :=
  ∀ (pins : List (Addr × Obj)) (s : Shared) (σ : St) (H : Hp) (x y : V) (v u : Value) (Q : VK), Inv X pins σ H s -> RelV x v -> RelV y u -> r x y H Q ->
    wpAny (model X.prog X.w) X.A (f v u) (EP X pins σ Q) X.xe s
def UnR (X : Cx) (f : Value -> Sem Value) (r : V -> Hp -> VK -> Prop) : Prop :=
  ∀ (pins : List (Addr × Obj)) (s : Shared) (σ : St) (H : Hp) (x : V) (v : Value) (Q : VK), Inv X pins σ H s -> RelV x v -> r x H Q ->
    wpAny (model X.prog X.w) X.A (f v) (EP X pins σ Q) X.xe s
def CallR (X : Cx) (f : Value) (r : List V -> Hp -> VK -> Prop) : Prop :=
  ∀ (pins : List (Addr × Obj)) (s : Shared) (σ : St) (H : Hp) (xs : List V) (us : List Value) (Q : VK), Inv X pins σ H s -> Vals xs us -> r xs H Q ->
    wpAny (model X.prog X.w) X.A (call f us) (EP X pins σ Q) X.xe s
def tOp (r : R2) (ta tb : TE) : TE := fun σ H Q => ta σ H fun x H1 => tb σ H1 fun y H2 => r x y H2 Q
def tUn (r : V -> Hp -> VK -> Prop) (ta : TE) : TE := fun σ H Q => ta σ H fun x H1 => r x H1 Q
def rI (C : Int -> Int -> Prop) (g : Int -> Int -> V) : R2 := fun x y H Q => ∃ i j, x = .int i /\ y = .int j /\ C i j /\ Q (g i j) H
def rI0 (g : Int -> Int -> V) : R2 := fun x y H Q => ∃ i j, x = .int i /\ y = .int j /\ Q (g i j) H
def rU (g : Int -> V) : V -> Hp -> VK -> Prop := fun x H Q => ∃ i, x = .int i /\ Q (g i) H
section
variable {X : Cx} {a b c : Expr} {ta tb tc : TE} {pos : Pos}
theorem binT (ha : PE X a ta) (hb : PE X b tb) {pins : List (Addr × Obj)} {s : Shared} {σ : St} {H : Hp} {R : V -> V -> Hp -> Prop} (I : Inv X pins σ H s)
    (h : ta σ H fun x H1 => tb σ H1 fun y H2 => R x y H2) {Q : Value -> Shared -> Prop} {f : Value -> Value -> Sem Value}
    (hf : ∀ v u s2 x y H2, Inv X pins σ H2 s2 -> RelV x v -> RelV y u -> R x y H2 -> wpAny (model X.prog X.w) X.A (f v u) Q X.xe s2) :
    wpAny (model X.prog X.w) X.A (eval a X.env) (fun v s₁ => wpAny (model X.prog X.w) X.A (eval b X.env) (fun u s₂ => wpAny (model X.prog X.w) X.A (f v u) Q X.xe s₂) X.xe s₁) X.xe s := by
  refine thn (ha pins s σ H _ I h) fun v s1 ⟨x, H1, I1, r1, q1⟩ => ?_
  refine thn (hb pins s1 σ H1 _ I1 q1) fun u s2 ⟨y, H2, I2, r2, q2⟩ => ?_
  exact hf v u s2 x y H2 I2 r1 r2 q2
theorem pe_op {op : Operator} {r : R2} (ho : OpR X (binaryOp op) r) (ha : PE X a ta) (hb : PE X b tb) : PE X (.BinOp a op b pos) (tOp r ta tb) := by
  intro pins s σ H Q I h
  exact wpAny_BinOp (binT ha hb I h fun v u s2 x y H2 I2 rx ry q => ho pins s2 σ H2 x y v u Q I2 rx ry q)
theorem pe_un {op : UnaryOp} {r : V -> Hp -> VK -> Prop} (ho : UnR X (unaryOp op) r) (ha : PE X a ta) : PE X (.UnaryOp op a pos) (tUn r ta) := by
  intro pins s σ H Q I h
  exact UnaryOp_ (thn (ha pins s σ H _ I h) fun v s1 ⟨x, H1, I1, r1, q1⟩ => ho pins s1 σ H1 x v Q I1 r1 q1)
theorem opI {f : Value -> Value -> Sem Value} {C : Int -> Int -> Prop} {g : Int -> Int -> Int}
    (rule : ∀ (i j : Int) (t u : Tok) (s : Shared) (Q : Value -> Shared -> Prop) (E : Value -> Shared -> Prop), C i j -> Q (.int (g i j) s.toks) { s with toks := s.toks + 1 } -> wpAny (model X.prog X.w) X.A (f (.int i t) (.int j u)) Q E s) :
    OpR X f (rI C fun i j => .int (g i j)) := by
  intro pins s σ H x y v u Q I rx ry h
  obtain ⟨i, j, rfl, rfl, hc, q⟩ := h
  obtain ⟨t, rfl⟩ := rx
  obtain ⟨t', rfl⟩ := ry
  exact rule i j t t' s _ _ hc ⟨.int (g i j), H, I.tok _, ⟨_, rfl⟩, q⟩
theorem opI0 {f : Value -> Value -> Sem Value} {g : Int -> Int -> Int}
    (rule : ∀ (i j : Int) (t u : Tok) (s : Shared) (Q : Value -> Shared -> Prop) (E : Value -> Shared -> Prop), Q (.int (g i j) s.toks) { s with toks := s.toks + 1 } -> wpAny (model X.prog X.w) X.A (f (.int i t) (.int j u)) Q E s) :
    OpR X f (rI0 fun i j => .int (g i j)) := by
  intro pins s σ H x y v u Q I rx ry h
  obtain ⟨i, j, rfl, rfl, q⟩ := h
  obtain ⟨t, rfl⟩ := rx
  obtain ⟨t', rfl⟩ := ry
  exact rule i j t t' s _ _ ⟨.int (g i j), H, I.tok _, ⟨_, rfl⟩, q⟩
theorem opB0 {f : Value -> Value -> Sem Value} {g : Int -> Int -> Bool}
    (rule : ∀ (i j : Int) (t u : Tok) (s : Shared) (Q : Value -> Shared -> Prop) (E : Value -> Shared -> Prop), Q (.bool (g i j)) s -> wpAny (model X.prog X.w) X.A (f (.int i t) (.int j u)) Q E s) :
    OpR X f (rI0 fun i j => .bl (g i j)) := by
  intro pins s σ H x y v u Q I rx ry h
  obtain ⟨i, j, rfl, rfl, q⟩ := h
  obtain ⟨t, rfl⟩ := rx
  obtain ⟨t', rfl⟩ := ry
  exact rule i j t t' s _ _ ⟨.bl (g i j), H, I, rfl, q⟩
def CDiv (i j : Int) : Prop := 0 < j /\ j < 1073741824
def CPow (i j : Int) : Prop := 0 <= j /\ j <= 1000000 /\ i.natAbs < 2 ^ 64
theorem two_pow_nn (k : Nat) : (0 : Int) <= 2 ^ k := by
  rw [two_pow_cast]
  exact Int.natCast_nonneg _
theorem op_add : OpR X (binaryOp .Add) (rI0 fun i j => .int (i + j)) := opI0 fun _ _ _ _ _ _ _ q => add_int q
theorem op_sub : OpR X (binaryOp .Sub) (rI0 fun i j => .int (i - j)) := opI0 fun _ _ _ _ _ _ _ q => sub_int q
theorem op_fdiv : OpR X (binaryOp .FloorDiv) (rI CDiv fun i j => .int (i / j)) := opI fun i j _ _ _ _ _ hc q => by
  have h1 : (0 : Int) < j := hc.1
  have h2 : j < 1073741824 := hc.2
  exact floordiv_int (by omega) (by rw [Int.fdiv_eq_ediv_of_nonneg i (by omega)]; exact q) (.inl (PyProof.noPylong_small (by omega)))
theorem op_mod : OpR X (binaryOp .Mod) (rI (fun _ j => 0 < j) fun i j => .int (i % j)) := opI fun i j _ _ _ _ _ hc q => by
  have h1 : (0 : Int) < j := hc
  exact mod_int' (by omega) (by rw [Int.fmod_eq_emod_of_nonneg i (by omega)]; exact q)
theorem op_pow : OpR X (binaryOp .Pow) (rI CPow fun i j => .int (i ^ j.toNat)) := opI fun _ _ _ _ _ _ _ hc q => pow_int_small hc.1 hc.2.1 hc.2.2 q
theorem op_shl : OpR X (binaryOp .LShift) (rI CPow fun i j => .int (i * 2 ^ j.toNat)) := opI fun _ _ _ _ _ _ _ hc q => lshift_int_small hc.1 hc.2.1 hc.2.2 q
theorem op_shr : OpR X (binaryOp .RShift) (rI (fun _ j => 0 <= j) fun i j => .int (i / 2 ^ j.toNat)) := opI fun i j _ _ _ _ _ hc q =>
  rshift_int hc (by rw [Int.fdiv_eq_ediv_of_nonneg i (two_pow_nn _)]; exact q)
theorem op_and : OpR X (binaryOp .BitAnd) (rI0 fun i j => .int (Builtin.bitAnd i j)) := opI0 fun _ _ _ _ _ _ _ q => and_int q
theorem op_or : OpR X (binaryOp .BitOr) (rI0 fun i j => .int (Builtin.bitOr i j)) := opI0 fun _ _ _ _ _ _ _ q => or_int q
theorem op_xor : OpR X (binaryOp .BitXor) (rI0 fun i j => .int (Builtin.bitXor i j)) := opI0 fun _ _ _ _ _ _ _ q => xor_int q
theorem unI {f : Value -> Sem Value} {g : Int -> Int}
    (rule : ∀ (i : Int) (t : Tok) (s : Shared) (Q : Value -> Shared -> Prop) (E : Value -> Shared -> Prop), Q (.int (g i) s.toks) { s with toks := s.toks + 1 } -> wpAny (model X.prog X.w) X.A (f (.int i t)) Q E s) :
    UnR X f (rU fun i => .int (g i)) := by
  intro pins s σ H x v Q I rx h
  obtain ⟨i, rfl, q⟩ := h
  obtain ⟨t, rfl⟩ := rx
  exact rule i t s _ _ ⟨.int (g i), H, I.tok _, ⟨_, rfl⟩, q⟩
theorem un_neg : UnR X (unaryOp .USub) (rU fun i => .int (-i)) := unI fun _ _ _ _ _ q => neg_int q
end
def scal : V -> V -> Bool
  | .non, .non => true | .non, .int _ => true | .int _, .non => true | .non, .bl _ => true | .bl _, .non => true | .non, .str _ => true | .str _, .non => true
  | .int _, .int _ => true | .bl _, .bl _ => true | .str _, .str _ => true | .byt _, .byt _ => true
  | .int _, .str _ => true | .str _, .int _ => true | .bl _, .str _ => true | .str _, .bl _ => true
  | _, _ => false
def rEq : R2 := fun x y H Q => scal x y = true /\ Q (.bl (decide (x = y))) H
def rNe : R2 := fun x y H Q => scal x y = true /\ Q (.bl (!decide (x = y))) H
theorem dec_int {i j : Int} : decide (V.int i = V.int j) = (i == j) := by
  rw [Bool.eq_iff_iff]
  simp
theorem dec_bl {i j : Bool} : decide (V.bl i = V.bl j) = (i == j) := by
  rw [Bool.eq_iff_iff]
  simp
theorem dec_str {i j : Str} : decide (V.str i = V.str j) = (i == j) := by
  rw [Bool.eq_iff_iff]
  simp
theorem dec_byt {i j : Array UInt8} : decide (V.byt i = V.byt j) = (i.toList == j.toList) := by
  rw [Bool.eq_iff_iff]
  cases i
  cases j
  simp
section
variable {X : Cx} {a b c : Expr} {ta tb tc : TE} {pos : Pos}
theorem zz4 {pins : List (Addr × Obj)} {σ : St} {H : Hp} {s : Shared} {Q : VK} {k k' : Bool} (I : Inv X pins σ H s) (q : Q (.bl k) H) (e : k = k') : EP X pins σ Q (.bool k') s := by
  subst e
  exact ⟨.bl k, H, I, rfl, q⟩
theorem op_eq : OpR X (compareOp .Eq) rEq := by
  intro pins s σ H x y v u Q I rx ry h
  obtain ⟨hs, q⟩ := h
  cases x with
  | non =>
    cases rx
    cases y with
    | non => cases ry; exact PySem.EqNone.eq_none_none (zz4 I q (by simp))
    | bl j => cases ry; exact PySem.EqNone.eq_none_bool (zz4 I q (by simp))
    | int j => obtain ⟨t', rfl⟩ := ry; exact PySem.EqNone.eq_none_int (zz4 I q (by simp))
    | str j => obtain ⟨t', rfl⟩ := ry; exact PySem.EqNone.eq_none_str (zz4 I q (by simp))
    | _ => exact absurd (show false = true from hs) Bool.false_ne_true
  | bl i =>
    cases rx
    cases y with
    | non => cases ry; exact PySem.EqNone.eq_bool_none (zz4 I q (by simp))
    | bl j => cases ry; exact eq_bool (zz4 I q dec_bl)
    | str j => obtain ⟨t', rfl⟩ := ry; exact PySem.EqMixed.eq_bool_str (zz4 I q (by simp))
    | _ => exact absurd (show false = true from hs) Bool.false_ne_true
  | int i =>
    obtain ⟨t, rfl⟩ := rx
    cases y with
    | non => cases ry; exact PySem.EqNone.eq_int_none (zz4 I q (by simp))
    | int j => obtain ⟨t', rfl⟩ := ry; exact eq_int (zz4 I q dec_int)
    | str j => obtain ⟨t', rfl⟩ := ry; exact PySem.EqMixed.eq_int_str (zz4 I q (by simp))
    | _ => exact absurd (show false = true from hs) Bool.false_ne_true
  | str i =>
    obtain ⟨t, rfl⟩ := rx
    cases y with
    | non => cases ry; exact PySem.EqNone.eq_str_none (zz4 I q (by simp))
    | bl j => cases ry; exact PySem.EqMixed.eq_str_bool (zz4 I q (by simp))
    | int j => obtain ⟨t', rfl⟩ := ry; exact PySem.EqMixed.eq_str_int (zz4 I q (by simp))
    | str j => obtain ⟨t', rfl⟩ := ry; exact eq_str (zz4 I q dec_str)
    | _ => exact absurd (show false = true from hs) Bool.false_ne_true
  | byt i =>
    obtain ⟨t, rfl⟩ := rx
    cases y with
    | byt j => obtain ⟨t', rfl⟩ := ry; exact PySem.W.eq_bytes (zz4 I q dec_byt)
    | _ => exact absurd (show false = true from hs) Bool.false_ne_true
  | _ => cases y <;> exact absurd (show false = true from hs) Bool.false_ne_true
theorem op_ne : OpR X (compareOp .NotEq) rNe := by
  intro pins s σ H x y v u Q I rx ry h
  obtain ⟨hs, q⟩ := h
  cases x with
  | non =>
    cases rx
    cases y with
    | non => cases ry; exact PySem.EqNone.ne_none_none (zz4 I q (by simp))
    | bl j => cases ry; exact PySem.EqNone.ne_none_bool (zz4 I q (by simp))
    | int j => obtain ⟨t', rfl⟩ := ry; exact PySem.EqNone.ne_none_int (zz4 I q (by simp))
    | str j => obtain ⟨t', rfl⟩ := ry; exact PySem.EqNone.ne_none_str (zz4 I q (by simp))
    | _ => exact absurd (show false = true from hs) Bool.false_ne_true
  | bl i =>
    cases rx
    cases y with
    | non => cases ry; exact PySem.EqNone.ne_bool_none (zz4 I q (by simp))
    | bl j => cases ry; exact ne_bool (zz4 I q (congrArg not dec_bl))
    | str j => obtain ⟨t', rfl⟩ := ry; exact PySem.EqMixed.ne_bool_str (zz4 I q (by simp))
    | _ => exact absurd (show false = true from hs) Bool.false_ne_true
  | int i =>
    obtain ⟨t, rfl⟩ := rx
    cases y with
    | non => cases ry; exact PySem.EqNone.ne_int_none (zz4 I q (by simp))
    | int j => obtain ⟨t', rfl⟩ := ry; exact ne_int (zz4 I q (congrArg not dec_int))
    | str j => obtain ⟨t', rfl⟩ := ry; exact PySem.EqMixed.ne_int_str (zz4 I q (by simp))
    | _ => exact absurd (show false = true from hs) Bool.false_ne_true
  | str i =>
    obtain ⟨t, rfl⟩ := rx
    cases y with
    | non => cases ry; exact PySem.EqNone.ne_str_none (zz4 I q (by simp))
    | bl j => cases ry; exact PySem.EqMixed.ne_str_bool (zz4 I q (by simp))
    | int j => obtain ⟨t', rfl⟩ := ry; exact PySem.EqMixed.ne_str_int (zz4 I q (by simp))
    | str j => obtain ⟨t', rfl⟩ := ry; exact ne_str (zz4 I q (congrArg not dec_str))
    | _ => exact absurd (show false = true from hs) Bool.false_ne_true
  | byt i =>
    obtain ⟨t, rfl⟩ := rx
    cases y with
    | byt j => obtain ⟨t', rfl⟩ := ry; exact PySem.W.ne_bytes (zz4 I q (congrArg not dec_byt))
    | _ => exact absurd (show false = true from hs) Bool.false_ne_true
  | _ => cases y <;> exact absurd (show false = true from hs) Bool.false_ne_true
theorem op_lt : OpR X (compareOp .Lt) (rI0 fun i j => .bl (decide (i < j))) := opB0 fun _ _ _ _ _ _ _ q => lt_int q
theorem op_le : OpR X (compareOp .LtE) (rI0 fun i j => .bl (decide (i <= j))) := opB0 fun _ _ _ _ _ _ _ q => le_int q
theorem op_gt : OpR X (compareOp .Gt) (rI0 fun i j => .bl (decide (j < i))) := opB0 fun _ _ _ _ _ _ _ q => gt_int q
theorem op_isN : OpR X (compareOp .Is) (fun x y H Q => y = .non /\ Q (.bl (decide (x = .non))) H) := by
  intro pins s σ H x y v u Q I rx ry h
  obtain ⟨rfl, q⟩ := h
  cases ry
  refine is_none_gen (zz4 I q ?_)
  cases x <;> first
    | (cases rx; rfl)
    | (obtain ⟨t, rfl⟩ := rx; rfl)
theorem op_notN : OpR X (compareOp .IsNot) (fun x y H Q => y = .non /\ Q (.bl (!decide (x = .non))) H) := by
  intro pins s σ H x y v u Q I rx ry h
  obtain ⟨rfl, q⟩ := h
  cases ry
  refine isnot_none_gen (zz4 I q ?_)
  cases x <;> first
    | (cases rx; rfl)
    | (obtain ⟨t, rfl⟩ := rx; rfl)
theorem zq9 (b : Expr) {op : CmpOp} (h : op ≠ .In := by decide) (h2 : op ≠ .NotIn := by decide) : behindInMarks op b = false := by
  have e1 : (op == CmpOp.In) = false := by cases op <;> first | rfl | exact absurd rfl h
  have e2 : (op == CmpOp.NotIn) = false := by cases op <;> first | rfl | exact absurd rfl h2
  cases b <;> simp [behindInMarks, e1, e2]
theorem pe_cmpR {op : CmpOp} {r : R2} (ho : OpR X (compareOp op) r) (ha : PE X a ta) (hb : PE X b tb) (hm : behindInMarks op b = false) : PE X (.Compare a [op] [b] pos) (tOp r ta tb) := by
  intro pins s σ H Q I h
  exact wpAny_Compare1 (binT ha hb I h fun v u s2 x y H2 I2 rx ry q => ho pins s2 σ H2 x y v u Q I2 rx ry q) hm
def tTest (t : TE) : TT := fun σ H Q => t σ H fun x H' => ∃ k, x = .bl k /\ Q k H'
theorem pt_cmpR {op : CmpOp} {r : R2} (ho : OpR X (compareOp op) r) (ha : PE X a ta) (hb : PE X b tb) (hm : behindInMarks op b = false) : PT X (.Compare a [op] [b] pos) (tTest (tOp r ta tb)) := by
  intro pins s σ H Q I h
  refine wpAny_isTrue_Compare1 (thn (ha pins s σ H _ I h) fun v s1 ⟨x, H1, I1, r1, q1⟩ => thn (hb pins s1 σ H1 _ I1 q1) fun u s2 ⟨y, H2, I2, r2, q2⟩ =>
    thn (ho pins s2 σ H2 x y v u _ I2 r1 r2 q2) fun c s3 ⟨z, H3, I3, r3, k, e, q3⟩ => ?_) hm
  subst e
  cases r3
  exact wpAny_truthy_bool ⟨H3, I3, q3⟩
def tChain (r r' : R2) (ta tb tc : TE) : TE := fun σ H Q => ta σ H fun x H1 => tb σ H1 fun y H2 => r x y H2 fun z H3 => ∃ k, z = .bl k /\
  (if k = true then tc σ H3 fun w' H4 => r' y w' H4 Q else Q (.bl false) H3)
theorem pe_chain {op op' : CmpOp} {r r' : R2} (ho : OpR X (compareOp op) r) (ho' : OpR X (compareOp op') r') (ha : PE X a ta) (hb : PE X b tb) (hc : PE X c tc)
    (hm : lastMarks [op, op'] [b, c] = false := by with_unfolding_all rfl) : PE X (.Compare a [op, op'] [b, c] pos) (tChain r r' ta tb tc) := by
  intro pins s σ H Q I h
  refine Compare_chain (thn (ha pins s σ H _ I h) fun v s1 ⟨x, H1, I1, r1, q1⟩ => chain_link (thn (hb pins s1 σ H1 _ I1 q1) fun u s2 ⟨y, H2, I2, r2, q2⟩ =>
    thn (ho pins s2 σ H2 x y v u _ I2 r1 r2 q2) fun d s3 ⟨z, H3, I3, r3, k, e, q3⟩ => ?_)) hm
  subst e
  cases r3
  refine wpAny_truthy_bool ?_
  cases k with
  | false => exact ite_ff ⟨.bl false, H3, I3, rfl, q3⟩
  | true => exact ite_tt (chain_last (thn (hc pins s3 σ H3 _ I3 q3) fun w' s4 ⟨z', H4, I4, r4, q4⟩ => ho' pins s4 σ H4 y z' u w' Q I4 r2 r4 q4))
theorem pt_chain {op op' : CmpOp} {r r' : R2} (ho : OpR X (compareOp op) r) (ho' : OpR X (compareOp op') r') (ha : PE X a ta) (hb : PE X b tb) (hc : PE X c tc)
    (hm : lastMarks [op, op'] [b, c] = false := by with_unfolding_all rfl) : PT X (.Compare a [op, op'] [b, c] pos) (tTest (tChain r r' ta tb tc)) := by
  intro pins s σ H Q I h
  refine isTrue_chain (thn (ha pins s σ H _ I h) fun v s1 ⟨x, H1, I1, r1, q1⟩ => test_link (thn (hb pins s1 σ H1 _ I1 q1) fun u s2 ⟨y, H2, I2, r2, q2⟩ =>
    thn (ho pins s2 σ H2 x y v u _ I2 r1 r2 q2) fun d s3 ⟨z, H3, I3, r3, k, e, q3⟩ => ?_)) hm
  subst e
  cases r3
  refine wpAny_truthy_bool ?_
  cases k with
  | false =>
    obtain ⟨k', e', q'⟩ := q3
    cases e'
    exact ite_ff ⟨H3, I3, q'⟩
  | true =>
    refine ite_tt (test_last (thn (hc pins s3 σ H3 _ I3 q3) fun w' s4 ⟨z', H4, I4, r4, q4⟩ => thn (ho' pins s4 σ H4 y z' u w' _ I4 r2 r4 q4) fun d' s5 ⟨z2, H5, I5, r5, k2, e2, q5⟩ => ?_))
    subst e2
    cases r5
    exact wpAny_truthy_bool ⟨H5, I5, q5⟩
theorem line63 : (sizeLine : Nat) < 2 ^ 63 := by rw [sizeLine_eq]; decide
theorem vals1 {x : V} {us : List Value} (r : Vals [x] us) : ∃ u, us = [u] /\ RelV x u := by
  cases r with
  | cons r1 r2 => cases r2; exact ⟨_, rfl, r1⟩
theorem call_int1 : CallR X (.type "int") (fun xs H Q => (∃ i, xs = [.int i] /\ Q (.int i) H) ∨ ∃ k, xs = [.bl k] /\ Q (.int (if k then 1 else 0)) H) := by
  intro pins s σ H xs us Q I r h
  rcases h with ⟨i, rfl, q⟩ | ⟨k, rfl, q⟩
  · obtain ⟨u, rfl, t, rfl⟩ := vals1 r
    exact call_int_int ⟨.int i, H, I, ⟨_, rfl⟩, q⟩
  · obtain ⟨u, rfl, r1⟩ := vals1 r
    cases r1
    exact call_int_bool ⟨.int (if k then 1 else 0), H, I.tok _, ⟨_, rfl⟩, q⟩
end
structure ObjM (h : Heap) (x dx C : Addr) (mA : Str -> Option Value) : Prop where
  obj : h.get? x = some (PySem.W.instObj C dx)
  ns : h.Ns1 dx mA
  ne : dx ≠ x
theorem lookIn_ns {h : Heap} {dx : Addr} {mA : Str -> Option Value} (n : h.Ns1 dx mA) : ∃ od, h.get? dx = some od /\ ∀ name, PySem.W.lookIn name od = some (mA name) := by
  obtain ⟨o, es, ep, ho, hd, hk, _, hm⟩ := n
  refine ⟨o, ho, fun name => ?_⟩
  have e := hm name
  unfold nsFind findBy at e
  rw [<- Array.find?_toList] at e
  unfold PySem.W.lookIn
  rw [hd]
  dsimp only
  split
  · rename_i y q
    rw [q] at e
    exact congrArg some e
  · rename_i q
    rw [q] at e
    have a : es.toList.any (·.refKey) = false := by
      rw [List.any_eq_false]
      intro y hy
      obtain ⟨z, t, hkey⟩ := hk y (Array.mem_toList_iff.mp hy)
      simp [DictEntry.refKey, hkey]
    have a' : ¬ es.toList.any (·.refKey) = true := by rw [a]; exact Bool.false_ne_true
    rw [if_neg a']
    exact congrArg some e
theorem ObjM.look {h : Heap} {x dx C : Addr} {mA : Str -> Option Value} (I : ObjM h x dx C mA) : ∃ od, PySem.W.InstAt h x (PySem.W.instObj C dx) C (some od) /\ ∀ name, PySem.W.lookIn name od = some (mA name) :=
  let ⟨od, ho, hl⟩ := lookIn_ns I.ns
  ⟨od, ⟨I.obj, rfl, rfl, ho⟩, hl⟩
section
variable {prog : Program} {w : World} {A : Around} {E : Value -> Shared -> Prop} {s : Shared} {K : Frag} {x dx C f : Addr} {mA : Str -> Option Value} {name : Str} {v : Value}
theorem get_map {expr : Bool} {Q : Value -> Shared -> Prop} (X : K.In s.heap) (I : ObjM s.heap x dx C mA) (hg : PySem.W.plainGet K C name = true) (hh : PySem.W.hasDictIn K C = true)
    (ha : PySem.W.findIn K (.ref C) name = some none) (hv : mA name = some v) (hv' : PySem.W.handedIn v = true) (h : Q v { s with toks := s.toks + 1 }) :
    wpAny (model prog w) A (getAttr (.ref x) name expr) Q E s := by
  obtain ⟨od, J, hl⟩ := I.look
  exact PySem.W.get_value X J (PySem.W.plainGet_of hg).1 (PySem.W.findObj_own hh ha rfl (by rw [hl, hv])) hv' h
theorem get_meth {pl : Sem Bool} {Q : Value × List Value -> Shared -> Prop} (X : K.In s.heap) (I : ObjM s.heap x dx C mA) (hg : PySem.W.plainGet K C name = true)
    (hf : PySem.W.findIn K (.ref C) name = some (some (.ref f))) (ht : PySem.W.isFn K (.ref f) = true) (hv : mA name = none) (h : Q (.ref f, [.ref x]) s) :
    wpAny (model prog w) A (getMethod (.ref x) name pl) Q E s := by
  obtain ⟨od, J, hl⟩ := I.look
  exact PySem.W.method_fn X J (PySem.W.plainGet_of hg).1 (PySem.W.plainGet_of hg).2 hf (beq_iff_eq.mp ht) (by show (PySem.W.lookIn name od).map (·.isSome) = some false; rw [hl, hv]; rfl) h
theorem set_map {ns : List Str} {Q : Unit -> Shared -> Prop} (X : K.In s.heap) (I : ObjM s.heap x dx C mA)
    (hs : PySem.W.findIn K (.ref C) "__setattr__" = some (some (.builtin "object.__setattr__"))) (hp : PySem.W.plainOver K C = true) (ht : PySem.W.takerIn K C name = some none) (hh : PySem.W.hasDictIn K C = true)
    (hw : PySem.Within mA ns) (hsz : ns.length <= sizeLine)
    (h : ∀ h', ObjM h' x dx C (fun y => if y = name then some v else mA y) -> Heap.SameBut dx s.heap h' -> Q () { s with heap := h', toks := s.toks + 2 }) :
    wpAny (model prog w) A (setAttr (.ref x) name v) Q E s := by
  obtain ⟨od, J, hl⟩ := I.look
  refine PySem.W.set_plain X J hs (PySem.W.osa_open (s := { s with toks := s.toks + 1 }) (r := none) X J hp ht fun b => ?_)
  obtain ⟨cd, hc, hd'⟩ := PySem.W.any_some hh
  have hx : s.heap.get? x = some ⟨.ref C, some dx, .plain, #[]⟩ := I.obj
  refine wpAny_bind (wpAny_pure (wpAny_bind (wpAny_bind (wpAny_loadPart hx (wpAny_bind (PySem.W.Looks.here (s := { s with toks := s.toks + 1 }) (PySem.W.looks_clsIn X hc) ?_))))))
  rw [hd']
  refine wpAny_pure (a := some dx) (wpAny_bind (wpAny_pure (wpAny_bind ?_)))
  refine wpAny_nsSet1 (s := { s with toks := s.toks + 1 }) I.ns fun h' hn2 hs2 => ?_
  obtain ⟨oD, esD, epD, hoD, hdD, hcD⟩ := hn2.count (PySem.Within.cons name v hw)
  refine wpAny_bind (wpAny_lookBehind hoD (by rw [hdD]; exact pastItsLine_dict (Nat.le_trans hcD (by rw [List.length_cons]; omega))) ?_)
  exact wpAny_pure (h _ ⟨(hs2.2 _ (Ne.symm I.ne)).trans I.obj, hn2, I.ne⟩ hs2)
theorem make_map {R : Result -> Shared -> Prop} {vs : List Value} {kw : List (Str × Value)} (X : K.In s.heap) (hm : PySem.W.makesIn K C = true)
    (hi : PySem.W.findIn K (.ref C) "__init__" = some (some (.ref f))) (hf : PySem.W.typeIn K (.ref f) = some (.type "function"))
    (h : codeAny (model prog w) (A.under (.builtin "type.__call__" ⟨.ref C :: vs, kw⟩)) (.call (.ref f) ⟨.ref (s.heap.objs.size + 1) :: vs, kw⟩) (PySem.W.InitBack (s.heap.objs.size + 1) R)
      { s with heap := (s.heap.push PySem.W.emptyDict).push (PySem.W.instObj C s.heap.objs.size) }) :
    codeAny (model prog w) A (.call (.ref C) ⟨vs, kw⟩) R s := by
  obtain ⟨hh, g, d, t, os⟩ := s
  exact PySem.W.make_core (PySem.W.makes_of X hm) (PySem.W.looks_findIn X hi) (fun self => PySem.W.bind_fn X self hf) (.inl rfl) h
end
def putF (f : Str) (v : V) : List (Str × V) -> List (Str × V)
  | [] => [(f, v)]
  | (g, x) :: r => if g = f then (g, v) :: r else (g, x) :: putF f v r
theorem lookup_putF (f g : Str) (v : V) : ∀ fs : List (Str × V), (putF f v fs).lookup g = if g = f then some v else fs.lookup g
  | [] => by
    show List.lookup g [(f, v)] = _
    by_cases h : g = f
    · have hb : (g == f) = true := beq_iff_eq.mpr h
      simp only [List.lookup, hb, if_pos h]
    · have hb : (g == f) = false := beq_eq_false_iff_ne.mpr h
      simp only [List.lookup, hb, if_neg h]
  | (k, x) :: r => by
    have ih := lookup_putF f g v r
    rw [show putF f v ((k, x) :: r) = (if k = f then (k, v) :: r else (k, x) :: putF f v r) from rfl]
    by_cases hk : k = f
    · rw [if_pos hk]
      by_cases h : g = k
      · have hb : (g == k) = true := beq_iff_eq.mpr h
        simp only [List.lookup, hb, if_pos (h.trans hk)]
      · have hb : (g == k) = false := beq_eq_false_iff_ne.mpr h
        simp only [List.lookup, hb, if_neg (fun e : g = f => h (e.trans hk.symm))]
    · rw [if_neg hk]
      by_cases h : g = k
      · have hb : (g == k) = true := beq_iff_eq.mpr h
        simp only [List.lookup, hb, if_neg (fun e : g = f => hk (h.symm.trans e))]
      · have hb : (g == k) = false := beq_eq_false_iff_ne.mpr h
        simp only [List.lookup, hb]
        exact ih
theorem keys_putF (f : Str) (v : V) : ∀ fs : List (Str × V), f ∈ (putF f v fs).map (·.1) /\ ∀ g, g ∈ fs.map (·.1) -> g ∈ (putF f v fs).map (·.1)
  | [] => ⟨by simp [putF], fun g h => by simp at h⟩
  | (k, x) :: r => by
    obtain ⟨i1, i2⟩ := keys_putF f v r
    rw [show putF f v ((k, x) :: r) = (if k = f then (k, v) :: r else (k, x) :: putF f v r) from rfl]
    by_cases hk : k = f
    · rw [if_pos hk]
      subst hk
      exact ⟨by simp, fun g h => by simpa using h⟩
    · rw [if_neg hk]
      refine ⟨?_, fun g h => ?_⟩
      · rw [List.map_cons]
        exact List.mem_cons_of_mem _ i1
      · rw [List.map_cons] at h ⊢
        rcases List.mem_cons.mp h with e | e
        · exact List.mem_cons.mpr (.inl e)
        · exact List.mem_cons_of_mem _ (i2 g e)
theorem length_putF (f : Str) (v : V) : ∀ fs : List (Str × V), (putF f v fs).length <= fs.length + 1
  | [] => by simp [putF]
  | (k, x) :: r => by
    have ih := length_putF f v r
    rw [show putF f v ((k, x) :: r) = (if k = f then (k, v) :: r else (k, x) :: putF f v r) from rfl]
    by_cases hk : k = f
    · rw [if_pos hk, List.length_cons, List.length_cons]; omega
    · rw [if_neg hk, List.length_cons, List.length_cons]; omega
theorem RelO.some_of {v : V} {o : Option Value} (r : RelO (some v) o) : ∃ u, o = some u /\ RelV v u := by
  cases o with
  | none => exact (show False from r).elim
  | some u => exact ⟨u, rfl, r⟩
theorem RelO.none_of {o : Option Value} (r : RelO none o) : o = none := by
  cases o with
  | none => rfl
  | some u => exact (show False from r).elim
theorem handed_of {v : V} {u : Value} (r : RelV v u) : PySem.W.handedIn u = true := by
  cases v with
  | non => cases (show u = Value.none from r); rfl
  | bl b => cases (show u = Value.bool b from r); rfl
  | int i => obtain ⟨t, e⟩ := (show ∃ t, u = Value.int i t from r); cases e; rfl
  | str x => obtain ⟨t, e⟩ := (show ∃ t, u = Value.str x t from r); cases e; rfl
  | byt b => obtain ⟨t, e⟩ := (show ∃ t, u = Value.bytes b t from r); cases e; rfl
  | flt b => obtain ⟨t, e⟩ := (show ∃ t, u = Value.float b t from r); cases e; rfl
  | ref a => cases (show u = Value.ref a from r); rfl
  | ty n => cases (show u = Value.type n from r); rfl
section
variable {P : Program} {w : World} {H H' : Hp} {h h' : Heap} {a C dx : Addr} {fs fs' : List (Str × V)}
theorem ins_get (hok : HOk P w H h) (e : H a = some (.ins C dx fs)) : ∃ mA, ObjM h a dx C mA /\ (∀ f, RelO (fs.lookup f) (mA f)) /\ PySem.Within mA (fs.map (·.1)) /\ fs.length <= 1000 /\ H dx = some (.own a) := by
  obtain ⟨d, z, ne, ob, mA, n, r, q⟩ := (show ObjOk P w H h a (.ins C dx fs) from hok a _ e)
  exact ⟨mA, ⟨ob, n, ne⟩, r, q, z, d⟩
end
structure Cls (K : Frag) (C : Addr) : Prop where
  pg : PySem.W.plainGet K C Str.empty = true
  hd : PySem.W.hasDictIn K C = true
  po : PySem.W.plainOver K C = true
  sa : PySem.W.findIn K (.ref C) "__setattr__" = some (some (.builtin "object.__setattr__"))
theorem Cls.get {K : Frag} {C : Addr} (c : Cls K C) (f : Str) : PySem.W.plainGet K C f = true := c.pg
def NoAttr (K : Frag) (C : Addr) (f : Str) : Prop := PySem.W.findIn K (.ref C) f = some none
theorem NoAttr.taker {K : Frag} {C : Addr} {f : Str} (n : NoAttr K C f) : PySem.W.takerIn K C f = some none := by
  unfold PySem.W.takerIn
  rw [show PySem.W.findIn K (.ref C) f = some none from n]
  rfl
structure Meth (K : Frag) (C : Addr) (m : Str) (f : Addr) : Prop where
  at_ : PySem.W.findIn K (.ref C) m = some (some (.ref f))
  fn : PySem.W.isFn K (.ref f) = true
  kp : PySem.W.keepIn K (.ref f) = true
section
variable {X : Cx} {pins : List (Addr × Obj)} {σ : St} {H : Hp} {s : Shared} {a C dx : Addr} {fs : List (Str × V)} {f : Str} {v : V} {A : Around} {E : Value -> Shared -> Prop}
theorem getattr_ok {b : Bool} {Q : Value -> Shared -> Prop} (I : Inv X pins σ H s) (e : H a = some (.ins C dx fs)) (c : Cls X.K C) (n : NoAttr X.K C f) (l : fs.lookup f = some v)
    (h : ∀ u s', Inv X pins σ H s' -> RelV v u -> Q u s') : wpAny (model X.prog X.w) A (getAttr (.ref a) f b) Q E s := by
  obtain ⟨mA, O, r, _, _, _⟩ := ins_get I.hok e
  obtain ⟨u, hu, ru⟩ := RelO.some_of (v := v) (o := mA f) (by rw [<- l]; exact r f)
  exact get_map I.kIn O (c.get f) c.hd n hu (handed_of ru) (h u _ (I.tok _) ru)
theorem getmeth_ok {m : Str} {g : Addr} {pl : Sem Bool} {Q : Value × List Value -> Shared -> Prop} (I : Inv X pins σ H s) (e : H a = some (.ins C dx fs)) (c : Cls X.K C) (k : Meth X.K C m g) (l : fs.lookup m = none)
    (h : Q (.ref g, [.ref a]) s) : wpAny (model X.prog X.w) A (getMethod (.ref a) m pl) Q E s := by
  obtain ⟨mA, O, r, _, _, _⟩ := ins_get I.hok e
  have hn : mA m = none := RelO.none_of (by rw [<- l]; exact r m)
  exact get_meth I.kIn O (c.get m) k.at_ k.fn hn h
theorem setattr_ok {y : V} {u : Value} {Q : Unit -> Shared -> Prop} (I : Inv X pins σ H s) (e : H a = some (.ins C dx fs)) (c : Cls X.K C) (n : NoAttr X.K C f) (hl : fs.length < 1000) (ry : RelV y u)
    (h : ∀ s', Inv X pins σ (upd H a (.ins C dx (putF f y fs))) s' -> Q () s') : wpAny (model X.prog X.w) A (setAttr (.ref a) f u) Q E s := by
  obtain ⟨mA, O, r, wi, _, ho⟩ := ins_get I.hok e
  have hz : (fs.map (·.1)).length <= sizeLine := by rw [List.length_map, sizeLine_eq]; omega
  refine set_map I.kIn O c.sa c.po n.taker c.hd wi hz fun h' O' sb => h _ ?_
  have hd : ∃ o, h'.get? dx = some o := let ⟨o, _, _, e', _⟩ := O'.ns; ⟨o, e'⟩
  refine I.write (x := a) (e := dx) (by rw [e]; exact True.intro) (.inr ho) (fun b q hb z => (sb.2 b hb).trans z) hd ?_
  refine ⟨by rw [zj4 O.ne]; exact ho, ?_, O.ne, O'.obj, _, O'.ns, fun g => ?_, fun g hg => ?_⟩
  · have := length_putF f y fs; omega
  · show RelO ((putF f y fs).lookup g) (if g = f then some u else mA g)
    rw [lookup_putF]
    by_cases q : g = f
    · rw [if_pos q, if_pos q]; exact ry
    · rw [if_neg q, if_neg q]; exact r g
  · by_cases q : g = f
    · rw [q]; exact (keys_putF f y fs).1
    · refine (keys_putF f y fs).2 g (wi g fun z => hg ?_)
      show (if g = f then some u else mA g) = none
      rw [if_neg q]; exact z
theorem Inv.made (I : Inv X pins σ H s) : Inv X pins σ (upd (upd H s.heap.objs.size (.own (s.heap.objs.size + 1))) (s.heap.objs.size + 1) (.ins C s.heap.objs.size []))
    { s with heap := (s.heap.push PySem.W.emptyDict).push (PySem.W.instObj C s.heap.objs.size) } := by
  have e1 : (s.heap.push PySem.W.emptyDict).get? s.heap.objs.size = some PySem.W.emptyDict := Heap.get?_push_size s.heap rfl
  have e2 : ((s.heap.push PySem.W.emptyDict).push (PySem.W.instObj C s.heap.objs.size)).get? (s.heap.objs.size + 1) = some (PySem.W.instObj C s.heap.objs.size) := by
    have := Heap.get?_push_size (s.heap.push PySem.W.emptyDict) (o := PySem.W.instObj C s.heap.objs.size) rfl
    rwa [Heap.size_push] at this
  have e3 : (s.heap.push PySem.W.emptyDict).Ns s.heap.objs.size (fun _ => none) := ⟨PySem.W.emptyDict, #[], _, e1, rfl, (fun e he => absurd he (by simp)), fun _ => rfl⟩
  have I1 := I.laid (a := s.heap.objs.size) (o := .own (s.heap.objs.size + 1)) (h' := s.heap.push PySem.W.emptyDict) (t' := s.toks) (fun b u q => Heap.get?_push_of_some _ q) (Nat.le_refl _) ⟨_, e1⟩
  refine I1.laid (a := s.heap.objs.size + 1) (o := .ins C s.heap.objs.size []) (t' := s.toks) (fun b u q => Heap.get?_push_of_some _ q) (Nat.le_of_eq (Heap.size_push _ _)) ?_
  have ne : s.heap.objs.size ≠ s.heap.objs.size + 1 := Nat.ne_of_lt (Nat.lt_succ_self _)
  refine ⟨by rw [zj4 ne, zq1], Nat.zero_le _, ne, e2, fun _ => none, (Heap.Ns1.of_empty e3).at fun o q => Heap.get?_push_of_some _ q, fun _ => True.intro, fun y hy => absurd rfl hy⟩
theorem attr_of {prog : Program} {w : World} {env : Env} {e : Expr} {f : Str} {pos : Pos} {s : Shared} {Q : Value -> Shared -> Prop} (hb : attributeBase e f env (eval e env) = eval e env)
    (h : wpAny (model prog w) A (eval e env) (fun o s₁ => wpAny (model prog w) A (getAttr o f true) Q E s₁) E s) : wpAny (model prog w) A (eval (.Attribute e f pos) env) Q E s :=
  Attribute_any_ h (by rw [arm_eval_Attribute, hb])
end
section
variable {X : Cx} {o e value : Expr} {f : Str} {pos pos' tpos : Pos} {ta tv : TE}
end
section
variable {X : Cx} {pins : List (Addr × Obj)} {σ : St} {H : Hp} {s : Shared} {A : Around} {E : Value -> Shared -> Prop} {Q : Value -> Shared -> Prop} {c : Value} {b : Bool}
inductive TyOf (K : Frag) (H : Hp) : V -> Value -> Prop where
  | non : TyOf K H .non (.type "NoneType")
  | bl (x : Bool) : TyOf K H (.bl x) (.type "bool")
  | int (i : Int) : TyOf K H (.int i) (.type "int")
  | str (x : Str) : TyOf K H (.str x) (.type "str")
  | flt (x : UInt64) : TyOf K H (.flt x) (.type "float")
  | lst {a : Addr} {xs : List V} (e : H a = some (.lst xs)) : TyOf K H (.ref a) (.type "list")
  | frz {a : Addr} {o : Obj} {xs : List V} (e : H a = some (.frz o (.lst xs))) : TyOf K H (.ref a) (.type "list")
  | tup {a : Addr} {xs : List V} (e : H a = some (.tup xs)) : TyOf K H (.ref a) (.type "tuple")
  | dK {a : Addr} {kvs : List (Key × V)} (e : H a = some (.dK kvs)) : TyOf K H (.ref a) (.type "dict")
  | dT {a : Addr} {kvs : List (List Key × V)} (e : H a = some (.dT kvs)) : TyOf K H (.ref a) (.type "dict")
  | ins {a C dx : Addr} {fs : List (Str × V)} (e : H a = some (.ins C dx fs)) (cl : Cls K C) (ha : PySem.W.findIn K (.ref C) "__class__" = some (some (.builtin "object.__class__")))
      (hn : PySem.W.specialIn K (.builtin "object.__class__") "__get__" = some (some (.builtin "getset_descriptor.__get__"))) (htk : PySem.W.takesIn K (.builtin "object.__class__") = some true)
      (hm : PySem.W.mroIn K C (.type "object") = some true) : TyOf K H (.ref a) (.ref C)
theorem isinst_ok {x : V} {u t : Value} (I : Inv X pins σ H s) (rx : RelV x u) (ty : TyOf X.K H x t) (e : PySem.W.kitOne X.K t c = some b) (h : ∀ tk, Q (.bool b) { s with toks := tk }) :
    wpAny (model X.prog X.w) A (call (.builtin "isinstance") [u, c]) Q E s := by
  cases ty with
  | non => cases (show u = Value.none from rx); exact PySem.W.kia_one PySem.W.kitx_none I.kIn True.intro e (fun z => nomatch z) h
  | bl y => cases (show u = Value.bool y from rx); exact PySem.W.kia_one PySem.W.kitx_bool I.kIn True.intro e (fun z => nomatch z) h
  | int i => obtain ⟨t, q⟩ := (show ∃ t, u = Value.int i t from rx); cases q; exact PySem.W.kia_one PySem.W.kitx_int I.kIn True.intro e (fun z => nomatch z) h
  | str y => obtain ⟨t, q⟩ := (show ∃ t, u = Value.str y t from rx); cases q; exact PySem.W.kia_one PySem.W.kitx_str I.kIn True.intro e (fun z => nomatch z) h
  | flt y => obtain ⟨t, q⟩ := (show ∃ t, u = Value.float y t from rx); cases q; exact PySem.W.kia_one PySem.W.kitx_float I.kIn True.intro e (fun z => nomatch z) h
  | @lst a xs ea =>
    cases (show u = Value.ref a from rx)
    obtain ⟨_, _, n, _, h1⟩ := (show ObjOk X.prog X.w H s.heap a (.lst xs) from I.hok a _ ea)
    exact PySem.W.kia_one PySem.W.kitx_list I.kIn ⟨_, h1, rfl⟩ e (fun z => nomatch z) h
  | @frz a ob xs ea =>
    cases (show u = Value.ref a from rx)
    obtain ⟨_, _, _, n, _, h1⟩ := (show ObjOk X.prog X.w H s.heap a (.frz ob (.lst xs)) from I.hok a _ ea)
    exact PySem.W.kia_one PySem.W.kitx_list I.kIn ⟨_, h1, rfl⟩ e (fun z => nomatch z) h
  | @tup a xs ea =>
    cases (show u = Value.ref a from rx)
    obtain ⟨_, _, _, p⟩ := (show ObjOk X.prog X.w H s.heap a (.tup xs) from I.hok a _ ea)
    obtain ⟨o, h1, h2, _⟩ := p
    exact PySem.W.kia_one PySem.W.kitx_tuple I.kIn ⟨o, h1, h2⟩ e (fun z => nomatch z) h
  | @dK a kvs ea =>
    cases (show u = Value.ref a from rx)
    obtain ⟨_, _, vs, _, p⟩ := (show ObjOk X.prog X.w H s.heap a (.dK kvs) from I.hok a _ ea)
    obtain ⟨o, es, ep, h1, h2, _⟩ := p
    exact PySem.W.kia_one PySem.W.kitx_dict I.kIn ⟨o, h1, h2.1⟩ e (fun z => nomatch z) h
  | @dT a kvs ea =>
    cases (show u = Value.ref a from rx)
    obtain ⟨_, _, xs, _, o, es, ep, h1, h2, _⟩ := (show ObjOk X.prog X.w H s.heap a (.dT kvs) from I.hok a _ ea)
    exact PySem.W.kia_one PySem.W.kitx_dict I.kIn ⟨o, h1, h2.1⟩ e (fun z => nomatch z) h
  | @ins a C dx fs ea cl ha hn htk hm =>
    cases (show u = Value.ref a from rx)
    obtain ⟨mA, O, _⟩ := ins_get I.hok ea
    obtain ⟨od, J, _⟩ := O.look
    exact PySem.W.kia_one (PySem.W.kitx_own (cl.get _) cl.hd ha hn htk hm) I.kIn J e (fun z => nomatch z) h
end
structure Room (k : Nat) (A : Around) : Prop where
  hd : A.handled = none
  dp : A.depth + 3 * k + 5 < recursionLimit
  un : A.units + 16 * k + 200 < cLine
theorem Room.mono {j k : Nat} {A : Around} (r : Room k A) (h : j <= k) : Room j A := ⟨r.hd, by have := r.dp; omega, by have := r.un; omega⟩
theorem Room.deeper {k : Nat} {A : Around} (r : Room (k + 1) A) (env : Env) : Room k (A.deeper env) :=
  ⟨r.hd, by have := r.dp; show A.depth + 1 + 3 * k + 5 < _; omega, by have := r.un; show A.units + 3 + 16 * k + 200 < _; omega⟩
theorem Room.in1 {k : Nat} {A : Around} (r : Room (k + 1) A) : Room k A.in1 :=
  ⟨r.hd, by have := r.dp; show A.depth + 3 * k + 5 < _; omega, by have := r.un; show A.units + 1 + 16 * k + 200 < _; omega⟩
theorem make_depth {A : Around} {C : Addr} {us : List Value} {kw : List (Str × Value)} : (A.under (.builtin "type.__call__" ⟨.ref C :: us, kw⟩)).depth = A.depth + 1 := by
  first | rfl | simp [Around.under, Code.weight, Code.isCreation, Code.isGuard, Code.isCaller, Code.frames, Code.isFrame, guardIds]
theorem make_units {A : Around} {C : Addr} {us : List Value} {kw : List (Str × Value)} : (A.under (.builtin "type.__call__" ⟨.ref C :: us, kw⟩)).units = A.units + 1 := by
  first | rfl | simp [Around.under, Code.cUnits, Code.frames, Code.isFrame]
theorem Room.make {k : Nat} {A : Around} (r : Room (k + 1) A) (C : Addr) (us : List Value) (kw : List (Str × Value)) : Room k (A.under (.builtin "type.__call__" ⟨.ref C :: us, kw⟩)) :=
  ⟨r.hd, by have := r.dp; rw [make_depth]; omega, by have := r.un; rw [make_units]; omega⟩
theorem Room.depth {k : Nat} {A : Around} (r : Room k A) : A.depth < recursionLimit := by have := r.dp; omega
theorem Room.units {k : Nat} {A : Around} (r : Room k A) : A.units + 64 < cLine := by have := r.un; omega
def tNil : TA := fun _ H Q => Q [] H
def tCons (ta : TE) (tr : TA) : TA := fun σ H Q => ta σ H fun x H1 => tr σ H1 fun xs H2 => Q (x :: xs) H2
section
variable {X : Cx} {e : Expr} {es : List Expr} {te : TE} {t : TA} {pos : Pos}
theorem pa_nil : PA X [] tNil := fun _ _ _ _ H Q I h => Calls.spliced_nil ⟨[], H, I, .nil, h⟩
theorem pa_cons (ha : PE X e te) (hr : PA X es t) (hs : starEach (e :: es) X.env = (false, eval e X.env) :: starEach es X.env := by rfl) : PA X (e :: es) (tCons te t) := by
  intro pos pins s σ H Q I h
  rw [hs]
  show wpAny _ _ (spliced ((false, eval e X.env) :: backTo pos (starEach es X.env))) _ _ s
  refine Calls.spliced_cons (thn (ha pins s σ H _ I h) fun u s1 ⟨x, H1, I1, r1, q1⟩ => ?_)
  exact thn (hr pos pins s1 σ H1 _ I1 q1) fun us s2 ⟨xs, H2, I2, r2, q2⟩ => ⟨x :: xs, H2, I2, .cons r1 r2, q2⟩
def tTup (t : TA) : TE := fun σ H Q => t σ H fun xs H1 => xs.length <= sizeLine /\ ∀ p, H1 p = none -> Q (.ref p) (upd H1 p (.tup xs))
def tLst (t : TA) : TE := fun σ H Q => t σ H fun xs H1 => xs.length <= sizeLine /\ ∀ p, H1 p = none -> Q (.ref p) (upd H1 p (.lst xs))
theorem pe_tup {x1} (h : PA X es t) : PE X (.Tuple es x1 pos) (tTup t) := by
  intro pins s σ H Q I hq
  refine wpAny_Tuple_spliced (thn (h pos pins s σ H _ I hq) fun us s1 ⟨xs, H1, I1, r, z, q⟩ => ⟨by rw [<- r.length]; exact z, ?_⟩)
  have hf : H1 s1.heap.objs.size = none := I1.hok.fresh (Nat.le_refl _)
  refine ⟨.ref s1.heap.objs.size, upd H1 s1.heap.objs.size (.tup xs), I1.laid (t' := s1.toks) (fun b u e => Heap.get?_push_of_some _ e) (Nat.le_refl _) ?_, rfl, q _ hf⟩
  exact ⟨z, us, r, ⟨_, Heap.get?_push_size _ rfl, rfl, _, rfl⟩⟩
theorem pe_lst (h : PA X es t) : PE X (.List es pos) (tLst t) := by
  intro pins s σ H Q I hq
  refine wpAny_List_spliced (thn (h pos pins s σ H _ I hq) fun us s1 ⟨xs, H1, I1, r, z, q⟩ => ⟨by rw [<- r.length]; exact z, ?_⟩)
  have hf : H1 s1.heap.objs.size = none := I1.hok.fresh (Nat.le_refl _)
  refine ⟨.ref s1.heap.objs.size, upd H1 s1.heap.objs.size (.lst xs), I1.laid (t' := s1.toks) (fun b u e => Heap.get?_push_of_some _ e) (Nat.le_refl _) ?_, rfl, q _ hf⟩
  exact ⟨z, us, 0, r, Heap.get?_push_size _ rfl⟩
end
abbrev Sp := List V -> Hp -> VK -> XK -> Prop
abbrev CXT := List Env -> Hp -> Shared -> XK -> Value -> Shared -> Prop
structure Env0 (P : Program) (w : World) (K : Frag) (mg : Str -> Option Value) (base : Heap) (A : Around) (outer : List Env) (s : Shared) (H : Hp) : Prop where
  frames : A.frames = some outer
  mod : Mod K mg base
  bs : ∀ b o, base.get? b = some o -> s.heap.get? b = some o /\ H b = none
  bsz : base.objs.size <= s.heap.objs.size
  funs : s.heap.FunFrames base outer
  frf : ∀ b ∈ frs outer, H b = none
  hok : HOk P w H s.heap
  bare : AllBare s.gens
def CE (outer : List Env) (P : Program) (w : World) (H : Hp) (s : Shared) (Q : VK) (u : Value) (s' : Shared) : Prop :=
  ∃ v H', s'.os = s.os /\ AllBare s'.gens /\ Un (frs outer) [] H H' s.heap s'.heap /\ HOk P w H' s'.heap /\ RelV v u /\ Q v H'
def CR (CX : CXT) (outer : List Env) (P : Program) (w : World) (H : Hp) (s : Shared) (Q : VK) (E : XK) (r : Result) (s' : Shared) : Prop :=
  match r with
  | .ok (.ret u) => CE outer P w H s Q u s'
  | .ok _ => False
  | .error e => CX outer H s E e s'
structure FnOk (P : Program) (w : World) (K : Frag) (mg : Str -> Option Value) (base : Heap) (CX : CXT) (k : Nat) (f : Addr) (fd : FuncData) (ps : List Str) (sp : Sp) : Prop where
  len : ∀ vs H Q E, sp vs H Q E -> vs.length = ps.length
  run : ∀ (A : Around) (outer : List Env) (s : Shared) (H : Hp) (args : Args) (us : List Value) (vs : List V) (Q : VK) (E : XK), Room k A -> Env0 P w K mg base A outer s H -> BindsTo s fd args (ps.zip us) -> Vals vs us -> sp vs H Q E ->
    codeAny (model P w) A (.call (.ref f) args) (CR CX outer P w H s Q E) s
theorem Env0.make {P : Program} {w : World} {K : Frag} {mg : Str -> Option Value} {base : Heap} {A : Around} {outer : List Env} {s : Shared} {H : Hp} (e : Env0 P w K mg base A outer s H) (C : Addr) (us : List Value) (kw : List (Str × Value)) :
    Env0 P w K mg base (A.under (.builtin "type.__call__" ⟨.ref C :: us, kw⟩)) outer s H := ⟨by first | exact e.frames | (simpa [Around.under, Code.envs, Code.isFrame, pushEnvs] using e.frames), e.mod, e.bs, e.bsz, e.funs, e.frf, e.hok, e.bare⟩
theorem Env0.in1 {P : Program} {w : World} {K : Frag} {mg : Str -> Option Value} {base : Heap} {A : Around} {outer : List Env} {s : Shared} {H : Hp} (e : Env0 P w K mg base A outer s H) :
    Env0 P w K mg base A.in1 outer s H := ⟨e.frames, e.mod, e.bs, e.bsz, e.funs, e.frf, e.hok, e.bare⟩
section
variable {X : Cx} {pins : List (Addr × Obj)} {σ : St} {H : Hp} {s s' : Shared}
theorem Inv.env0 (I : Inv X pins σ H s) : Env0 X.prog X.w X.K X.mg X.base X.A X.stack s H :=
  ⟨I.ok.frames, I.ok.mod, I.bs, Nat.le_trans I.ok.bsz I.sz, I.stack, I.stkFree, I.hok, I.bare⟩
theorem Inv.after {Q : VK} {u : Value} (I : Inv X pins σ H s) (h : CE X.stack X.prog X.w H s Q u s') : EP X pins σ Q u s' := by
  obtain ⟨v, H', os, bare, un, hok, r, q⟩ := h
  obtain ⟨hh, g, d, t, os'⟩ := s'
  obtain rfl : os' = s.os := os
  exact ⟨v, H', I.call (h' := hh) (g' := g) (d' := d) (t' := t) (ch := []) un hok bare (fun b z => absurd z (by simp)), r, q⟩
end
def tCall (sp : Sp) (dvs : List V) (E : XK) (t : TA) : TE := fun σ H Q => t σ H fun vs H1 => sp (vs ++ dvs) H1 Q E
def tMeth (C : Addr) (m : Str) (sp : Sp) (dvs : List V) (E : XK) (ta : TE) (t : TA) : TE := fun σ H Q => ta σ H fun x H1 => ∃ a dx fs, x = .ref a /\ H1 a = some (.ins C dx fs) /\ fs.lookup m = none /\
  t σ H1 fun vs H2 => sp (x :: (vs ++ dvs)) H2 Q E
def tMake (C : Addr) (sp : Sp) (dvs : List V) (E : XK) (t : TA) : TE := fun σ H Q => t σ H fun vs H1 => ∀ x dx, H1 x = none -> H1 dx = none -> dx ≠ x ->
  sp (.ref x :: (vs ++ dvs)) (upd (upd H1 dx (.own x)) x (.ins C dx [])) (fun v H2 => v = .non /\ Q (.ref x) H2) E
def Binds (K : Frag) (fd : FuncData) (ps : List Str) (ds : List Value) : Prop :=
  ∀ (s : Shared) (us : List Value), K.In s.heap -> (us ++ ds).length = ps.length -> BindsTo s fd ⟨us, []⟩ (ps.zip (us ++ ds))
theorem Binds.all {K : Frag} {fd : FuncData} {ps : List Str} (h : ∀ us : List Value, us.length = ps.length -> bindArgs fd ⟨us, []⟩ = pure (ps.zip us)) : Binds K fd ps [] := fun s us _ hl => by
  rw [List.append_nil] at hl ⊢
  exact .of_eq (h us hl)
def Passes (CX : CXT) (X : Cx) (E : XK) : Prop := ∀ (pins : List (Addr × Obj)) (σ : St) (H : Hp) (s : Shared) (e : Value) (s' : Shared), Inv X pins σ H s -> CX X.stack H s E e s' -> X.xe e s'
section
variable {X : Cx} {CX : CXT} {k : Nat} {f C : Addr} {fd : FuncData} {ps : List Str} {sp : Sp} {dvs : List V} {ds : List Value} {E : XK} {x m : Str} {p pos apos : Pos} {e o : Expr} {es : List Expr} {ta : TE} {t : TA}
theorem run_fn {pins : List (Addr × Obj)} {σ : St} {H : Hp} {s : Shared} {Q : VK} {us : List Value} {vs : List V} (F : FnOk X.prog X.w X.K X.mg X.base CX k f fd ps sp) (hr : Room k X.A) (hb : Binds X.K fd ps ds) (hd : Vals dvs ds) (hx : Passes CX X E)
    (I : Inv X pins σ H s) (r : Vals vs us) (h : sp (vs ++ dvs) H Q E) : wpAny (model X.prog X.w) X.A (call (.ref f) us) (EP X pins σ Q) X.xe s := by
  have r2 : Vals (vs ++ dvs) (us ++ ds) := r.append hd
  have hl : (us ++ ds).length = ps.length := by rw [<- r2.length]; exact F.len _ _ _ _ h
  refine wpAny_call (codeAny_mono (F.run X.A X.stack s H ⟨us, []⟩ (us ++ ds) (vs ++ dvs) Q E hr I.env0 (hb s us I.kIn hl) r2 h) fun r s' hq => ?_)
  cases r with
  | error e => exact hx pins σ H s e s' I hq
  | ok fl =>
    cases fl with
    | ret u => exact I.after hq
    | next => exact False.elim hq
    | brk => exact False.elim hq
    | cont => exact False.elim hq
theorem pe_call (F : FnOk X.prog X.w X.K X.mg X.base CX k f fd ps sp) (hr : Room k X.A) (hg : Gl X x) (hm : X.mg x = some (.ref f)) (hk : PySem.W.keepIn X.K (.ref f) = true) (hb : Binds X.K fd ps ds) (hd : Vals dvs ds) (hx : Passes CX X E)
    (ha : PA X (e :: es) t) (hdb : (x == ("__debug__" : Str)) = false := by decide) (he : starEach (e :: es) X.env = (false, eval e X.env) :: starEach es X.env := by rfl) (hpl : (backTo pos (starEach es X.env)).any (·.1) = false := by rfl) :
    PE X (.Call (.Name x p) (e :: es) [] pos) (tCall sp dvs E t) := by
  intro pins s σ H Q I h
  refine wpAny_Call_Name_kw (ld_glob I hg hm ?_ hdb)
  refine PySem.W.callWith_K (h₀ := X.base) I.ok.mod.kin hk (thn (ha pos pins s σ H _ I h) fun us s1 ⟨vs, H1, I1, r, q⟩ => ⟨I1.kIn, ?_⟩) he hpl
  exact run_fn F hr hb hd hx I1 r q
theorem pe_meth {pl : Sem Bool} (he : PE X o ta) (c : Cls X.K C) (hm : Meth X.K C m f) (F : FnOk X.prog X.w X.K X.mg X.base CX k f fd ps sp) (hr : Room k X.A) (hb : Binds X.K fd ps ds) (hd : Vals dvs ds) (hx : Passes CX X E) (ha : PA X (e :: es) t)
    (hst : starEach (e :: es) X.env = (false, eval e X.env) :: starEach es X.env := by rfl) (hpl : (backTo pos (starEach es X.env)).any (·.1) = false := by rfl)
    (ht : eval (.Call (.Attribute o m apos) (e :: es) [] pos) X.env = (do
      let ov <- eval o X.env
      standAt apos.atName
      let (f, first) <- holding [ov] (getMethod ov m pl)
      callWith pos f first (backTo pos (starEach (e :: es) X.env)) (backToKw pos (keywordEach [] X.env))) := by rfl) :
    PE X (.Call (.Attribute o m apos) (e :: es) [] pos) (tMeth C m sp dvs E ta t) := by
  intro pins s σ H Q I h
  refine PySem.W.methodCall_KW (pl := pl) (thn (he pins s σ H _ I h) fun u s1 ⟨x, H1, I1, rx, a, dx, fs, ex, ea, l, q⟩ => ?_) ht
  subst ex
  obtain rfl : u = Value.ref a := rx
  refine getmeth_ok I1 ea c hm l ?_
  refine PySem.W.callWith_K (first := [.ref a]) (h₀ := X.base) I.ok.mod.kin hm.kp (thn (ha pos pins s1 σ H1 _ I1 q) fun us s2 ⟨vs, H2, I2, r, q2⟩ => ⟨I2.kIn, ?_⟩) hst hpl
  exact run_fn (us := .ref a :: us) (vs := .ref a :: vs) F hr hb hd hx I2 (.cons rfl r) q2
theorem pe_meth0 {pl : Sem Bool} (he : PE X o ta) (c : Cls X.K C) (hm : Meth X.K C m f) (F : FnOk X.prog X.w X.K X.mg X.base CX k f fd ps sp) (hr : Room k X.A) (hb : Binds X.K fd ps ds) (hd : Vals dvs ds) (hx : Passes CX X E)
    (ht : eval (.Call (.Attribute o m apos) [] [] pos) X.env = (do
      let ov <- eval o X.env
      standAt apos.atName
      let (f, first) <- holding [ov] (getMethod ov m pl)
      callWith pos f first (backTo pos (starEach [] X.env)) (backToKw pos (keywordEach [] X.env))) := by rfl) :
    PE X (.Call (.Attribute o m apos) [] [] pos) (tMeth C m sp dvs E ta tNil) := by
  intro pins s σ H Q I h
  refine PySem.W.methodCall_KW (pl := pl) (thn (he pins s σ H _ I h) fun u s1 ⟨x, H1, I1, rx, a, dx, fs, ex, ea, l, q⟩ => ?_) ht
  subst ex
  obtain rfl : u = Value.ref a := rx
  refine getmeth_ok I1 ea c hm l ?_
  exact PySem.W.callWith_K0 (first := [.ref a]) I1.kIn hm.kp (run_fn (us := [.ref a]) (vs := [.ref a]) F hr hb hd hx I1 (.cons rfl .nil) q)
structure Mk (K : Frag) (C f : Addr) : Prop where
  makes : PySem.W.makesIn K C = true
  init : PySem.W.findIn K (.ref C) "__init__" = some (some (.ref f))
  fn : PySem.W.isFn K (.ref f) = true
  kp : PySem.W.keepIn K (.ref C) = true
theorem run_make {pins : List (Addr × Obj)} {σ : St} {H : Hp} {s : Shared} {Q : VK} {us : List Value} {vs : List V} (M : Mk X.K C f) (F : FnOk X.prog X.w X.K X.mg X.base CX k f fd ps sp) (hr : Room (k + 1) X.A) (hb : Binds X.K fd ps ds) (hd : Vals dvs ds)
    (hx : Passes CX X E) (I : Inv X pins σ H s) (r : Vals vs us)
    (h : ∀ x dx, H x = none -> H dx = none -> dx ≠ x -> sp (.ref x :: (vs ++ dvs)) (upd (upd H dx (.own x)) x (.ins C dx [])) (fun v H2 => v = .non /\ Q (.ref x) H2) E) :
    wpAny (model X.prog X.w) X.A (call (.ref C) us) (EP X pins σ Q) X.xe s := by
  have hq := h (s.heap.objs.size + 1) s.heap.objs.size (I.hok.fresh (Nat.le_succ _)) (I.hok.fresh (Nat.le_refl _)) (Nat.ne_of_lt (Nat.lt_succ_self _))
  have I2 := Inv.made (C := C) I
  have r2 : Vals (V.ref (s.heap.objs.size + 1) :: (vs ++ dvs)) (Value.ref (s.heap.objs.size + 1) :: (us ++ ds)) := .cons rfl (r.append hd)
  have hl : (Value.ref (s.heap.objs.size + 1) :: us ++ ds).length = ps.length := by
    have e := r2.length
    rw [F.len _ _ _ _ hq] at e
    exact e.symm
  refine wpAny_call (make_map (f := f) I.kIn M.makes M.init (beq_iff_eq.mp M.fn) (codeAny_mono (F.run _ X.stack _ _ ⟨Value.ref (s.heap.objs.size + 1) :: us, []⟩ (Value.ref (s.heap.objs.size + 1) :: (us ++ ds)) _ _ E (hr.make C us [])
    (I2.env0.make C us []) (hb _ (Value.ref (s.heap.objs.size + 1) :: us) I2.kIn hl) r2 hq) fun r s' hq' => ?_))
  cases r with
  | error e => exact hx pins σ _ _ e s' I2 hq'
  | ok fl =>
    cases fl with
    | ret u =>
      obtain ⟨v, H', I3, rv, ev, q3⟩ := I2.after hq'
      subst ev
      exact ⟨rv, ⟨V.ref (s.heap.objs.size + 1), H', I3, rfl, q3⟩⟩
    | next => exact False.elim hq'
    | brk => exact False.elim hq'
    | cont => exact False.elim hq'
theorem pe_make (M : Mk X.K C f) (F : FnOk X.prog X.w X.K X.mg X.base CX k f fd ps sp) (hr : Room (k + 1) X.A) (hg : Gl X x) (hm : X.mg x = some (.ref C)) (hb : Binds X.K fd ps ds) (hd : Vals dvs ds) (hx : Passes CX X E)
    (ha : PA X (e :: es) t) (hdb : (x == ("__debug__" : Str)) = false := by decide) (he : starEach (e :: es) X.env = (false, eval e X.env) :: starEach es X.env := by rfl) (hpl : (backTo pos (starEach es X.env)).any (·.1) = false := by rfl) :
    PE X (.Call (.Name x p) (e :: es) [] pos) (tMake C sp dvs E t) := by
  intro pins s σ H Q I h
  refine wpAny_Call_Name_kw (ld_glob I hg hm ?_ hdb)
  refine PySem.W.callWith_K (h₀ := X.base) I.ok.mod.kin M.kp (thn (ha pos pins s σ H _ I h) fun us s1 ⟨vs, H1, I1, r, q⟩ => ⟨I1.kIn, ?_⟩) he hpl
  exact run_make M F hr hb hd hx I1 r q
end
section
variable {X : Cx} {CX : CXT} {k : Nat} {f C : Addr} {fd : FuncData} {ps ks : List Str} {sp : Sp} {E : XK} {x m : Str} {p pos apos kpos : Pos} {e o : Expr} {es : List Expr} {kws : List Keyword} {te ta : TE} {t tk : TA} {nm : Option Str}
variable {g : List Value -> List Value -> List Value} {gV : List V -> List V -> List V}
end
structure FnScope (N P : List Str) (sc : Scope) : Prop where
  kind : sc.kind = .function
  co : sc.isCoroutine = false
  gen : sc.isGenerator = false
  nd : N.Nodup
  pre : N.take P.length = P
  par : ∀ x ∈ P, sc.names.lookup x = some .local ∨ sc.names.lookup x = some .cell
  nofree : ∀ y ∈ sc.names, y.2 ≠ .free
theorem bindL_out {kindOf : Str -> Option NameKind} {x : Str} : ∀ {binds : List (Str × Value)} {m : Str -> Option Value}, (∀ v, (x, v) ∉ binds) -> bindL kindOf binds m x = m x
  | [], _, _ => rfl
  | (n, v) :: r, m, h => by
    unfold bindL
    rw [bindL_out fun w hw => h w (List.mem_cons_of_mem _ hw)]
    split
    · have : x ≠ n := by rintro rfl; exact h v List.mem_cons_self
      simp [this]
    · rfl
theorem bindC_out {kindOf : Str -> Option NameKind} {x : Str} : ∀ {binds : List (Str × Value)} {m : Str -> Option Value}, (∀ v, (x, v) ∉ binds) -> bindC kindOf binds m x = m x
  | [], _, _ => rfl
  | (n, v) :: r, m, h => by
    unfold bindC
    rw [bindC_out fun w hw => h w (List.mem_cons_of_mem _ hw)]
    split
    · rfl
    · have : x ≠ n := by rintro rfl; exact h v List.mem_cons_self
      simp [this]
theorem bindL_get {kindOf : Str -> Option NameKind} {x : Str} {v : Value} : ∀ {P : List Str} {vs : List Value} {i : Nat} {m : Str -> Option Value}, P.Nodup -> P[i]? = some x -> vs[i]? = some v -> kindOf x = some .local ->
    bindL kindOf (P.zip vs) m x = some v
  | [], _, _, _, _, h, _, _ => by simp at h
  | _ :: _, [], _, _, _, _, h, _ => by simp at h
  | p :: P, w :: vs, 0, m, nd, h1, h2, hk => by
    simp at h1 h2; subst h1; subst h2
    show bindL kindOf ((p, w) :: P.zip vs) m p = _
    unfold bindL
    rw [bindL_out fun v hv => (List.nodup_cons.mp nd).1 (List.of_mem_zip hv).1, if_pos hk]
    simp
  | p :: P, w :: vs, i + 1, m, nd, h1, h2, hk => by
    show bindL kindOf ((p, w) :: P.zip vs) m x = _
    unfold bindL
    exact bindL_get (i := i) (List.nodup_cons.mp nd).2 (by simpa using h1) (by simpa using h2) hk
theorem bindC_get {kindOf : Str -> Option NameKind} {x : Str} {v : Value} : ∀ {P : List Str} {vs : List Value} {i : Nat} {m : Str -> Option Value}, P.Nodup -> P[i]? = some x -> vs[i]? = some v -> kindOf x ≠ some .local ->
    bindC kindOf (P.zip vs) m x = some v
  | [], _, _, _, _, h, _, _ => by simp at h
  | _ :: _, [], _, _, _, _, h, _ => by simp at h
  | p :: P, w :: vs, 0, m, nd, h1, h2, hk => by
    simp at h1 h2; subst h1; subst h2
    show bindC kindOf ((p, w) :: P.zip vs) m p = _
    unfold bindC
    rw [bindC_out fun v hv => (List.nodup_cons.mp nd).1 (List.of_mem_zip hv).1, if_neg hk]
    simp
  | p :: P, w :: vs, i + 1, m, nd, h1, h2, hk => by
    show bindC kindOf ((p, w) :: P.zip vs) m x = _
    unfold bindC
    exact bindC_get (i := i) (List.nodup_cons.mp nd).2 (by simpa using h1) (by simpa using h2) hk
def start (N : List Str) (vs : List V) : St := vs.map some ++ List.replicate (N.length - vs.length) none
def cxOf (CX : CXT) (P : Program) (w : World) (K : Frag) (mg : Str -> Option Value) (base : Heap) (N : List Str) (qual : Str) (scope : Scope) (f : Addr) (cd : Value) (A : Around) (outer : List Env) (s : Shared) (H : Hp) (E : XK) : Cx where
  prog := P
  w := w
  K := K
  mg := mg
  base := base
  A := A.deeper (envOfC qual scope s.heap.objs.size f cd)
  N := N
  s₀ := s
  H₀ := H
  env := envOfC qual scope s.heap.objs.size f cd
  outer := outer
  stack := envOfC qual scope s.heap.objs.size f cd :: outer
  ex := []
  calm := true
  fn := fun _ => true
  pn := []
  xe := fun e s' => wpAny (model P w) (A.deeper (envOfC qual scope s.heap.objs.size f cd)) (leaving (envOfC qual scope s.heap.objs.size f cd) e) (fun _ s'' => CX outer H s E e s'') (fun e' s'' => CX outer H s E e' s'') s'
theorem cell_has {sc : Scope} {n : Nat} {x : Str} (h : sc.names.lookup x = some .cell) : ∃ c, (cellsFrom n sc.names []).lookup x = some c := by
  have q := PySem.W.cellsFrom_some sc.names n [] (.inl h)
  exact Option.isSome_iff_exists.mp q
theorem inv_start {CX : CXT} {P : Program} {w : World} {K : Frag} {mg : Str -> Option Value} {base : Heap} {N ps : List Str} {qual : Str} {scope : Scope} {f : Addr} {cd : Value} {A : Around} {outer : List Env} {s s1 : Shared} {H : Hp} {E : XK} {us : List Value} {vs : List V}
    (S : FnScope N ps scope) (hd : A.handled = none) (e0 : Env0 P w K mg base A outer s H) (hl : vs.length = ps.length) (r : Vals vs us)
    (x : InCallC s s.heap.objs.size (bindL (envOfC qual scope s.heap.objs.size f cd).kindOf (ps.zip us) fun _ => none) (cellsFrom (s.heap.objs.size + 1) scope.names []) (bindC (envOfC qual scope s.heap.objs.size f cd).kindOf (ps.zip us) fun _ => none) s1) :
    Inv (cxOf CX P w K mg base N qual scope f cd A outer s H E) [] (start N vs) H s1 := by
  have hpl : ps.length <= N.length := by have := congrArg List.length S.pre; rw [List.length_take] at this; omega
  obtain ⟨h1, tk, rfl, hk⟩ := x.done
  have noA : ∀ b : Addr, b ∉ (cxOf CX P w K mg base N qual scope f cd A outer s H E).ex := fun b z => absurd (show b ∈ ([] : List Addr) from z) (by simp)
  refine ⟨⟨e0.mod, S.kind, rfl, rfl, Nat.le_refl _, fun y z c h1 h2 => ?_, fun y hy => ?_, fun y c _ h => ?_, fun _ => hd, Around.frames_deeper e0.frames, .inr ⟨rfl, rfl⟩, fun b z => absurd z (noA b), e0.bs, e0.bsz, fun b _ _ => noA b, fun b z => absurd z (noA b), e0.funs, e0.frf⟩,
    rfl, e0.bare, Un.kept hk, ⟨_, x.toInCall.ns, fun i y v h1 h2 h3 => ?_⟩, fun y c h => ⟨_, x.cell y c h⟩, e0.hok.fresh (Nat.le_refl _), fun y c h => ?_, fun p hp => absurd (show p ∈ ([] : List (Addr × Obj)) from hp) (by simp), e0.hok.kept hk, ?_⟩
  · exact name_of_addr x.apart (PySem.mem_of_lookup h1) (PySem.mem_of_lookup h2)
  · have hy : scope.names.lookup y = some .cell ∨ scope.names.lookup y = some .free := hy
    rcases hy with hy | hy
    · exact cell_has hy
    · exact absurd rfl (S.nofree _ (PySem.mem_of_lookup hy))
  · exact Nat.le_of_lt (x.above y c (PySem.mem_of_lookup h))
  · have hi : i < vs.length := by
      unfold start at h2
      by_cases hi : i < vs.length
      · exact hi
      · rw [List.getElem?_append_right (by simpa using hi)] at h2
        rw [List.getElem?_replicate] at h2
        split at h2 <;> cases h2
    have ha : vs[i]? = some v := by
      unfold start at h2
      rw [List.getElem?_append_left (by simpa using hi), List.getElem?_map] at h2
      cases e : vs[i]? with
      | none => rw [e] at h2; cases h2
      | some a => rw [e] at h2; cases h2; rfl
    obtain ⟨u, hu, rv⟩ := r.get ha
    have hp : ps[i]? = some y := by
      rw [<- S.pre, List.getElem?_take_of_lt (by omega)]; exact h1
    have ndP : ps.Nodup := by rw [<- S.pre]; exact S.nd.sublist (List.take_sublist _ _)
    refine ⟨u, rv, ?_⟩
    rcases S.par y (List.mem_of_getElem? hp) with k | k
    · exact .inl ⟨k, bindL_get ndP hp hu k⟩
    · obtain ⟨c, e⟩ := cell_has (n := s.heap.objs.size + 1) k
      refine .inr ⟨.inl k, c, e, ?_⟩
      have q := x.cell y c e
      rw [bindC_get ndP hp hu (by show scope.names.lookup y ≠ _; rw [k]; decide)] at q
      exact q
  · exact e0.hok.fresh (Nat.le_of_lt (x.above y c (PySem.mem_of_lookup h)))
  · unfold start
    show _ = N.length
    rw [List.length_append, List.length_map, List.length_replicate]
    omega
theorem fn_of {CX : CXT} {P : Program} {w : World} {K : Frag} {mg : Str -> Option Value} {base : Heap} {k : Nat} {f : Addr} {name qual : Str} {params : Arguments} {body : List Stmt} {scope : Scope} {dV kV doc pm cdv ct oc : Value} {an od : Option Addr}
    {osl : Array (Option Value)} {N ps : List Str} {sp : Sp} (lk : K.lookup f = some ⟨oc, od, .func (PySem.W.fnOf name qual params body scope dV kV doc pm an cdv ct), osl⟩) (hcd : PySem.W.codeIn K cdv qual = true) (S : FnScope N ps scope)
    (len : ∀ vs H Q E, sp vs H Q E -> vs.length = ps.length)
    (hbody : ∀ (A : Around) (outer : List Env) (s : Shared) (H : Hp) (vs : List V) (Q : VK) (E : XK), Room k (A.deeper (envOfC qual scope s.heap.objs.size f cdv)) -> sp vs H Q E ->
      ∃ t, PSs (cxOf CX P w K mg base N qual scope f cdv A outer s H E) body t /\ t { nx := fun _ H' => Q .non H', rt := Q } (start N vs) H) :
    FnOk P w K mg base CX (k + 1) f (PySem.W.fnOf name qual params body scope dV kV doc pm an cdv ct) ps sp := by
  refine ⟨len, fun A outer s H args us vs Q E hr e0 hb r hsp => ?_⟩
  have hl := len _ _ _ _ hsp
  have KX : K.In s.heap := e0.mod.kin.keeps fun b o e => (e0.bs b o e).1
  have lim : s.heap.NoLimit := e0.mod.nolimit.keeps fun b o e => (e0.bs b o e).1
  have hkind : ∀ y ∈ ps.zip us, scope.names.lookup y.1 = some .local ∨ (scope.names.lookup y.1 = some .cell /\ ((cellsFrom (s.heap.objs.size + 1) scope.names []).lookup y.1).isSome = true) := fun ⟨n, v⟩ hy => by
    rcases S.par n (List.of_mem_zip hy).1 with q | q
    · exact .inl q
    · exact .inr ⟨q, PySem.W.cellsFrom_some _ _ _ (.inl q)⟩
  refine codeAny_call_function hr.depth (KX _ _ lk) rfl S.co S.gen rfl (PySem.W.codeRec_of KX hcd) (hb _ _ _ _ ?_)
  refine wpAny_newFunctionEnv_cells S.kind hkind fun env he s1 x => ?_
  subst he
  refine ⟨lim.keeps x.toInCall.keep, codeAny_func ?_⟩
  obtain ⟨t, ht, hq⟩ := hbody A outer s H vs Q E (hr.deeper _) hsp
  have I : Inv (cxOf CX P w K mg base N qual scope f cdv A outer s H E) [] (start N vs) H s1 := inv_start S hr.hd e0 hl r x
  refine wpAny_mono (ht [] s1 (start N vs) H _ I hq) (fun fl s' hs => ?_) fun e s' hs => hs
  have fin : ∀ {σ' : St} {H' : Hp} {v : V} {u : Value}, Inv (cxOf CX P w K mg base N qual scope f cdv A outer s H E) [] σ' H' s' -> RelV v u -> Q v H' -> CE outer P w H s Q u s' :=
    fun {σ' H' v u} J rv q => ⟨v, H', J.os, J.bare, J.base, J.hok, rv, q⟩
  cases fl with
  | ret u =>
    obtain ⟨v, σ', H', J, rv, q⟩ := hs
    exact fin J rv q
  | next =>
    obtain ⟨σ', H', J, q⟩ := hs
    exact fin (v := V.non) (u := Value.none) J rfl q
  | brk =>
    obtain ⟨_, _, _, q⟩ := hs
    exact False.elim q
  | cont =>
    obtain ⟨_, _, _, q⟩ := hs
    exact False.elim q
section
variable {X : Cx} {x : Str} {p pos : Pos} {e : Expr} {es : List Expr} {t : TA} {id T : String} {r : List V -> Hp -> VK -> Prop}
def tCB (r : List V -> Hp -> VK -> Prop) (t : TA) : TE := fun σ H Q => t σ H fun vs H1 => r vs H1 Q
theorem pe_callB (hc : CallR X (.builtin id) r) (hg : Gl X x) (hm : X.mg x = none) (hv : bootBuiltins x = some (.builtin id)) (ha : PA X (e :: es) t) (hn : x ≠ "__name__" := by decide) (hdb : (x == ("__debug__" : Str)) = false := by decide)
    (he : starEach (e :: es) X.env = (false, eval e X.env) :: starEach es X.env := by rfl) (hpl : (backTo pos (starEach es X.env)).any (·.1) = false := by rfl) : PE X (.Call (.Name x p) (e :: es) [] pos) (tCB r t) := by
  intro pins s σ H Q I h
  refine wpAny_Call_Name_kw (ld_blt I hg hm hv ?_ hn hdb)
  exact PyProof.Rows.callWith_builtin1 (thn (ha pos pins s σ H _ I h) fun us s1 ⟨vs, H1, I1, r1, q1⟩ => hc pins s1 σ H1 vs us Q I1 r1 q1) he hpl
theorem pe_callTy (hc : CallR X (.type T) r) (hg : Gl X x) (hm : X.mg x = none) (hv : bootBuiltins x = some (.type T)) (ha : PA X (e :: es) t) (hn : x ≠ "__name__" := by decide) (hdb : (x == ("__debug__" : Str)) = false := by decide)
    (he : starEach (e :: es) X.env = (false, eval e X.env) :: starEach es X.env := by rfl) (hpl : (backTo pos (starEach es X.env)).any (·.1) = false := by rfl) : PE X (.Call (.Name x p) (e :: es) [] pos) (tCB r t) := by
  intro pins s σ H Q I h
  refine wpAny_Call_Name_kw (ld_blt I hg hm hv ?_ hn hdb)
  exact PyProof.Rows.callWith_type1 (thn (ha pos pins s σ H _ I h) fun us s1 ⟨vs, H1, I1, r1, q1⟩ => hc pins s1 σ H1 vs us Q I1 r1 q1) he hpl
end
end L2
namespace HT
open PySem PyProof.Rows
section
open PySem.SeqAt
open PySem.AutoSeq1 (wpAny_loadPart')
open PySem.MeetsSeq PySem.MeetsSeq2 PySem.MeetsSeq3
end
section
variable {prog : Program} {w : World} {A : Around} {E : Value -> Shared -> Prop} {s : Shared}
theorem cat_tup {t b : Addr} {vs ws : List Value} {Q : Value -> Shared -> Prop} (ht : IsTup s.heap t vs.toArray) (hb : IsTup s.heap b ws.toArray) (hv : vs ≠ [])
    (h1 : ws = [] -> Q (.ref t) s) (h2 : ws ≠ [] -> Q (.ref s.heap.objs.size) { s with heap := s.heap.push { cls := .type "tuple", data := .seq (vs ++ ws).toArray } })
    (hsz : vs.length + ws.length <= sizeLine) : wpAny (model prog w) A (binaryOp .Add (.ref t) (.ref b)) Q E s := by
  obtain ⟨⟨cls, dd, data, sl⟩, ho, hc, n, hd⟩ := id ht
  obtain ⟨⟨cls2, dd2, data2, sl2⟩, ho2, hc2, n2, hd2⟩ := id hb
  simp only at hc hd hc2 hd2
  subst hc hd hc2 hd2
  have e : vs.toArray ++ ws.toArray = (vs ++ ws).toArray := by simp
  by_cases hw : ws = []
  · exact concat_meets ⟨_, ho, rfl⟩ ⟨_, ho2, rfl⟩ noFill_tuple_add seq_tuple_add PySem.F.slot_tuple_add PySem.F.entry_tuple_add (PySem.F.args_tuple_add_2 _ _)
      (tuple_addW1 t b vs.toArray ws.toArray n n2 dd dd2 sl sl2 (by simpa using hv) (by simp [hw])) ⟨ho, ho2, h1 hw⟩
  · refine concat_meets ⟨_, ho, rfl⟩ ⟨_, ho2, rfl⟩ noFill_tuple_add seq_tuple_add PySem.F.slot_tuple_add PySem.F.entry_tuple_add (PySem.F.args_tuple_add_2 _ _)
      (tuple_addW2 t b vs.toArray ws.toArray n n2 dd dd2 sl sl2 (by simpa using hv) (by simpa using hw) (by rw [List.size_toArray, List.size_toArray]; exact hsz)) ⟨ho, ho2, ?_⟩
    rw [e]
    exact h2 hw
def sIx (n d : Nat) : Option Int -> Nat
  | none => d
  | some v => if v < 0 then (v + (n : Int)).toNat else min v.toNat n
theorem sIx_none (n d : Nat) : sIx n d none = d := rfl
theorem sIx_nat (n d k : Nat) : sIx n d (some (k : Int)) = min k n := by
  show (if (k : Int) < 0 then ((k : Int) + (n : Int)).toNat else min (k : Int).toNat n) = min k n
  rw [if_neg (by omega), Int.toNat_natCast]
theorem sIx_le (n d : Nat) (hd : d <= n) (o : Option Int) : sIx n d o <= n := by
  cases o with
  | none => exact hd
  | some v =>
    show (if v < 0 then (v + (n : Int)).toNat else min v.toNat n) <= n
    by_cases hv : v < 0
    · rw [if_pos hv]; omega
    · rw [if_neg hv]; exact Nat.min_le_right _ _
theorem clip_eq (v : Int) (n d : Nat) : (if v < 0 then max (v + (n : Int)) 0 else min v (n : Int)) = ((sIx n d (some v) : Nat) : Int) := by
  show (if v < 0 then max (v + (n : Int)) 0 else min v (n : Int)) = (((if v < 0 then (v + (n : Int)).toNat else min v.toNat n) : Nat) : Int)
  by_cases hv : v < 0
  · simp only [if_pos hv]; omega
  · simp only [if_neg hv]; omega
theorem adjust_gen (lo hi : Option Int) (n : Nat) : Builtin.Slice.sliceAdjust lo hi 1 (n : Int) = (((sIx n 0 lo : Nat) : Int), ((sIx n n hi : Nat) : Int)) := by
  have h1 : ¬ ((1 : Int) < 0) := by omega
  unfold Builtin.Slice.sliceAdjust
  simp only [h1, if_false]
  refine Prod.ext ?_ ?_
  · cases lo with
    | none => rfl
    | some v => exact clip_eq v n 0
  · cases hi with
    | none => rfl
    | some v => exact clip_eq v n n
theorem places_gen (i j : Nat) : Builtin.Slice.slicePlaces (i : Int) (j : Int) 1 = j - i := by
  unfold Builtin.Slice.slicePlaces
  have h1 : (1 : Int) > 0 := by omega
  simp only [h1, if_true, Int.ediv_one]
  split <;> omega
theorem slicePart_ {v : Value} {o : Option Int} {Q : Option Int -> Shared -> Prop} (p : IsPart v o) (h : Q o s) : wpAny (model prog w) A (Builtin.Slice.slicePartIndex v) Q E s := by
  cases p with
  | none => exact slicePart_none h
  | int i t => exact slicePart_int h
theorem sliceApplied_gen {sl : Addr} {vl vu : Value} {lo hi : Option Int} {n : Nat} {Q : Int × Int × Nat -> Shared -> Prop} (hs : s.heap.IsSliceOf sl vl vu .none) (pl : IsPart vl lo) (pu : IsPart vu hi)
    (h : Q (((sIx n 0 lo : Nat) : Int), 1, sIx n n hi - sIx n 0 lo) s) : wpAny (model prog w) A (Builtin.Slice.sliceApplied (.ref sl) (pure (n : Int))) Q E s := by
  obtain ⟨os, hos, hcs, hds⟩ := id hs
  unfold Builtin.Slice.sliceApplied Builtin.Slice.sliceFields
  refine wpAny_bind (wpAny_bind (wpAny_field hos hds (x := vl) rfl (wpAny_bind (wpAny_field hos hds (x := vu) rfl (wpAny_bind (wpAny_field hos hds (x := .none) rfl (wpAny_pure ?_)))))))
  refine wpAny_bind (slicePart_none ?_)
  show wpAny _ _ (if ((1 : Int) == 0) = true then _ else _) _ _ s
  rw [if_neg (by decide)]
  refine wpAny_bind (slicePart_ pl (wpAny_bind (slicePart_ pu (wpAny_bind (wpAny_pure ?_)))))
  show wpAny _ _ (match Builtin.Slice.sliceAdjust lo hi 1 (n : Int) with | (lo, hi) => pure (lo, (1 : Int), Builtin.Slice.slicePlaces lo hi 1)) _ _ s
  rw [adjust_gen lo hi n]
  show wpAny _ _ (pure (((sIx n 0 lo : Nat) : Int), (1 : Int), Builtin.Slice.slicePlaces ((sIx n 0 lo : Nat) : Int) ((sIx n n hi : Nat) : Int) 1)) _ _ s
  rw [places_gen]
  exact wpAny_pure h
theorem pick_gen (xs : Array Value) (i k : Nat) : ((List.range k).filterMap fun (m : Nat) => xs[((i : Int) + (m : Int) * 1).toNat]?).toArray = ((xs.toList.drop i).take k).toArray := by
  have e : (fun (m : Nat) => xs[((i : Int) + (m : Int) * 1).toNat]?) = fun m => xs[i + m]? := by
    funext m
    have : ((i : Int) + (m : Int) * 1).toNat = i + m := by omega
    rw [this]
  rw [e]
  have := pick_run xs i k
  rw [List.filterMap_map] at this
  have e2 : ((fun x => xs[x]?) ∘ fun x => i + x) = fun m => xs[i + m]? := rfl
  rw [e2] at this
  rw [this]
theorem getItem_tuple_cut {t sl : Addr} {items : Array Value} {vl vu : Value} {lo hi : Option Int} {Q : Value -> Shared -> Prop} (ht : IsTup s.heap t items) (hs : s.heap.IsSliceOf sl vl vu .none) (pl : IsPart vl lo) (pu : IsPart vu hi)
    (hw : ¬ (sIx items.size 0 lo = 0 /\ sIx items.size items.size hi = items.size))
    (h : Q (.ref s.heap.objs.size) { s with heap := s.heap.push { cls := .type "tuple", data := .seq ((items.toList.drop (sIx items.size 0 lo)).take (sIx items.size items.size hi - sIx items.size 0 lo)).toArray } })
    (hsz : items.size <= sizeLine) : wpAny (model prog w) A (getItem (.ref t) (.ref sl)) Q E s := by
  have htake : sizeOk (.seq ((items.toList.drop (sIx items.size 0 lo)).take (sIx items.size items.size hi - sIx items.size 0 lo)).toArray) := by
    show ((items.toList.drop (sIx items.size 0 lo)).take (sIx items.size items.size hi - sIx items.size 0 lo)).toArray.size <= sizeLine
    rw [List.size_toArray, List.length_take, List.length_drop, Array.length_toList]
    omega
  have hj : sIx items.size items.size hi <= items.size := sIx_le _ _ (Nat.le_refl _) hi
  obtain ⟨os, hos, hcs, hds⟩ := id hs
  have hTs : s.TypeIs (.ref sl) "slice" := ⟨os, hos, hcs⟩
  unfold getItem
  try with_reducible refine wpAny_holding ?_
  first | refine wpAny_bind (wpAny_pure ?_) | skip
  refine wpAny_bind (wpAny_sequenceKey ht.typeIs (by decide) ?_)
  refine wpAny_bind (wpAny_callSpecial?_slot (name := Str.ofString "__getitem__") ht.typeIs PyProof.Rows.slot_tuple_getitem
    (wpAny_call_entry PyProof.Rows.slot_tuple_getitem ht.typeIs entry_tuple_getitem ?_ (args_tuple_getitem _ _)))
  show wpAny _ _ (Builtin.Tuple.tupleItemsOf (.ref t) >>= _) _ _ s
  refine wpAny_bind (tupleItemsOf_ ht ?_)
  refine wpAny_bind (wpAny_typeOf hTs ?_)
  rw [if_pos (by decide)]
  refine wpAny_bind (sliceApplied_gen hs pl pu ?_)
  have hno : ¬ ((((sIx items.size 0 lo : Nat) : Int) == 0 && (1 : Int) == 1 && (sIx items.size items.size hi - sIx items.size 0 lo) == items.size) = true) := by
    intro q
    rw [Bool.and_eq_true, Bool.and_eq_true] at q
    have q1 : ((sIx items.size 0 lo : Nat) : Int) = 0 := eq_of_beq q.1.1
    have q2 : sIx items.size items.size hi - sIx items.size 0 lo = items.size := eq_of_beq q.2
    exact hw ⟨by omega, by omega⟩
  show wpAny _ _ (if (((sIx items.size 0 lo : Nat) : Int) == 0 && (1 : Int) == 1 && (sIx items.size items.size hi - sIx items.size 0 lo) == items.size) = true then _ else _) _ _ s
  rw [if_neg hno, pick_gen]
  first
    | exact wpAny_bind (m := Builtin.Tuple.tupleExact _) (wpAny_newObj_type (wpAny_pure ⟨_, rfl, wpAny_pure h⟩) htake)
    | exact wpAny_bind (m := Builtin.Tuple.tupleExact _) (wpAny_newObj_type (wpAny_bind (wpAny_pure (wpAny_pure ⟨_, rfl, wpAny_pure h⟩))) htake)
    | exact wpAny_bind (wpAny_bind (m := Builtin.Tuple.tupleExact _) (wpAny_newObj_type (wpAny_pure (wpAny_pure ⟨_, rfl, wpAny_pure h⟩)) htake))
    | exact wpAny_bind (wpAny_bind (m := Builtin.Tuple.tupleExact _) (wpAny_newObj_type (wpAny_pure ⟨_, rfl, wpAny_pure h⟩) htake))
end
end HT
namespace L2
open PySem PySem.Spec PyProof.Rows
abbrev TO := St -> Hp -> (Option Int -> Hp -> Prop) -> Prop
def PO (X : Cx) (e : Option Expr) (t : TO) : Prop :=
  ∀ (pins : List (Addr × Obj)) (s : Shared) (σ : St) (H : Hp) (Q : Option Int -> Hp -> Prop), Inv X pins σ H s -> t σ H Q ->
    wpAny (model X.prog X.w) X.A (evalPart e X.env) (fun u s' => ∃ o H', Inv X pins σ H' s' /\ IsPart u o /\ Q o H') X.xe s
def tNoPart : TO := fun _ H Q => Q none H
def tPart (t : TE) : TO := fun σ H Q => t σ H fun x H1 => ∃ i, x = .int i /\ Q (some i) H1
theorem intsAre_of {ns : List Int} : ∀ {us : List Value}, Vals (ns.map V.int) us -> IntsAre us ns := by
  induction ns with
  | nil => intro us r; rw [List.map_nil] at r; cases r; exact .nil
  | cons n ns ih =>
    intro us r
    rw [List.map_cons] at r
    cases r with
    | cons r1 r2 =>
      obtain ⟨t, e⟩ := r1
      subst e
      exact .cons n t (ih r2)
section
variable {X : Cx} {e : Expr} {te : TE} {lo hi : Option Expr} {tl th : TO} {pos p2 : Pos}
theorem po_none : PO X none tNoPart := by
  intro pins s σ H Q I h
  rw [evalPart_none]
  exact wpAny_pure ⟨none, H, I, .none, h⟩
theorem po_some (h : PE X e te) : PO X (some e) (tPart te) := by
  intro pins s σ H Q I hw
  rw [evalPart_some]
  refine thn (h pins s σ H _ I hw) fun u s1 ⟨x, H1, I1, r1, q1⟩ => ?_
  obtain ⟨i, rfl, q⟩ := q1
  obtain ⟨t, rfl⟩ := r1
  exact ⟨some i, H1, I1, .int i t, q⟩
def SlR (X : Cx) (r : V -> Option Int -> Option Int -> Hp -> VK -> Prop) : Prop :=
  ∀ (pins : List (Addr × Obj)) (s : Shared) (σ : St) (H : Hp) (x : V) (v vl vu : Value) (lo hi : Option Int) (sl : Addr) (Q : VK), Inv X pins σ H s -> RelV x v -> s.heap.IsSliceOf sl vl vu .none -> IsPart vl lo -> IsPart vu hi -> r x lo hi H Q ->
    ∃ T id, typeLookup (.type T) "__getitem__" = pure (some (.builtin id)) /\ s.TypeIs v T /\ wpAny (model X.prog X.w) X.A (getItem v (.ref sl)) (EP X pins σ Q) X.xe s
def tSl (r : V -> Option Int -> Option Int -> Hp -> VK -> Prop) (te : TE) (tl th : TO) : TE := fun σ H Q => te σ H fun x H1 => tl σ H1 fun l H2 => th σ H2 fun u H3 => r x l u H3 Q
theorem pe_slice {r : V -> Option Int -> Option Int -> Hp -> VK -> Prop} (hr : SlR X r) (he : PE X e te) (hl : PO X lo tl) (hu : PO X hi th) : PE X (.Subscript e (.Slice lo hi none p2) pos) (tSl r te tl th) := by
  intro pins s σ H Q I h
  refine Subscript_ (thn (he pins s σ H _ I h) fun v s1 ⟨x, H1, I1, r1, q1⟩ => ?_)
  refine wpAny_Slice (thn (hl pins s1 σ H1 _ I1 q1) fun vl s2 ⟨l, H2, I2, pl, q2⟩ => thn (hu pins s2 σ H2 _ I2 q2) fun vu s3 ⟨u, H3, I3, pu, q3⟩ => ?_)
  rw [evalPart_none]
  refine wpAny_pure ?_
  have I4 : Inv X pins σ H3 { s3 with heap := s3.heap.push { cls := .type "slice", data := .fields #[vl, vu, .none] } } := I3.kept (t' := s3.toks) fun b ob q => Heap.get?_push_of_some _ q
  obtain ⟨T, id, hT, ht, hg⟩ := hr pins { s3 with heap := s3.heap.push { cls := .type "slice", data := .fields #[vl, vu, .none] } } σ H3 x v vl vu l u s3.heap.objs.size Q I4 r1 (Heap.IsSliceOf.new ..) pl pu q3
  show wpAny (model X.prog X.w) X.A (subscriptTail e (.Slice lo hi none p2) v (.ref s3.heap.objs.size)) (EP X pins σ Q) X.xe { s3 with heap := s3.heap.push { cls := .type "slice", data := .fields #[vl, vu, .none] } }
  exact tail_any (ops := [.ref s3.heap.objs.size, v]) ht hT hg (by with_unfolding_all rfl)
def cutV (xs : List V) (lo hi : Option Int) : List V := (xs.drop (HT.sIx xs.length 0 lo)).take (HT.sIx xs.length xs.length hi - HT.sIx xs.length 0 lo)
theorem cutV_length (xs : List V) (lo hi : Option Int) : (cutV xs lo hi).length <= xs.length := by
  unfold cutV
  rw [List.length_take, List.length_drop]
  omega
def rSlT (K : Frag) : V -> Option Int -> Option Int -> Hp -> VK -> Prop := fun x lo hi H Q => ∃ a xs, x = .ref a /\ SqT K H a xs /\
  ¬ (HT.sIx xs.length 0 lo = 0 /\ HT.sIx xs.length xs.length hi = xs.length) /\ ∀ p, H p = none -> Q (.ref p) (upd H p (.tup (cutV xs lo hi)))
theorem sl_tup : SlR X (rSlT X.K) := by
  intro pins s σ H x v vl vu lo hi sl Q I rx hs pl pu h
  obtain ⟨a, xs, rfl, hx, hw, q⟩ := h
  cases rx
  obtain ⟨its, r, ht, hz⟩ := I.tuple hx
  have hlen : its.toArray.size = xs.length := by rw [List.size_toArray]; exact r.length.symm
  refine ⟨"tuple", _, PyProof.Rows.slot_tuple_getitem.lookup, ht.typeIs, ?_⟩
  refine HT.getItem_tuple_cut ht hs pl pu (by rw [hlen]; exact hw) ?_ (by rw [hlen]; exact hz)
  rw [hlen]
  refine ⟨.ref s.heap.objs.size, _, I.laid (t' := s.toks) (o := .tup (cutV xs lo hi)) (fun b ob q => Heap.get?_push_of_some _ q) (Nat.le_refl _) ?_, rfl, q _ (I.hok.fresh (Nat.le_refl _))⟩
  exact ⟨Nat.le_trans (cutV_length xs lo hi) hz, _, (r.drop (HT.sIx xs.length 0 lo)).take (HT.sIx xs.length xs.length hi - HT.sIx xs.length 0 lo), IsTup.new _ _⟩
def rCatT (K : Frag) : R2 := fun x y H Q => ∃ a b xs ys, x = .ref a /\ y = .ref b /\ SqT K H a xs /\ SqT K H b ys /\ xs ≠ [] /\ xs.length + ys.length <= sizeLine /\
  (ys = [] -> Q (.ref a) H) /\ (ys ≠ [] -> ∀ p, H p = none -> Q (.ref p) (upd H p (.tup (xs ++ ys))))
theorem Vals.nil_iff {xs : List V} {us : List Value} (r : Vals xs us) : us = [] ↔ xs = [] := by
  cases r with
  | nil => simp
  | cons _ _ => simp
theorem op_catT : OpR X (binaryOp .Add) (rCatT X.K) := by
  intro pins s σ H x y v u Q I rx ry h
  obtain ⟨a, b, xs, ys, rfl, rfl, ha, hb, hx, hz, q1, q2⟩ := h
  cases rx
  cases ry
  obtain ⟨its, r1, p1, _⟩ := I.tuple ha
  obtain ⟨its2, r2, p2, _⟩ := I.tuple hb
  refine HT.cat_tup p1 p2 (fun z => hx (r1.nil_iff.mp z)) (fun z => ⟨.ref a, H, I, rfl, q1 (r2.nil_iff.mp z)⟩) (fun z => ?_) (by rw [<- r1.length, <- r2.length]; exact hz)
  refine ⟨.ref s.heap.objs.size, _, I.laid (t' := s.toks) (o := .tup (xs ++ ys)) (fun b ob q => Heap.get?_push_of_some _ q) (Nat.le_refl _) ?_, rfl, q2 (fun w => z (r2.nil_iff.mpr w)) _ (I.hok.fresh (Nat.le_refl _))⟩
  exact ⟨by rw [List.length_append]; exact hz, _, r1.append r2, IsTup.new _ _⟩
end
def ixN (n : Nat) (i : Int) : Option Nat := if 0 <= i then (if i < n then some i.toNat else none) else if -(n : Int) <= i then some (i + n).toNat else none
def atI {α : Type} (xs : List α) (i : Int) : Option α := (ixN xs.length i).bind fun j => xs[j]?
theorem ixN_seq {n : Nat} {i : Int} {j : Nat} (h : ixN n i = some j) : seqIndex? i n = some j /\ j < n /\ -(n : Int) <= i /\ i < n := by
  unfold ixN at h
  by_cases h0 : 0 <= i
  · rw [if_pos h0] at h
    by_cases h1 : i < n
    · rw [if_pos h1] at h
      have e : i.toNat = j := Option.some.inj h
      exact ⟨by rw [seqIndex_of h0 h1, e], by omega, by omega, h1⟩
    · rw [if_neg h1] at h; cases h
  · rw [if_neg h0] at h
    by_cases h1 : -(n : Int) <= i
    · rw [if_pos h1] at h
      have e : (i + n).toNat = j := Option.some.inj h
      exact ⟨by rw [seqIndex_neg (by omega) h1, e], by omega, h1, by omega⟩
    · rw [if_neg h1] at h; cases h
theorem atI_get {α : Type} {xs : List α} {i : Int} {v : α} (h : atI xs i = some v) : ∃ j, seqIndex? i xs.length = some j /\ xs[j]? = some v /\ j < xs.length /\ -(xs.length : Int) <= i /\ i < xs.length := by
  unfold atI at h
  cases e : ixN xs.length i with
  | none => rw [e] at h; cases h
  | some j =>
    rw [e] at h
    obtain ⟨h1, h2, h3, h4⟩ := ixN_seq e
    exact ⟨j, h1, h, h2, h3, h4⟩
theorem atI_nat {α : Type} {xs : List α} {j : Nat} {v : α} (h : xs[j]? = some v) : atI xs (j : Int) = some v := by
  have hj : j < xs.length := (List.getElem?_eq_some_iff.mp h).1
  have e : ixN xs.length (j : Int) = some j := by
    unfold ixN
    rw [if_pos (by omega), if_pos (by omega)]; simp
  unfold atI; rw [e]; exact h
def PlainIx (b : Expr) : Prop := ∀ o i, subscripted b false o i = operate [o, i] (getItem o i)
def IxR (X : Cx) (r : R2) : Prop :=
  ∀ (value slice : Expr) (pins : List (Addr × Obj)) (s : Shared) (σ : St) (H : Hp) (x y : V) (v u : Value) (Q : VK), Inv X pins σ H s -> RelV x v -> RelV y u -> r x y H Q ->
    subscripted slice false v u = operate [v, u] (getItem v u) -> wpAny (model X.prog X.w) X.A (subscriptTail value slice v u) (EP X pins σ Q) X.xe s
def MtR (X : Cx) (id : String) (r : V -> List V -> Hp -> VK -> Prop) : Prop :=
  ∀ (pins : List (Addr × Obj)) (s : Shared) (σ : St) (H : Hp) (x : V) (xs : List V) (v : Value) (us : List Value) (Q : VK), Inv X pins σ H s -> RelV x v -> Vals xs us -> r x xs H Q ->
    wpAny (model X.prog X.w) X.A (call (.builtin id) (v :: us)) (EP X pins σ Q) X.xe s
section
variable {X : Cx} {a b : Expr} {ta tb : TE} {pos : Pos}
theorem pe_ix {r : R2} (hr : IxR X r) (ha : PE X a ta) (hb : PE X b tb) (hs : PlainIx b) : PE X (.Subscript a b pos) (tOp r ta tb) := by
  intro pins s σ H Q I h
  exact Subscript_ (binT ha hb I h fun v u s2 x y H2 I2 rx ry q => hr a b pins s2 σ H2 x y v u Q I2 rx ry q (hs _ _))
def rIxL (K : Frag) : R2 := fun x y H Q => ∃ p xs i v, x = .ref p /\ y = .int i /\ SqL K H p xs /\ atI xs i = some v /\ Q v H
def rIxT (K : Frag) : R2 := fun x y H Q => ∃ p xs i v, x = .ref p /\ y = .int i /\ SqT K H p xs /\ atI xs i = some v /\ Q v H
theorem ix_list : IxR X (rIxL X.K) := by
  intro value slice pins s σ H x y v u Q I rx ry h hs
  obtain ⟨p, xs, i, z, rfl, rfl, hq, he, q⟩ := h
  cases rx
  obtain ⟨t, rfl⟩ := ry
  obtain ⟨its, r, pl, hz⟩ := I.list hq
  obtain ⟨j, h1, h2, h3, h4, h5⟩ := atI_get he
  obtain ⟨w, ew, rw'⟩ := r.get h2
  have hl := r.length
  have hn := line63
  have fin : EP X pins σ Q w s := ⟨z, H, I, rw', q⟩
  by_cases h0 : 0 <= i
  · have hj : i.toNat = j := by
      rw [seqIndex_of h0 h5] at h1
      exact Option.some.inj h1
    exact item_listR pl.isList h0 (by omega) (by rw [hj]; simpa using ew) fin hs
  · have hj : (i + (its.toArray.size : Int)).toNat = j := by
      rw [seqIndex_neg (by omega) h4] at h1
      rw [List.size_toArray, <- hl]
      exact Option.some.inj h1
    exact subscriptTail_builtinR (x := w) pl.isList.typeIs slot_list_getitem.lookup
      (wpAny_getItem_list_neg (Q := fun r s' => r = w /\ EP X pins σ Q r s') pl.isList (by omega) (by rw [List.size_toArray] <;> omega) (by omega) (by rw [hj]; simpa using ew) ⟨rfl, fin⟩) hs
theorem ix_tup : IxR X (rIxT X.K) := by
  intro value slice pins s σ H x y v u Q I rx ry h hs
  obtain ⟨p, xs, i, z, rfl, rfl, hq, he, q⟩ := h
  cases rx
  obtain ⟨t, rfl⟩ := ry
  obtain ⟨its, r, pl, hz⟩ := I.tuple hq
  obtain ⟨j, h1, h2, h3, h4, h5⟩ := atI_get he
  obtain ⟨w, ew, rw'⟩ := r.get h2
  have hl := r.length
  have hn := line63
  have fin : EP X pins σ Q w s := ⟨z, H, I, rw', q⟩
  exact subscriptTail_builtinR (x := w) pl.typeIs slot_tuple_getitem.lookup
    (getItem_tuple (j := j) (Q := fun r s' => r = w /\ EP X pins σ Q r s') pl (by omega) (by omega) (by rw [List.size_toArray, <- hl]; exact h1) (by simpa using ew) ⟨rfl, fin⟩) hs
theorem mapSeq_set (its : List Value) (n j : Nat) (u : Value) : Obj.mapSeq (·.setIfInBounds j u) { cls := .type "list", data := .seq its.toArray n } = { cls := .type "list", data := .seq (its.set j u).toArray n } := by
  simp [Obj.mapSeq]
theorem Inv.lst {pins : List (Addr × Obj)} {σ : St} {H : Hp} {s : Shared} {p : Addr} {xs : List V} (I : Inv X pins σ H s) (h : H p = some (.lst xs)) :
    ∃ (its : List Value) (n : Nat), Vals xs its /\ s.heap.get? p = some { cls := .type "list", data := .seq its.toArray n } /\ xs.length <= sizeLine := by
  obtain ⟨z, its, n, r, e⟩ := I.hok p _ h
  exact ⟨its, n, r, e, z⟩
theorem Inv.lstUpd {pins : List (Addr × Obj)} {σ : St} {H : Hp} {s : Shared} {p : Addr} {xs ys : List V} {its its' : List Value} {n n' : Nat} {f : Obj -> Obj} (I : Inv X pins σ H s) (h : H p = some (.lst xs))
    (ho : s.heap.get? p = some { cls := .type "list", data := .seq its.toArray n }) (hf : f { cls := .type "list", data := .seq its.toArray n } = { cls := .type "list", data := .seq its'.toArray n' }) (r : Vals ys its') (hz : ys.length <= sizeLine) (t : Nat) :
    Inv X pins σ (upd H p (.lst ys)) { s with heap := s.heap.update p f, toks := t } := by
  have e : (s.heap.update p f).get? p = some { cls := .type "list", data := .seq its'.toArray n' } := by
    rw [Heap.get?_update_self f ho (by rw [hf] <;> rfl), hf]
  refine I.write (x := p) (e := p) (by rw [h]; trivial) (.inl rfl) (fun b u hb q => (Heap.get?_update_other _ _ (Ne.symm hb)).trans q) ⟨_, e⟩ ?_
  exact ⟨hz, its', n', r, e⟩
def rSetL : V -> V -> V -> Hp -> (Hp -> Prop) -> Prop := fun o i v H Q => ∃ p xs k j, o = .ref p /\ i = .int k /\ H p = some (.lst xs) /\ ixN xs.length k = some j /\ Q (upd H p (.lst (xs.set j v)))
theorem set_list : PSet X rSetL := by
  intro pins s σ H o i v ov iv u Q I ro ri rv h
  obtain ⟨p, xs, k, j, rfl, rfl, hp, hj, q⟩ := h
  cases ro
  obtain ⟨t, rfl⟩ := ri
  obtain ⟨its, n, r, ho, hz⟩ := I.lst hp
  obtain ⟨h1, h2, h3, h4⟩ := ixN_seq hj
  have hl := r.length
  have hn := line63
  have I' : Inv X pins σ (upd H p (.lst (xs.set j v))) { s with heap := s.heap.update p (Obj.mapSeq (·.setIfInBounds j u)) } :=
    I.lstUpd hp ho (mapSeq_set its n j u) (r.set rv j) (by rw [List.length_set]; exact hz) s.toks
  by_cases h0 : 0 <= k
  · have hk : k.toNat = j := by
      rw [seqIndex_of h0 h4] at h1
      exact Option.some.inj h1
    exact PySem.W.ki_setAt ho h0 (by omega) (by rw [List.size_toArray, <- hl]; exact h4) (by rw [hk]; exact ⟨_, I', q⟩)
  · have hk : (k + (its.toArray.size : Int)).toNat = j := by
      rw [seqIndex_neg (by omega) h3] at h1
      rw [List.size_toArray, <- hl]
      exact Option.some.inj h1
    exact PySem.W.ki_setBack ho (by omega) (by rw [List.size_toArray, <- hl]; exact h3) (by omega) (by rw [hk]; exact ⟨_, I', q⟩)
theorem slice_bounds (lo hi : Option Int) (n : Nat) : (sliceBounds lo hi none n).1 = ((HT.sIx n 0 lo : Nat) : Int) /\ (sliceBounds lo hi none n).2.1 = ((HT.sIx n n hi : Nat) : Int) /\ (sliceBounds lo hi none n).2.2 = 1 := by
  refine ⟨?_, ?_, rfl⟩
  · cases lo with
    | none => simp [sliceBounds, HT.sIx]
    | some i =>
      simp only [sliceBounds, HT.sIx, Option.getD_none, show (1 : Int) > 0 by decide, if_true]
      by_cases h : i < 0
      · simp only [h, if_true] <;> omega
      · simp only [h, if_false] <;> omega
  · cases hi with
    | none => simp [sliceBounds, HT.sIx]
    | some i =>
      simp only [sliceBounds, HT.sIx, Option.getD_none, show (1 : Int) > 0 by decide, if_true]
      by_cases h : i < 0
      · simp only [h, if_true] <;> omega
      · simp only [h, if_false] <;> omega
theorem slicePick_cut (its : List Value) (lo hi : Option Int) : slicePick its.toArray lo hi none = ((its.drop (HT.sIx its.length 0 lo)).take (HT.sIx its.length its.length hi - HT.sIx its.length 0 lo)).toArray := by
  obtain ⟨h1, h2, h3⟩ := slice_bounds lo hi its.toArray.size
  unfold slicePick
  rw [h1, h2, h3]
  simp only [sliceRange_one, pick_run, List.size_toArray] <;> rfl
def rSlL (K : Frag) : V -> Option Int -> Option Int -> Hp -> VK -> Prop := fun x lo hi H Q => ∃ a xs, x = .ref a /\ SqL K H a xs /\ ∀ p, H p = none -> Q (.ref p) (upd H p (.lst (cutV xs lo hi)))
theorem sl_list : SlR X (rSlL X.K) := by
  intro pins s σ H x v vl vu lo hi sl Q I rx hs pl pu h
  obtain ⟨a, xs, rfl, hx, q⟩ := h
  cases rx
  obtain ⟨its, r, ht, hz⟩ := I.list hx
  have hlen := r.length
  refine ⟨"list", _, slot_list_getitem.lookup, ht.isList.typeIs, ?_⟩
  refine wpAny_getItem_list_slice ht.isList hs pl pu .none (by simp) ?_ (by rw [List.size_toArray] <;> omega)
  rw [slicePick_cut, <- hlen]
  refine ⟨.ref s.heap.objs.size, _, I.laid (t' := s.toks) (o := .lst (cutV xs lo hi)) (fun b ob q => Heap.get?_push_of_some _ q) (Nat.le_refl _) ?_, rfl, q _ (I.hok.fresh (Nat.le_refl _))⟩
  exact ⟨Nat.le_trans (cutV_length xs lo hi) hz, _, 0, (r.drop (HT.sIx xs.length 0 lo)).take (HT.sIx xs.length xs.length hi - HT.sIx xs.length 0 lo), Heap.get?_push_size _ rfl⟩
def flatV : V -> Bool
  | .non => true
  | .bl _ => true
  | .int _ => true
  | .str _ => true
  | _ => false
def eqV : V -> V -> Bool
  | .non, .non => true
  | .bl a, .bl b => a == b
  | .bl a, .int b => (if a then 1 else 0) == b
  | .int a, .bl b => a == (if b then 1 else 0)
  | .int a, .int b => a == b
  | .str a, .str b => a == b
  | _, _ => false
theorem eqAt_V {A : Around} {s : Shared} {y x : V} {u v : Value} (ry : RelV y u) (rx : RelV x v) (fy : flatV y = true) (fx : flatV x = true) : SeqAt.EqAt A s u v (eqV y x) := by
  cases y with
  | non =>
    cases ry
    cases x with
    | non => cases rx; exact SeqAt.EqAt.same _
    | bl b => cases rx; exact SeqAt.EqAt.none_bool b
    | int b => obtain ⟨t, rfl⟩ := rx; exact SeqAt.EqAt.none_int b t
    | str b => obtain ⟨t, rfl⟩ := rx; exact SeqAt.EqAt.none_str b t
    | _ => exact absurd (show false = true from fx) Bool.false_ne_true
  | bl a =>
    cases ry
    cases x with
    | non => cases rx; exact SeqAt.EqAt.bool_none a
    | bl b => cases rx; exact SeqAt.EqAt.bool_bool a b
    | int b => obtain ⟨t, rfl⟩ := rx; exact SeqAt.EqAt.bool_int a b t
    | str b => obtain ⟨t, rfl⟩ := rx; exact SeqAt.EqAt.bool_str a b t
    | _ => exact absurd (show false = true from fx) Bool.false_ne_true
  | int a =>
    obtain ⟨t', rfl⟩ := ry
    cases x with
    | non => cases rx; exact SeqAt.EqAt.int_none a t'
    | bl b => cases rx; exact SeqAt.EqAt.int_bool a t' b
    | int b => obtain ⟨t, rfl⟩ := rx; exact SeqAt.EqAt.int_int a t' b t
    | str b => obtain ⟨t, rfl⟩ := rx; exact SeqAt.EqAt.int_str a t' b t
    | _ => exact absurd (show false = true from fx) Bool.false_ne_true
  | str a =>
    obtain ⟨t', rfl⟩ := ry
    cases x with
    | non => cases rx; exact SeqAt.EqAt.str_none a t'
    | bl b => cases rx; exact SeqAt.EqAt.str_bool a t' b
    | int b => obtain ⟨t, rfl⟩ := rx; exact SeqAt.EqAt.str_int a t' b t
    | str b => obtain ⟨t, rfl⟩ := rx; exact SeqAt.EqAt.str_str a t' b t
    | _ => exact absurd (show false = true from fx) Bool.false_ne_true
  | _ => exact absurd (show false = true from fy) Bool.false_ne_true
def eqU (x : V) (u : Value) : Bool := match u with
  | .none => eqV .non x
  | .bool b => eqV (.bl b) x
  | .int i _ => eqV (.int i) x
  | .str z _ => eqV (.str z) x
  | _ => false
theorem eqU_of {x y : V} {u : Value} (r : RelV y u) (f : flatV y = true) : eqU x u = eqV y x := by
  cases y with
  | non => cases r; rfl
  | bl b => cases r; rfl
  | int i => obtain ⟨t, rfl⟩ := r; rfl
  | str z => obtain ⟨t, rfl⟩ := r; rfl
  | _ => exact absurd (show false = true from f) Bool.false_ne_true
theorem any_eqU {x : V} : ∀ {xs : List V} {us : List Value}, Vals xs us -> xs.all flatV = true -> us.any (eqU x) = xs.any fun y => eqV y x
  | _, _, .nil, _ => rfl
  | y :: xs, u :: us, .cons r t, f => by
    rw [List.all_cons, Bool.and_eq_true] at f
    rw [List.any_cons, List.any_cons, eqU_of r f.1, any_eqU t f.2]
theorem mem_eqAt {A : Around} {s : Shared} {x : V} {v : Value} (rx : RelV x v) (fx : flatV x = true) : ∀ {xs : List V} {us : List Value}, Vals xs us -> xs.all flatV = true -> ∀ u ∈ us, SeqAt.EqAt A s u v (eqU x u)
  | _, _, .nil, _ => fun u hu => by cases hu
  | y :: xs, u :: us, .cons r t, f => fun u' hu => by
    rw [List.all_cons, Bool.and_eq_true] at f
    rcases List.mem_cons.mp hu with rfl | hu
    · rw [eqU_of r f.1]; exact eqAt_V r rx f.1 fx
    · exact mem_eqAt rx fx t f.2 u' hu
def inV (x : V) (xs : List V) : Bool := xs.any fun y => eqV y x
def rIn (K : Frag) (neg : Bool) : R2 := fun x y H Q => ∃ p xs, y = .ref p /\ (SqL K H p xs ∨ SqT K H p xs) /\ flatV x = true /\ xs.all flatV = true /\ Q (.bl (if neg then !inV x xs else inV x xs)) H
theorem op_in_seq : OpR X (compareOp .In) (rIn X.K false) := by
  intro pins s σ H x y v u Q I rx ry h
  obtain ⟨p, xs, rfl, hq, fx, fs, q⟩ := h
  cases ry
  rcases hq with hq | hq
  · obtain ⟨its, r, pl, hz⟩ := I.list hq
    refine SeqAt.in_listAt (eqU x) pl.isList (fun w hw => mem_eqAt rx fx r fs w (by simpa using hw)) ⟨.bl _, H, I, rfl, ?_⟩
    rw [show its.toArray.any (eqU x) = its.any (eqU x) by simp, any_eqU r fs]
    exact q
  · obtain ⟨its, r, pl, hz⟩ := I.tuple hq
    refine SeqAt.in_tupleAt (eqU x) pl (fun w hw => mem_eqAt rx fx r fs w (by simpa using hw)) ⟨.bl _, H, I, rfl, ?_⟩
    rw [show its.toArray.any (eqU x) = its.any (eqU x) by simp, any_eqU r fs]
    exact q
theorem call_len_seq : CallR X (.builtin "len") (fun xs H Q => ∃ p ys, xs = [.ref p] /\ (SqL X.K H p ys ∨ SqT X.K H p ys) /\ Q (.int ys.length) H) := by
  intro pins s σ H xs us Q I r h
  obtain ⟨p, ys, rfl, hq, q⟩ := h
  obtain ⟨u, rfl, rx⟩ := vals1 r
  cases rx
  have hn := line63
  rcases hq with hq | hq
  · obtain ⟨its, r', pl, hz⟩ := I.list hq
    have hlen := r'.length
    exact Calls.call_len_list pl.isList (by simp only [List.size_toArray] <;> omega) ⟨.int ys.length, H, I.tok _, ⟨s.toks + 1, by rw [List.size_toArray, hlen]⟩, q⟩
  · obtain ⟨its, r', pl, hz⟩ := I.tuple hq
    have hlen := r'.length
    exact len_tuple pl (by simp only [List.size_toArray] <;> omega) ⟨.int ys.length, H, I.tok _, ⟨s.toks + 1, by rw [List.size_toArray, hlen]⟩, q⟩
theorem call_tuple_of : CallR X (.type "tuple") (fun xs H Q => ∃ p ys, xs = [.ref p] /\ ((SqL X.K H p ys /\ ∀ l, H l = none -> Q (.ref l) (upd H l (.tup ys))) ∨ (SqT X.K H p ys /\ Q (.ref p) H))) := by
  intro pins s σ H xs us Q I r h
  obtain ⟨p, ys, rfl, h⟩ := h
  obtain ⟨u, rfl, rx⟩ := vals1 r
  cases rx
  rcases h with ⟨hq, q⟩ | ⟨hq, q⟩
  · obtain ⟨its, r', pl, hz⟩ := I.list hq
    have hlen := r'.length
    refine call_tuple_list pl.isList (fun h' kp => ?_) (by simp only [List.size_toArray] <;> omega)
    have I1 : Inv X pins σ H { s with heap := h' } := I.kept (t' := s.toks) kp
    have I2 : Inv X pins σ (upd H h'.objs.size (.tup ys)) { s with heap := h'.push { cls := .type "tuple", data := .seq its.toArray } } :=
      I1.laid (t' := s.toks) (fun b o e => Heap.get?_push_of_some _ e) (Nat.le_refl _) (show ObjOk X.prog X.w _ _ _ (.tup ys) from ⟨hz, its, r', IsTup.new _ _⟩)
    exact ⟨.ref h'.objs.size, _, I2, rfl, q _ (I1.hok.fresh (Nat.le_refl _))⟩
  · obtain ⟨its, r', pl, hz⟩ := I.tuple hq
    exact call_tuple_same pl ⟨.ref p, H, I, rfl, q⟩
def tyV (K : Frag) (T : String) (x : V) (H : Hp) : Prop := match x with
  | .str _ => T = "str"
  | .int _ => T = "int"
  | .ref p => (T = "list" /\ ∃ xs, SqL K H p xs) ∨ (T = "tuple" /\ ∃ o, K.lookup p = some o /\ o.cls = .type "tuple" /\ o.dict = none) ∨
      (T = "dict" /\ ((∃ kvs, H p = some (.dK kvs)) ∨ ∃ kvs, H p = some (.dT kvs))) ∨ (T = "set" /\ ∃ S n, H p = some (.set S n))
  | _ => False
theorem tyV_is {pins : List (Addr × Obj)} {σ : St} {H : Hp} {s : Shared} {T : String} {x : V} {v : Value} (I : Inv X pins σ H s) (r : RelV x v) (ty : tyV X.K T x H) :
    s.TypeIs v T /\ ∀ a, v = .ref a -> ∃ ob, s.heap.get? a = some ob /\ ob.dict = none := by
  cases x with
  | str z =>
    obtain ⟨t, rfl⟩ := r
    cases (show T = "str" from ty)
    exact ⟨typeIs_str s z t, fun _ e => nomatch e⟩
  | int i =>
    obtain ⟨t, rfl⟩ := r
    cases (show T = "int" from ty)
    exact ⟨typeIs_int s i t, fun _ e => nomatch e⟩
  | ref p =>
    cases r
    rcases ty with ⟨rfl, xs, hq⟩ | ⟨rfl, o, hk, hc, hd⟩ | ⟨rfl, hk⟩ | ⟨rfl, S, n, hk⟩
    · obtain ⟨its, _, pl, _⟩ := I.list hq
      refine ⟨pl.isList.typeIs, fun a e => ?_⟩
      cases e
      obtain ⟨o, n, e, c, hd, _⟩ := pl
      exact ⟨o, e, hd⟩
    · refine ⟨⟨o, I.kIn p o hk, hc⟩, fun a e => ?_⟩
      cases e
      exact ⟨o, I.kIn _ o hk, hd⟩
    · have z : ∃ o, s.heap.get? p = some o /\ o.ExactDict := by
        rcases hk with ⟨kvs, hk⟩ | ⟨kvs, hk⟩
        · obtain ⟨_, _, _, _, o, _, _, e, ex, _⟩ := I.hok p _ hk
          exact ⟨o, e, ex⟩
        · obtain ⟨_, _, _, _, o, _, _, e, ex, _⟩ := I.hok p _ hk
          exact ⟨o, e, ex⟩
      obtain ⟨o, e, ex⟩ := z
      refine ⟨⟨o, e, ex.1⟩, fun a e2 => ?_⟩
      cases e2
      exact ⟨o, e, ex.2.1⟩
    · obtain ⟨o, _, _, _, e, ex, _⟩ := I.hok p _ hk
      refine ⟨⟨o, e, ex.1⟩, fun a e2 => ?_⟩
      cases e2
      exact ⟨o, e, ex.2.1⟩
  | _ => exact False.elim ty
def tBM (K : Frag) (T : String) (r : V -> List V -> Hp -> VK -> Prop) (to : TE) (t : TA) : TE := fun σ H Q => to σ H fun x H1 => tyV K T x H1 /\ t σ H1 fun xs H2 => r x xs H2 Q
variable {o e : Expr} {es : List Expr} {to : TE} {t : TA} {name : Str} {apos cpos : Pos} {T id : String} {r : V -> List V -> Hp -> VK -> Prop}
theorem pe_bm (pa : PlainAttrs T) (slot : Slot T name id) (hty : typeOf (.builtin id) = pure (.type "method_descriptor")) (hm : MtR X id r) (ho : PE X o to) (ha : PA X (e :: es) t)
    (hbase : attributeBase o name X.env (eval o X.env) = eval o X.env := by rfl)
    (hfew : ((backTo cpos (starEach (e :: es) X.env)).all (fun x => !x.1) && (backToKw cpos (keywordEach [] X.env)).all (fun x => x.1.isSome)
      && decide ((e :: es).length + ([] : List Keyword).length + (if ([] : List Keyword).isEmpty then 0 else 1) < 30)) = true := by rfl)
    (hline : (apos.endLine == cpos.line) = true := by rfl) (hs : starEach (e :: es) X.env = (false, eval e X.env) :: starEach es X.env := by rfl) (hplain : (backTo cpos (starEach es X.env)).any (·.1) = false := by rfl) :
    PE X (.Call (.Attribute o name apos) (e :: es) [] cpos) (tBM X.K T r to t) := by
  intro pins s σ H Q I h
  refine wpAny_Call_method_late hbase hfew hline rfl (thn (ho pins s σ H _ I h) fun v s1 ⟨x, H1, I1, r1, ty, q1⟩ => ?_)
  obtain ⟨h1, h2⟩ := tyV_is I1 r1 ty
  refine ⟨T, id, pa, slot, hty, h1, h2, ?_⟩
  have hA := ha cpos pins s1 σ H1 _ I1 q1
  rw [hs] at hA ⊢
  refine Calls.callWith_builtin (by show (false || (backTo cpos (starEach es X.env)).any (·.1)) = false; rw [hplain] <;> rfl) (Calls.evalArgs_plain ?_)
  exact thn hA fun us s2 ⟨vs, H2, I2, r2, q2⟩ => hm pins s2 σ H2 x vs v us Q I2 r1 r2 q2
end
def MtM (X : Cx) (id : String) (r : V -> List V -> Hp -> VK -> Prop) : Prop :=
  ∀ (pins : List (Addr × Obj)) (s : Shared) (σ : St) (H : Hp) (x : V) (xs : List V) (v : Value) (us : List Value) (Q : VK), Inv X pins σ H s -> RelV x v -> Vals xs us -> r x xs H Q ->
    wpAny (model X.prog X.w) X.A (call (.builtin id) (v :: us)) (EP X pins σ Q) X.xe s
theorem Vals.one : ∀ {x : V} {us : List Value}, Vals [x] us -> ∃ u, us = [u] /\ RelV x u
  | _, _, .cons r .nil => ⟨_, rfl, r⟩
theorem Vals.two : ∀ {x y : V} {us : List Value}, Vals [x, y] us -> ∃ u v, us = [u, v] /\ RelV x u /\ RelV y v
  | _, _, _, .cons r (.cons q .nil) => ⟨_, _, rfl, r, q⟩
theorem Vals.eraseIdx : ∀ {xs : List V} {us : List Value} (i : Nat), Vals xs us -> Vals (xs.eraseIdx i) (us.eraseIdx i)
  | _, _, _, .nil => .nil
  | _, _, 0, .cons _ t => t
  | _, _, i + 1, .cons r t => .cons r (Vals.eraseIdx i t)
theorem Vals.reverse {xs : List V} {us : List Value} (h : Vals xs us) : Vals xs.reverse us.reverse := by
  induction h with
  | nil => exact .nil
  | cons r t ih => rw [List.reverse_cons, List.reverse_cons]; exact Vals.append ih (.cons r .nil)
theorem Vals.rep {xs : List V} {us : List Value} (h : Vals xs us) : ∀ k : Nat, Vals (List.replicate k xs).flatten (List.replicate k us).flatten
  | 0 => .nil
  | k + 1 => by
    rw [List.replicate_succ, List.replicate_succ, List.flatten_cons, List.flatten_cons]
    exact Vals.append h (Vals.rep h k)
theorem len_erase {α : Type} : ∀ (l : List α) (i : Nat), (l.eraseIdx i).length <= l.length
  | [], _ => Nat.le_refl _
  | _ :: _, 0 => Nat.le_succ _
  | _ :: r, i + 1 => Nat.succ_le_succ (len_erase r i)
theorem foldl_rep (its : List Value) : ∀ (k : Nat) (acc : List Value),
    List.foldl (fun x1 x2 => x1 ++ x2) acc.toArray (List.replicate k its.toArray) = (acc ++ (List.replicate k its).flatten).toArray
  | 0, acc => by simp
  | k + 1, acc => by
    have e : acc.toArray ++ its.toArray = (acc ++ its).toArray := by simp
    have e2 : (acc ++ its) ++ (List.replicate k its).flatten = acc ++ (List.replicate (k + 1) its).flatten := by
      rw [List.replicate_succ, List.flatten_cons, List.append_assoc]
    rw [<- e2, <- foldl_rep its k (acc ++ its), <- e, List.replicate_succ, List.foldl_cons]
section
variable {X : Cx} {pins : List (Addr × Obj)} {σ : St} {H : Hp} {s : Shared} {l b : Addr} {xs ys zs : List V}
theorem Inv.lset {its its' : List Value} {n : Nat} {f : Array Value -> Array Value} {t' : Nat} (I : Inv X pins σ H s) (hH : H l = some (.lst xs))
    (e : s.heap.get? l = some { cls := .type "list", data := .seq its.toArray n }) (hf : f its.toArray = its'.toArray) (hv : Vals ys its') (hz : ys.length <= sizeLine) :
    Inv X pins σ (upd H l (.lst ys)) { s with heap := s.heap.update l (Obj.mapSeq f), toks := t' } := by
  have q := PySem.IsL.update e f
  rw [hf] at q
  refine I.write (x := l) (e := l) (by rw [hH]; exact trivial) (.inl rfl) (fun b' u hb hu => (Heap.get?_update_other s.heap (Obj.mapSeq f) (Ne.symm hb)).trans hu) ⟨_, q⟩ ?_
  exact ⟨hz, its', _, hv, q⟩
theorem Inv.lnew {its : List Value} {t' : Nat} (I : Inv X pins σ H s) (hv : Vals ys its) (hz : ys.length <= sizeLine) :
    Inv X pins σ (upd H s.heap.objs.size (.lst ys)) { s with heap := s.heap.push { cls := .type "list", data := .seq its.toArray }, toks := t' } :=
  I.laid (fun _ _ q => Heap.get?_push_of_some _ q) (Nat.le_refl _) ⟨hz, its, 0, hv, Heap.get?_push_size _ rfl⟩
theorem Inv.fresh (I : Inv X pins σ H s) : H s.heap.objs.size = none := I.hok.fresh (Nat.le_refl _)
theorem Inv.lstM (I : Inv X pins σ H s) (hH : H l = some (.lst xs)) : xs.length <= sizeLine /\ ∃ (its : List Value) (n : Nat), Vals xs its /\ xs.length = its.length /\ s.heap.get? l = some { cls := .type "list", data := .seq its.toArray n } := by
  obtain ⟨z, its, n, r, e⟩ := I.hok l _ hH
  exact ⟨z, its, n, r, r.length, e⟩
theorem notLongL {n : Nat} (h : n <= sizeLine) : Builtin.List.listTooLong n = false := by
  unfold Builtin.List.listTooLong
  exact decide_eq_false (by omega)
end
section
variable {X : Cx}
def rAppend : V -> List V -> Hp -> VK -> Prop := fun x vs H Q => ∃ l xs y, x = .ref l /\ vs = [y] /\ H l = some (.lst xs) /\ xs.length < sizeLine /\ Q .non (upd H l (.lst (xs ++ [y])))
theorem mt_append : MtM X "list.append" rAppend := by
  intro pins s σ H x vs v us Q I rx rv h
  obtain ⟨l, xs, y, rfl, rfl, hH, hz, q⟩ := h
  cases rx
  obtain ⟨u, rfl, ru⟩ := rv.one
  obtain ⟨z, its, n, r, hl, e⟩ := I.lstM hH
  refine call_meets F.slot_list_append ⟨_, e, rfl⟩ F.entry_list_append (F.args_list_append_2 _ _) (PySem.list_append l its.toArray n u (by rw [List.size_toArray]; omega)) ⟨e, ?_⟩
  refine ⟨.non, _, I.lset (its' := its ++ [u]) hH e (by simp) (r.append (.cons ru .nil)) ?_, rfl, q⟩
  rw [List.length_append, List.length_singleton]
  omega
def rPopAt : V -> List V -> Hp -> VK -> Prop := fun x vs H Q => ∃ l xs i k y, x = .ref l /\ vs = [.int i] /\ H l = some (.lst xs) /\ -(2 ^ 63) <= i /\ i < 2 ^ 63 /\ seqIndex? i xs.length = some k /\ xs[k]? = some y /\ Q y (upd H l (.lst (xs.eraseIdx k)))
theorem mt_popAt : MtM X "list.pop" rPopAt := by
  intro pins s σ H x vs v us Q I rx rv h
  obtain ⟨l, xs, i, k, y, rfl, rfl, hH, h1, h2, hk, hy, q⟩ := h
  cases rx
  obtain ⟨u, rfl, ru⟩ := rv.one
  obtain ⟨t, rfl⟩ := ru
  obtain ⟨z, its, n, r, hl, e⟩ := I.lstM hH
  obtain ⟨w, hw, rw'⟩ := r.get hy
  refine call_meets F.slot_list_pop ⟨_, e, rfl⟩ F.entry_list_pop (F.args_list_pop_2 _ _)
    (MeetsSeq.list_pop_at l its.toArray n i t k w (fitsIndex_both h1 h2) (by rw [List.size_toArray, <- hl]; exact hk) (by rw [<- Array.getElem?_toList]; exact hw) (by rw [List.size_toArray]; omega)) ⟨e, ?_⟩
  refine ⟨y, _, I.lset (its' := its.eraseIdx k) hH e ?_ (r.eraseIdx k) ?_, rw', q⟩
  · show its.toArray.eraseIdxIfInBounds k = (its.eraseIdx k).toArray
    rw [List.eraseIdxIfInBounds_toArray]
  · have := len_erase xs k
    omega
def rRep : R2 := fun x y H Q => ∃ l k xs, x = .ref l /\ y = .int k /\ H l = some (.lst xs) /\ -(2 ^ 63) <= k /\ k < 2 ^ 63 /\ xs.length * k.toNat <= sizeLine /\
  ∀ p, H p = none -> Q (.ref p) (upd H p (.lst (List.replicate k.toNat xs).flatten))
theorem len_rep {α : Type} (xs : List α) (k : Nat) : (List.replicate k xs).flatten.length = k * xs.length := by
  induction k with
  | zero => simp
  | succ k ih => rw [List.replicate_succ, List.flatten_cons, List.length_append, ih, Nat.succ_mul, Nat.add_comm]
theorem op_rep : OpR X (binaryOp .Mult) rRep := by
  intro pins s σ H x y v u Q I rx ry h
  obtain ⟨l, k, xs, rfl, rfl, hH, h1, h2, hz, q⟩ := h
  cases rx
  obtain ⟨t, rfl⟩ := ry
  obtain ⟨z, its, n, r, hl, e⟩ := I.lstM hH
  have hlen : its.toArray.size * k.toNat <= sizeLine := by rw [List.size_toArray, <- hl]; exact hz
  have hcap : ¬ its.toArray.size * k.toNat > (2 ^ 63 - 1) / 8 := by
    have : (sizeLine : Nat) <= (2 ^ 63 - 1) / 8 := by decide
    omega
  have hfit : ¬ (!Builtin.List.listFitsIndex k) = true := by
    rw [fitsIndex_both h1 h2]
    exact Bool.false_ne_true
  have hlong : ¬ Builtin.List.listTooLong (its.toArray.size * k.toNat) = true := by
    rw [notLongL hlen]
    exact Bool.false_ne_true
  have hnew : List.foldl (fun x1 x2 => x1 ++ x2) #[] (List.replicate (if its.toArray.isEmpty = true then 0 else k.toNat) its.toArray) = (List.replicate k.toNat its).flatten.toArray := by
    have f0 : ∀ m : Nat, List.foldl (fun x1 x2 => x1 ++ x2) #[] (List.replicate m its.toArray) = (List.replicate m its).flatten.toArray := fun m => by
      have := foldl_rep its m []
      rw [List.nil_append] at this
      exact this
    rw [f0]
    cases its with
    | nil => simp
    | cons a r' => rw [if_neg (by simp)]
  refine wpAny_binaryOp_repeat_ref (T := "list") (U := "int") (by decide) ⟨_, e, rfl⟩ (fun s' => typeIs_int s' k t) noFill_list_mul F.fills_int_mul F.slot_int_rmul repeat_list F.slot_int_index.lookup
    (call_meets F.slot_int_rmul (typeIs_int s k t) F.entry_int_rmul (F.args_int_rmul_2 _ _) (int___rmul___int_list k t l its.toArray n)
      ⟨e, rfl, ⟨_, e, rfl⟩, call_meets F.slot_list_mul ⟨_, e, rfl⟩ F.entry_list_mul (F.args_list_mul_2 _ _) (AutoListH.list___mul___list_int_3 l its.toArray n k t hfit hcap hlong) ⟨e, ?_⟩⟩)
  rw [hnew]
  exact ⟨.ref _, _, I.lnew (t' := s.toks) (r.rep k.toNat) (by rw [len_rep, Nat.mul_comm]; exact hz), rfl, q _ I.fresh⟩
end
section
variable {prog : Program} {w : World} {A : Around} {E : Value -> Shared -> Prop} {s : Shared}
end
section
variable {X : Cx}
end
end L2
namespace Att
open PySem PySem.W PySem.Calls PyProof.Rows
theorem ints_of_wellAll {P : Params} {h : Heap} : ∀ (ns : List Int) (vs : List Value), WellAll P h vs (ns.map WData.int) -> IntsAre vs ns := by
  intro ns
  induction ns with
  | nil =>
    intro vs w
    rw [List.map_nil] at w
    cases w
    exact .nil
  | cons n ns ih =>
    intro vs w
    rw [List.map_cons] at w
    cases w with
    | cons a b =>
      cases a
      exact .cons _ _ (ih _ b)
theorem script_of {l : OpenLaw} {n : Nat} (hn : l.most = some n) {P : Params} {h : Heap} {args : List WData} {vals : List Value}
    (hpre : l.row.toRowW.claim.pre args = true) (hwl : WellAll P h vals args) :
    ∃ a vs ns, vals = [Value.ref a] /\ args = [WData.list (ns.map WData.int)] /\ h.get? a = some { cls := .type "list", data := .seq vs.toArray } /\ IntsAre vs ns /\ ns.length <= n := by
  have hsh : WShape.hasAll [] args [.list .int] = true := (pre_splitW hpre).1
  have hc : l.pre.holds [] { args := args } = true := (pre_splitW hpre).2
  obtain ⟨d, r, rfl, h1, h2⟩ := hasAllW_cons hsh
  obtain rfl := hasAllW_nil h2
  obtain ⟨xs, rfl, h3⟩ := hasW_list h1
  obtain ⟨ns, rfl⟩ := items_int h3
  have hlen : ns.length <= n := by
    unfold OpenLaw.pre at hc
    have h4 : (WTm.not (.lt (.lit (.int (n : Int))) (.len (.arg 0)))).holds [] { args := [.list (ns.map .int)] } = true := by
      have h4 := (holds_andW hc).1
      rw [hn] at h4
      exact h4
    have h5 := condW_of h4 (w_not (w_lt w_lit (w_len_list (w_arg rfl))))
    rw [List.length_map] at h5
    refine Nat.le_of_not_lt fun q => ?_
    have q' : (n : Int) < ((ns.length : Nat) : Int) := by omega
    first
      | (rw [decide_eq_true q'] at h5; exact absurd h5 (by decide))
      | (simp at h5; omega)
  cases hwl with
  | cons w1 w2 =>
    cases w2
    cases w1 with
    | list ho hall => exact ⟨_, _, ns, rfl, rfl, ho, ints_of_wellAll ns _ hall, hlen⟩
theorem post_true (l : OpenLaw) (args : List WData) : l.row.toRowW.claim.post args (.bool true) args = true :=
  postW_of (r := l.row.toRowW) (X := (true == true))
    (show WShape.has [] (.bool true) .bool = true by first | rfl | decide | simp [WShape.has, WShape.arms, WShape.armsAll])
    (show (WTm.eq .res (.lit (.bool true))).value [] { args := args, res := some (.bool true), after := args } = some (.bool (true == true)) from w_eq_bool (w_res rfl) w_lit) rfl
theorem attach_call {l : OpenLaw} {n : Nat} {q : Program} {loose : List Str} {XP : (Str -> Option Value) -> Heap -> Prop} {YP : World -> Heap -> Prop} {d : DefRec}
    (hn : l.most = some n) (hdf : d.params.defaults = [])
    (call : ∀ (w : World) (s₀ s₁ : Shared) (mg mb : Str -> Option Value) (fa : Addr) (o : Obj) (pm cd doc : Value) (a : Addr) (vs : List Value) (ns : List Int),
      Ground q loose [] XP w s₀ mg mb s₁.heap -> YP w s₁.heap ->
      s₁.heap.get? fa = some o -> o.data = .func (docDef d.name d.params d.body d.scope pm cd doc) -> s₁.heap.CodeRec cd d.name -> mg d.name = some (.ref fa) ->
      s₁.heap.get? a = some { cls := .type "list", data := .seq vs.toArray } -> IntsAre vs ns -> ns.length <= n -> s₁.gens = #[] ->
      codeAny (model l.prog w) callerA (.call (.ref fa) ⟨[.ref a], []⟩) (fun r s' => r = .ok (.ret (.bool true)) /\ OldK s₁.heap s'.heap /\ s'.os = s₁.os /\ AllBare s'.gens) s₁) :
    WalkO q loose XP YP l.row.toRowW d [] (fun f vs => PySem.call f vs) := by
  intro w s₀ s₁ mg mb G Y fa o pm cd doc dV kV ho hd hcd hD hmg hg args vals as hpre hlay hrd hwl hlo
  obtain rfl : dV = .none := Dflts.none hD hdf
  obtain rfl : kV = .none := Dflts.noKw hD
  obtain ⟨a, vs, ns, rfl, rfl, hobj, hints, hlen⟩ := script_of hn hpre hwl
  refine enter_call (codeAny_mono (call w s₀ s₁ mg mb fa o pm cd doc a vs ns G Y ho (fd_plain hd) hcd hmg hobj hints hlen hg) fun r s' hq => ?_)
  obtain ⟨rfl, h2, h3, h4⟩ := hq
  exact ⟨.inl ⟨.bool true, .bool true, [], rfl, fun _ => rfl, .bool true, post_true l _, fun _ => ⟨List.Pairwise.nil, fun _ hm => (nomatch hm)⟩⟩, h2, h3, h4⟩
section
variable {prog : Program} {w : World} {A : Around} {E : Value -> Shared -> Prop} {s : Shared} {K : Frag}
end
end Att
namespace L2
open PySem PySem.Spec PyProof.Rows
theorem vals_ints : ∀ {vs : List Value} {ns : List Int}, IntsAre vs ns -> Vals (ns.map V.int) vs
  | _, _, .nil => .nil
  | _, _, .cons n t h => .cons ⟨t, rfl⟩ (vals_ints h)
def Only (H : Hp) : Prop := ∀ b, H b = none ∨ ∃ o xs, H b = some (.frz o (.lst xs))
theorem law_call {P : Program} {w : World} {K : Frag} {mg mb : Str -> Option Value} {CX : CXT} {k : Nat} {fa a : Addr} {fd : FuncData} {x : Str} {sp : Sp} {s₁ : Shared} {vs : List Value} {ns : List Int}
    (KX : K.In s₁.heap) (hns : s₁.heap.Ns mainGlobals mg) (hb : s₁.heap.Ns builtinsNs mb) (hbb : ∀ x : Str, x ≠ "__name__" -> mb x = bootBuiltins x) (hlim : s₁.heap.NoLimit) (hg : s₁.gens = #[])
    (ha : s₁.heap.get? a = some { cls := .type "list", data := .seq vs.toArray }) (hi : IntsAre vs ns) (hl : ns.length <= sizeLine) (hr : Room k callerA)
    (F : ∀ base : Heap, K.In base -> base.Ns mainGlobals mg -> FnOk P w K mg base CX k fa fd [x] sp) (hbind : ∀ (s : Shared) (u : Value), BindsTo s fd ⟨[u], []⟩ [(x, u)])
    (hsp : ∀ H : Hp, Only H -> SqL K H a (ns.map V.int) -> sp [.ref a] H (fun v _ => v = .bl true) fun _ _ _ => False)
    (hCX : ∀ H e s', CX [] H s₁ (fun _ _ _ => False) e s' -> False) :
    codeAny (model P w) callerA (.call (.ref fa) ⟨[.ref a], []⟩) (fun r s' => r = .ok (.ret (.bool true)) /\ OldK s₁.heap s'.heap /\ s'.os = s₁.os /\ AllBare s'.gens) s₁ := by
  have rv := vals_ints hi
  have lenV := hi.length
  have core : ∀ H : Hp, Only H -> SqL K H a (ns.map V.int) -> HOk P w H s₁.heap -> (∀ b, H b ≠ none -> b = a) -> (H a ≠ none -> K.lookup a = none) ->
      codeAny (model P w) callerA (.call (.ref fa) ⟨[.ref a], []⟩) (fun r s' => r = .ok (.ret (.bool true)) /\ OldK s₁.heap s'.heap /\ s'.os = s₁.os /\ AllBare s'.gens) s₁ := by
    intro H hO hS hok hA hK
    have base_of : ∀ {b : Addr} {o : Obj}, s₁.heap.get? b = some o -> H b = none -> (hidT s₁.heap H).get? b = some o := fun e n => hidT_get e n
    have noA : ∀ {b : Addr} {o : Obj} {es : Array DictEntry} {ep : Nat}, s₁.heap.get? b = some o -> o.data = .dict es ep -> H b = none := fun {b o es ep} e d => by
      cases q : H b with
      | none => rfl
      | some u =>
        have e' : b = a := hA b (by rw [q]; simp)
        subst e'
        rw [ha] at e; cases e
        have d' : Data.seq vs.toArray _ = Data.dict es ep := d
        cases d'
    have nsK : ∀ {b : Addr} {m : Str -> Option Value}, s₁.heap.Ns b m -> (hidT s₁.heap H).Ns b m := fun {b m} ⟨o, es, ep, e, d, r⟩ => ⟨o, es, ep, base_of e (noA e d), d, r⟩
    have hKb : K.In (hidT s₁.heap H) := fun b o e => base_of (KX b o e) (by
      cases q : H b with
      | none => rfl
      | some u =>
        have e' : b = a := hA b (by rw [q]; simp)
        subst e'
        rw [hK (by rw [q]; simp)] at e; cases e)
    have hM : Mod K mg (hidT s₁.heap H) := ⟨hKb, nsK hns, ⟨mb, nsK hb, hbb⟩, let ⟨mc, h1, h2⟩ := hlim; ⟨mc, nsK h1, h2⟩⟩
    have e0 : Env0 P w K mg (hidT s₁.heap H) callerA [] s₁ H := ⟨rfl, hM, fun b o e => of_hidT e, Nat.le_of_eq (hidT_size _ _), trivial, fun b hb => absurd (show b ∈ ([] : List Addr) from hb) (by simp), hok, .of_eq hg⟩
    refine codeAny_mono ((F _ hKb (nsK hns)).run callerA [] s₁ H ⟨[.ref a], []⟩ [.ref a] [.ref a] _ _ hr e0 (hbind s₁ (.ref a)) (.cons rfl .nil) (hsp H hO hS)) fun r s' h => ?_
    cases r with
    | error e => exact (hCX H e s' h).elim
    | ok fl =>
      cases fl with
      | next => exact False.elim h
      | brk => exact False.elim h
      | cont => exact False.elim h
      | ret u =>
        obtain ⟨v, H', os, bare, un, hok', r', q⟩ := h
        have q' : v = .bl true := q
        subst q'
        obtain rfl : u = Value.bool true := r'
        refine ⟨rfl, OldK.of_keep fun b o e => ?_, os, bare⟩
        cases q : H b with
        | none => exact un.keep b o e q (by intro z; exact absurd (show b ∈ ([] : List Addr) from z) (by simp)) (by simp)
        | some u =>
          rcases hO b with z | ⟨ob, xs, z⟩
          · rw [q] at z; cases z
          · have z2 := un.frzs b ob _ z
            obtain ⟨e1, _⟩ := hok b _ z
            obtain ⟨e2, _⟩ := hok' b _ z2
            rw [e] at e1; cases e1
            exact e2
  cases hk : K.lookup a with
  | some o =>
    have e := KX a o hk
    rw [ha] at e
    cases e
    refine core (fun _ => none) (fun _ => .inl rfl) (.inr ⟨_, vs.toArray, _, hk, rfl, rfl, rfl, by rw [List.size_toArray, lenV]; exact hl, by simpa using rv⟩) (fun b u z => by have z' : (none : Option HO) = some u := z; cases z') (fun b z => absurd rfl z) fun z => absurd rfl z
  | none =>
    refine core (fun b => if b = a then some (.frz { cls := .type "list", data := .seq vs.toArray } (.lst (ns.map V.int))) else none) (fun b => ?_) (.inl (.inr ⟨{ cls := .type "list", data := .seq vs.toArray }, if_pos rfl⟩)) (fun b u z => ?_) (fun b z => ?_) fun _ => hk
    · by_cases hb : b = a
      · exact .inr ⟨_, _, if_pos hb⟩
      · exact .inl (if_neg hb)
    · by_cases hb : b = a
      · have z' := (if_pos hb).symm.trans z
        cases z'
        subst hb
        exact ⟨ha, by rw [List.length_map]; exact hl, vs, _, rv, ha⟩
      · have z' := (if_neg hb).symm.trans z
        cases z'
    · by_cases hb : b = a
      · exact hb
      · exact absurd (if_neg hb) z
theorem walk_of {l : PySem.W.OpenLaw} {n k : Nat} {q : Program} {loose : List Str} {XP : (Str -> Option Value) -> Heap -> Prop} {YP : World -> Heap -> Prop} {d : DefRec} {K : Params -> Frag} {CX : World -> CXT} {sp : World -> Sp} {x : Str}
    (hn : l.most = some n) (hn2 : n <= sizeLine) (hdf : d.params.defaults = []) (hr : Room k callerA)
    (hY : ∀ (w : World) (h : Heap), YP w h -> (K w.params).In h)
    (F : ∀ (w : World) (mg : Str -> Option Value) (fa : Addr) (h : Heap), (K w.params).In h -> h.Ns mainGlobals mg -> mg d.name = some (.ref fa) ->
      ∃ fd : FuncData, (∀ (s : Shared) (u : Value), BindsTo s fd ⟨[u], []⟩ [(x, u)]) /\
        ∀ base : Heap, (K w.params).In base -> base.Ns mainGlobals mg -> FnOk l.prog w (K w.params) mg base (CX w) k fa fd [x] (sp w))
    (hsp : ∀ (w : World) (H : Hp) (a : Addr) (ns : List Int), ns.length <= n -> Only H -> SqL (K w.params) H a (ns.map V.int) -> sp w [.ref a] H (fun v _ => v = .bl true) fun _ _ _ => False)
    (hCX : ∀ (w : World) (H : Hp) (s : Shared) (e : Value) (s' : Shared), CX w [] H s (fun _ _ _ => False) e s' -> False) :
    PySem.W.WalkO q loose XP YP l.row.toRowW d [] (fun f vs => PySem.call f vs) := by
  refine Att.attach_call hn hdf fun w s₀ s₁ mg mb fa o pm cd doc a vs ns G Y ho hd hcd hmg hobj hints hlen hg => ?_
  have KX := hY w _ Y
  obtain ⟨fd, hb, hF⟩ := F w mg fa _ KX G.T.g hmg
  exact law_call KX G.T.g G.T.b G.T.builtins G.T.nolimit hg hobj hints (Nat.le_trans hlen hn2) hr hF hb (fun H hO hS => hsp w H a ns hlen hO hS) fun H e s' => hCX w H s₁ e s'
def zj2 (s : Stmt) : Arguments := match s with
  | .FunctionDef _ a _ _ _ _ _ _ _ _ => a
  | _ => { posonlyargs := [], args := [], vararg := none, kwonlyargs := [], kw_defaults := [], kwarg := none, defaults := [] }
def zq8 (s : Stmt) : List Stmt := match s with
  | .FunctionDef _ _ b _ _ _ _ _ _ _ => b
  | _ => []
def zq3 (s : Stmt) : Scope := match s with
  | .FunctionDef _ _ _ _ _ _ sc _ _ _ => sc
  | _ => { kind := .function, names := [], isGenerator := false, isCoroutine := false }
abbrev CX0 : CXT := fun _ _ _ _ _ _ => False
abbrev E0 : XK := fun _ _ _ => False
theorem pass0 {X : Cx} : Passes CX0 X E0 := fun _ _ _ _ _ _ _ h => h.elim
structure Fun (K : Frag) (x qual : Str) (st : Stmt) (f : Addr) (fd : FuncData) : Prop where
  ex : ∃ (oc : Value) (od : Option Addr) (kV doc pm : Value) (an : Option Addr) (cdv ct : Value) (osl : Array (Option Value)),
    fd = PySem.W.fnOf x qual (zj2 st) (zq8 st) (zq3 st) .none kV doc pm an cdv ct /\ K.lookup f = some ⟨oc, od, .func fd, osl⟩ /\ PySem.W.codeIn K cdv qual = true
  kp : PySem.W.keepIn K (.ref f) = true
section
variable {P : Program} {w : World} {K : Frag} {mg : Str -> Option Value} {base : Heap}
theorem Fun.ok {x qual : Str} {st : Stmt} {f : Addr} {fd : FuncData} {N ps : List Str} {k : Nat} {sp : Sp} (F : Fun K x qual st f fd) (S : FnScope N ps (zq3 st)) (len : ∀ vs H Q E, sp vs H Q E -> vs.length = ps.length)
    (hbody : ∀ (cdv : Value) (A : Around) (outer : List Env) (s : Shared) (H : Hp) (vs : List V) (Q : VK) (E : XK), Room k (A.deeper (envOfC qual (zq3 st) s.heap.objs.size f cdv)) -> sp vs H Q E ->
      ∃ t, PSs (cxOf CX0 P w K mg base N qual (zq3 st) f cdv A outer s H E).nox (zq8 st) t /\ t { nx := fun _ H' => Q .non H', rt := Q } (start N vs) H) : FnOk P w K mg base CX0 (k + 1) f fd ps sp := by
  obtain ⟨oc, od, kV, doc, pm, an, cdv, ct, osl, rfl, lk, hcd⟩ := F.ex
  refine fn_of lk hcd S len fun A outer s H vs Q E hr hsp => ?_
  obtain ⟨t, h, q⟩ := hbody cdv A outer s H vs Q E hr hsp
  exact ⟨t, h.nox, q⟩
theorem Fun.binds {x qual : Str} {st : Stmt} {f : Addr} {fd : FuncData} {ps : List Str} (F : Fun K x qual st f fd)
    (h : ∀ (kV doc pm : Value) (an : Option Addr) (cdv ct : Value) (us : List Value), us.length = ps.length -> bindArgs (PySem.W.fnOf x qual (zj2 st) (zq8 st) (zq3 st) .none kV doc pm an cdv ct) ⟨us, []⟩ = pure (ps.zip us)) : Binds K fd ps [] := by
  obtain ⟨oc, od, kV, doc, pm, an, cdv, ct, osl, rfl, lk, hcd⟩ := F.ex
  exact .all (h kV doc pm an cdv ct)
theorem fun_mk {x qual : Str} {st : Stmt} {f : Addr} {oc : Value} {od an : Option Addr} {osl : Array (Option Value)} {kV doc pm cdv ct : Value} (l : K.lookup f = some ⟨oc, od, .func (PySem.W.fnOf x qual (zj2 st) (zq8 st) (zq3 st) .none kV doc pm an cdv ct), osl⟩)
    (c : PySem.W.codeIn K cdv qual = true) (k : PySem.W.keepIn K (.ref f) = true) : Fun K x qual st f (PySem.W.fnOf x qual (zj2 st) (zq8 st) (zq3 st) .none kV doc pm an cdv ct) := ⟨⟨oc, od, kV, doc, pm, an, cdv, ct, osl, rfl, l, c⟩, k⟩
end
theorem zj7 {n : Nat} (h : n <= 1000) : n < sizeLine := Nat.lt_of_le_of_lt h (by decide)
section
variable {X : Cx}
end
theorem ite2 {c A B : Prop} [Decidable c] (h1 : c -> A) (h2 : ¬ c -> B) : if c then A else B := by
  by_cases h : c
  · rw [if_pos h]
    exact h1 h
  · rw [if_neg h]
    exact h2 h
def Same (H H' : Hp) : Prop := ∀ b o, H b = some o -> H' b = some o
theorem Same.refl (H : Hp) : Same H H := fun _ _ h => h
theorem Same.trans {H H1 H2 : Hp} (a : Same H H1) (b : Same H1 H2) : Same H H2 := fun c o h => b c o (a c o h)
theorem Same.free {H H' : Hp} (e : Same H H') {l : Addr} (h : H' l = Option.none) : H l = Option.none := by
  cases q : H l with
  | none => rfl
  | some o =>
    rw [e l o q] at h
    cases h
theorem Same.seq {K : Frag} {H H' : Hp} {a : Addr} {xs : List V} (e : Same H H') (h : SqL K H a xs) : SqL K H' a xs := by
  rcases h with (h | ⟨o, h⟩) | h
  · exact .inl (.inl (e _ _ h))
  · exact .inl (.inr ⟨o, e _ _ h⟩)
  · exact .inr h
end L2
set_option maxHeartbeats 4000000
namespace L2
open PySem PySem.Spec PyProof.Rows
section
variable {κ : Type} [DecidableEq κ]
def valV (kvs : List (κ × V)) (k : κ) : Option V := (kvs.find? fun kv => decide (kv.1 = k)).map (·.2)
def putK (kvs : List (κ × V)) (k : κ) (v : V) : List (κ × V) :=
  if (kvs.any fun kv => decide (kv.1 = k)) = true then kvs.map (fun kv => if kv.1 = k then (kv.1, v) else kv) else kvs ++ [(k, v)]
def dropK (kvs : List (κ × V)) (k : κ) : List (κ × V) := kvs.filter fun kv => decide (kv.1 ≠ k)
theorem valV_nil {k : κ} : valV ([] : List (κ × V)) k = none := rfl
theorem valV_pos {p : κ × V} {r : List (κ × V)} {k : κ} (e : p.1 = k) : valV (p :: r) k = some p.2 := by simp [valV, List.find?_cons, e]
theorem valV_neg {p : κ × V} {r : List (κ × V)} {k : κ} (e : ¬ p.1 = k) : valV (p :: r) k = valV r k := by simp [valV, List.find?_cons, e]
theorem valV_any (k : κ) : ∀ kvs : List (κ × V), (kvs.any fun kv => decide (kv.1 = k)) = (valV kvs k).isSome
  | [] => rfl
  | p :: r => by
    rw [List.any_cons]
    by_cases e : p.1 = k
    · simp only [valV_pos e, decide_eq_true e, Bool.true_or, Option.isSome_some]
    · rw [valV_neg e, decide_eq_false e, Bool.false_or]; exact valV_any k r
theorem valV_map (k j : κ) (y : V) : ∀ kvs : List (κ × V), valV (kvs.map fun kv => if kv.1 = k then (kv.1, y) else kv) j = (valV kvs j).map fun x => if j = k then y else x
  | [] => rfl
  | p :: r => by
    have ih := valV_map k j y r
    rw [List.map_cons]
    by_cases h : p.1 = k
    · rw [if_pos h]
      by_cases e : p.1 = j
      · rw [valV_pos (p := (p.1, y)) e, valV_pos e, Option.map_some, if_pos (e.symm.trans h)]
      · rw [valV_neg (p := (p.1, y)) e, valV_neg e, ih]
    · rw [if_neg h]
      by_cases e : p.1 = j
      · rw [valV_pos (p := p) e, valV_pos e, Option.map_some, if_neg (fun z => h (e.trans z))]
      · rw [valV_neg (p := p) e, valV_neg e, ih]
theorem valV_snoc (k j : κ) (y : V) : ∀ kvs : List (κ × V), valV kvs k = none -> valV (kvs ++ [(k, y)]) j = if j = k then some y else valV kvs j
  | [], _ => by
    by_cases e : k = j
    · rw [if_pos e.symm]; exact valV_pos (p := (k, y)) e
    · rw [if_neg (fun z => e z.symm)]; exact valV_neg (p := (k, y)) e
  | p :: r, hn => by
    rw [List.cons_append]
    have hk : ¬ p.1 = k := fun z => by rw [valV_pos z] at hn; cases hn
    rw [valV_neg hk] at hn
    have ih := valV_snoc k j y r hn
    by_cases e : p.1 = j
    · rw [valV_pos e, valV_pos e, if_neg (fun z => hk (e.trans z))]
    · rw [valV_neg e, valV_neg e, ih]
theorem valV_put (kvs : List (κ × V)) (k j : κ) (y : V) : valV (putK kvs k y) j = if j = k then some y else valV kvs j := by
  unfold putK
  by_cases a : (kvs.any fun kv => decide (kv.1 = k)) = true
  · rw [if_pos a, valV_map]
    rw [valV_any] at a
    by_cases e : j = k
    · obtain ⟨x, hx⟩ := Option.isSome_iff_exists.mp a
      rw [if_pos e, e, hx, Option.map_some, if_pos rfl]
    · rw [if_neg e]
      cases valV kvs j with
      | none => rfl
      | some x => rw [Option.map_some, if_neg e]
  · rw [if_neg a]
    refine valV_snoc k j y kvs ?_
    rw [valV_any] at a
    cases q : valV kvs k with
    | none => rfl
    | some x => rw [q] at a; exact (a rfl).elim
theorem length_putK (kvs : List (κ × V)) (k : κ) (v : V) : (putK kvs k v).length <= kvs.length + 1 := by
  unfold putK
  split
  · rw [List.length_map]; omega
  · rw [List.length_append, List.length_cons, List.length_nil]; omega
theorem RelO.isSome_eq {o : Option V} {u : Option Value} (r : RelO o u) : o.isSome = u.isSome := by
  cases o with
  | none => cases u with
    | none => rfl
    | some _ => exact (show False from r).elim
  | some _ => cases u with
    | none => exact (show False from r).elim
    | some _ => rfl
theorem RelO.getD {o : Option V} {u : Option Value} {d : V} {d' : Value} (r : RelO o u) (rd : RelV d d') : RelV (o.getD d) (u.getD d') := by
  cases o with
  | none => cases u with
    | none => exact rd
    | some _ => exact (show False from r).elim
  | some _ => cases u with
    | none => exact (show False from r).elim
    | some _ => exact r
theorem KV.val {kvs : List (κ × V)} {vs : List (κ × Value)} (r : KV kvs vs) (k : κ) : RelO (valV kvs k) (valueAt vs k) := by
  unfold KV at r
  induction r with
  | nil => exact True.intro
  | @cons p q ps qs h t ih =>
    obtain ⟨h1, h2⟩ := h
    by_cases e : p.1 = k
    · have e' : q.1 = k := h1.symm.trans e
      have b : valueAt (q :: qs) k = some q.2 := by simp [valueAt, List.find?_cons, e']
      rw [valV_pos e, b]; exact h2
    · have e' : ¬ q.1 = k := fun z => e (h1.trans z)
      have b : valueAt (q :: qs) k = valueAt qs k := by simp [valueAt, List.find?_cons, e']
      rw [valV_neg e, b]; exact ih
theorem KV.any {kvs : List (κ × V)} {vs : List (κ × Value)} (r : KV kvs vs) (k : κ) : (kvs.any fun kv => decide (kv.1 = k)) = vs.any fun kv => decide (kv.1 = k) := by
  unfold KV at r
  induction r with
  | nil => rfl
  | cons h t ih => rw [List.any_cons, List.any_cons, ih, h.1]
theorem KV.repl {kvs : List (κ × V)} {vs : List (κ × Value)} (r : KV kvs vs) (k : κ) {y : V} {u : Value} (ry : RelV y u) :
    KV (kvs.map fun kv => if kv.1 = k then (kv.1, y) else kv) (vs.map fun kv => if kv.1 = k then (kv.1, u) else kv) := by
  unfold KV at r ⊢
  induction r with
  | nil => exact .nil
  | @cons p q ps qs h t ih =>
    rw [List.map_cons, List.map_cons]
    refine .cons ?_ ih
    obtain ⟨h1, h2⟩ := h
    by_cases e : p.1 = k
    · rw [if_pos e, if_pos (h1.symm.trans e)]; exact ⟨h1, ry⟩
    · rw [if_neg e, if_neg (fun z => e (h1.trans z))]; exact ⟨h1, h2⟩
theorem KV.put {kvs : List (κ × V)} {vs : List (κ × Value)} (r : KV kvs vs) (k : κ) {y : V} {u : Value} (ry : RelV y u) : KV (putK kvs k y) (stored vs k u) := by
  unfold putK stored
  rw [r.any k]
  by_cases e : (vs.any fun kv => decide (kv.1 = k)) = true
  · rw [if_pos e, if_pos e]; exact r.repl k ry
  · rw [if_neg e, if_neg e]; exact Paired.snoc r ⟨rfl, ry⟩
theorem KV.drop {kvs : List (κ × V)} {vs : List (κ × Value)} (r : KV kvs vs) (k : κ) : KV (dropK kvs k) (without vs k) := by
  unfold KV at r ⊢
  unfold dropK without
  induction r with
  | nil => exact .nil
  | @cons p q ps qs h t ih =>
    obtain ⟨h1, h2⟩ := h
    rw [List.filter_cons, List.filter_cons]
    by_cases e : p.1 = k
    · have a : ¬ decide (p.1 ≠ k) = true := by simp [e]
      have b : ¬ decide (q.1 ≠ k) = true := by simp [h1.symm.trans e]
      rw [if_neg a, if_neg b]; exact ih
    · have e' : ¬ q.1 = k := fun z => e (h1.trans z)
      have a : decide (p.1 ≠ k) = true := by simp [e]
      have b : decide (q.1 ≠ k) = true := by simp [e']
      rw [if_pos a, if_pos b]; exact .cons ⟨h1, h2⟩ ih
theorem KV.length {kvs : List (κ × V)} {vs : List (κ × Value)} (r : KV kvs vs) : kvs.length = vs.length := Paired.length r
end
theorem kV_is {P : Program} {w : World} {k : Key} {u : Value} (r : RelV (kV k) u) : (mixKind P w).is k u = true := by
  cases k with
  | inl i => obtain ⟨t, e⟩ := (show ∃ t, u = Value.int i t from r); subst e; exact mixKind_int P w i t
  | inr x => obtain ⟨t, e⟩ := (show ∃ t, u = Value.str x t from r); subst e; exact mixKind_str P w x t
theorem items_are {P : Program} {w : World} : ∀ {ks : List Key} {us : List Value}, Vals (ks.map kV) us -> ItemsAre (mixKind P w) ks us
  | [], _, r => by rw [List.map_nil] at r; cases r; exact .nil
  | k :: ks, _, r => by
    rw [List.map_cons] at r
    cases r with
    | cons h t => exact .cons (kV_is h) (items_are t)
abbrev KT (H : Hp) : List (List Key × V) -> List (List Key × Addr × Value) -> Prop := Paired fun p q => p.1 = q.1 /\ H q.2.1 = some (.tup (p.1.map kV)) /\ RelV p.2 q.2.2
theorem KT.val {H : Hp} {kvs : List (List Key × V)} {xs : List (List Key × Addr × Value)} (r : KT H kvs xs) (k : List Key) : RelO (valV kvs k) ((atKey xs k).map (·.2)) := by
  induction r with
  | nil => exact True.intro
  | @cons p q ps qs h t ih =>
    obtain ⟨h1, _, h2⟩ := h
    by_cases e : p.1 = k
    · have e' : q.1 = k := h1.symm.trans e
      have b : atKey (q :: qs) k = some q.2 := by simp [atKey, List.find?_cons, e']
      rw [valV_pos e, b]; exact h2
    · have e' : ¬ q.1 = k := fun z => e (h1.trans z)
      have b : atKey (q :: qs) k = atKey qs k := by simp [atKey, List.find?_cons, e']
      rw [valV_neg e, b]; exact ih
theorem KT.repl {H : Hp} {kvs : List (List Key × V)} {xs : List (List Key × Addr × Value)} (r : KT H kvs xs) (k : List Key) {y : V} {u : Value} (ry : RelV y u) :
    KT H (kvs.map fun kv => if kv.1 = k then (kv.1, y) else kv) (xs.map (putAt k u)) := by
  induction r with
  | nil => exact .nil
  | @cons p q ps qs h t ih =>
    rw [List.map_cons, List.map_cons]
    refine .cons ?_ ih
    obtain ⟨h1, h2, h3⟩ := h
    unfold putAt
    by_cases e : p.1 = k
    · rw [if_pos e, if_pos (h1.symm.trans e)]; exact ⟨h1, h2, ry⟩
    · rw [if_neg e, if_neg (fun z => e (h1.trans z))]; exact ⟨h1, h2, h3⟩
theorem KT.put {H : Hp} {kvs : List (List Key × V)} {xs : List (List Key × Addr × Value)} (r : KT H kvs xs) (k : List Key) {b : Addr} {y : V} {u : Value} (hb : H b = some (.tup (k.map kV))) (ry : RelV y u) :
    KT H (putK kvs k y) (storedH xs k b u) := by
  have e : (kvs.any fun kv => decide (kv.1 = k)) = (atKey xs k).isSome := by
    rw [valV_any, (r.val k).isSome_eq, Option.isSome_map]
  unfold putK storedH
  rw [e]
  by_cases q : (atKey xs k).isSome = true
  · rw [if_pos q, if_pos q]; exact r.repl k ry
  · rw [if_neg q, if_neg q]; exact Paired.snoc r ⟨rfl, hb, ry⟩
theorem KT.keeps {H H' : Hp} {kvs : List (List Key × V)} {xs : List (List Key × Addr × Value)} (r : KT H kvs xs) (ht : ∀ b ys, H b = some (.tup ys) -> H' b = some (.tup ys)) : KT H' kvs xs :=
  Paired.mapP r fun _ _ z => ⟨z.1, ht _ _ z.2.1, z.2.2⟩
section
variable {P : Program} {w : World} {H : Hp} {h : Heap} {a : Addr}
theorem rd_of {u : HO} (ok : HOk P w H h) (e : Rd H a u) : ObjOk P w H h a u := e.ok ok
theorem dk_rd {kvs : List (Key × V)} (ok : HOk P w H h) (e : Rd H a (.dK kvs)) : kvs.length <= sizeLine /\ (a == sysModules) = false /\ ∃ vs, KV kvs vs /\ h.DictOf (mixKind P w) a vs :=
  show ObjOk P w H h a (.dK kvs) from rd_of ok e
theorem dk_of {kvs : List (Key × V)} (ok : HOk P w H h) (e : H a = some (.dK kvs)) : kvs.length <= sizeLine /\ (a == sysModules) = false /\ ∃ vs, KV kvs vs /\ h.DictOf (mixKind P w) a vs := dk_rd ok (.inl e)
theorem key_of {ks : List Key} (ok : HOk P w H h) (e : H a = some (.tup (ks.map kV))) : (tupleKind (mixKind P w)).is h ks a := by
  obtain ⟨_, its, r, o, h1, h2, n, h3⟩ := (show ObjOk P w H h a (.tup (ks.map kV)) from ok a _ e)
  exact ⟨o, its.toArray, n, h1, h2, h3, by simpa using items_are r⟩
theorem dt_rd {kvs : List (List Key × V)} (ok : HOk P w H h) (e : Rd H a (.dT kvs)) : kvs.length <= sizeLine /\ (a == sysModules) = false /\
    ∃ xs, KT H kvs xs /\ h.DictOfH (tupleKind (mixKind P w)) a xs := by
  obtain ⟨z, y, xs, r, o, es, ep, h1, h2, h3, h4, h5⟩ := (show ObjOk P w H h a (.dT kvs) from rd_of ok e)
  refine ⟨z, y, xs, r, o, es, ep, h1, h2, h3, h4, fun x hx => ?_, h5⟩
  have all : ∀ {l : List (List Key × V)} {m : List (List Key × Addr × Value)}, KT H l m -> ∀ x ∈ m, (tupleKind (mixKind P w)).is h x.1 x.2.1 := by
    intro l m q
    induction q with
    | nil => intro x hx; exact nomatch hx
    | @cons p q ps qs hq t ih =>
      intro x hx
      rcases List.mem_cons.mp hx with e | hx
      · subst e
        exact key_of ok (by rw [<- hq.1]; exact hq.2.1)
      · exact ih x hx
  exact all r x hx
theorem dt_of {kvs : List (List Key × V)} (ok : HOk P w H h) (e : H a = some (.dT kvs)) : kvs.length <= sizeLine /\ (a == sysModules) = false /\
    ∃ xs, KT H kvs xs /\ h.DictOfH (tupleKind (mixKind P w)) a xs := dt_rd ok (.inl e)
end
def DGet (H : Hp) (a : Addr) (y : V) (r : Option V) : Prop :=
  (∃ kvs k, Rd H a (.dK kvs) /\ y = kV k /\ r = valV kvs k) ∨ ∃ kvs k b, Rd H a (.dT kvs) /\ y = .ref b /\ H b = some (.tup (k.map kV)) /\ r = valV kvs k
def DPut (H : Hp) (a : Addr) (y v : V) (H' : Hp) : Prop :=
  (∃ kvs k, H a = some (.dK kvs) /\ y = kV k /\ kvs.length < sizeLine /\ H' = upd H a (.dK (putK kvs k v))) ∨
  ∃ kvs k b, H a = some (.dT kvs) /\ y = .ref b /\ H b = some (.tup (k.map kV)) /\ kvs.length < sizeLine /\ H' = upd H a (.dT (putK kvs k v))
theorem DGet.k {H : Hp} {a : Addr} {kvs : List (Key × V)} {k : Key} (e : H a = some (.dK kvs)) : DGet H a (kV k) (valV kvs k) := .inl ⟨kvs, k, .inl e, rfl, rfl⟩
theorem DGet.t {H : Hp} {a b : Addr} {kvs : List (List Key × V)} {k : List Key} (e : H a = some (.dT kvs)) (eb : H b = some (.tup (k.map kV))) : DGet H a (.ref b) (valV kvs k) := .inr ⟨kvs, k, b, .inl e, rfl, eb, rfl⟩
theorem DPut.k {H : Hp} {a : Addr} {kvs : List (Key × V)} {k : Key} {v : V} (e : H a = some (.dK kvs)) (hl : kvs.length < sizeLine) : DPut H a (kV k) v (upd H a (.dK (putK kvs k v))) := .inl ⟨kvs, k, e, rfl, hl, rfl⟩
theorem DPut.t {H : Hp} {a b : Addr} {kvs : List (List Key × V)} {k : List Key} {v : V} (e : H a = some (.dT kvs)) (eb : H b = some (.tup (k.map kV))) (hl : kvs.length < sizeLine) :
    DPut H a (.ref b) v (upd H a (.dT (putK kvs k v))) := .inr ⟨kvs, k, b, e, rfl, eb, hl, rfl⟩
section
variable {X : Cx} {pins : List (Addr × Obj)} {σ : St} {H : Hp} {s : Shared} {a : Addr} {y v : V} {u r : Value} {o : Option V} {A : Around} {E : Value -> Shared -> Prop}
theorem Inv.big (I : Inv X pins σ H s) : sysModules < s.heap.objs.size := by
  have h : mainGlobals < s.heap.objs.size := (I.mod.glob.keeps I.bk).lt
  exact Nat.lt_trans (by decide) h
theorem d_in {Q : Value -> Shared -> Prop} (hu : A.units + 1 < cLine) (I : Inv X pins σ H s) (g : DGet H a y o) (ry : RelV y u) (h : ∀ s', Inv X pins σ H s' -> Q (.bool o.isSome) s') :
    wpAny (model X.prog X.w) A (compareOp .In u (.ref a)) Q E s := by
  rcases g with ⟨kvs, k, e, ey, l⟩ | ⟨kvs, k, b, e, ey, eb, l⟩
  · subst ey
    obtain ⟨z, hd, vs, rel, dd⟩ := dk_rd I.hok e
    refine wpAny_in_of (kV_is ry) hd dd.mapOf ?_
    rw [<- (rel.val k).isSome_eq, <- l]
    exact h _ (I.tok _)
  · subst ey
    cases (show u = Value.ref b from ry)
    obtain ⟨z, hd, xs, rel, dd⟩ := dt_rd I.hok e
    refine wpAny_in_heap (tupleKind_room_in1 hu) (key_of I.hok eb) hd dd ?_
    have q := (rel.val k).isSome_eq
    rw [Option.isSome_map] at q
    rw [<- q, <- l]
    exact h _ (I.tok _)
theorem d_write {h' : Heap} {t' : Nat} {ob : HO} (I : Inv X pins σ H s) (mu : Mut (H a)) (hs : Heap.SameBut a s.heap h') (he : ∃ q, h'.get? a = some q) (new : ObjOk X.prog X.w (upd H a ob) h' a ob) :
    Inv X pins σ (upd H a ob) { s with heap := h', toks := t' } :=
  I.write (x := a) (e := a) mu (.inl rfl) (fun b q hb z => (hs.2 b hb).trans z) he new
theorem dk_new {P : Program} {w : World} {H' : Hp} {h' : Heap} {kvs : List (Key × V)} {vs : List (Key × Value)} (z : kvs.length <= sizeLine) (hd : (a == sysModules) = false) (rel : KV kvs vs) (dd : h'.DictOf (mixKind P w) a vs) :
    ObjOk P w H' h' a (.dK kvs) := ⟨z, hd, vs, rel, dd⟩
theorem d_setItem {H' : Hp} {Q : Unit -> Shared -> Prop} (hu : A.units + 1 < cLine) (I : Inv X pins σ H s) (g : DPut H a y v H') (ry : RelV y u) (rv : RelV v r) (h : ∀ s', Inv X pins σ H' s' -> Q () s') :
    wpAny (model X.prog X.w) A (setItem (.ref a) u r) Q E s := by
  rcases g with ⟨kvs, k, e, ey, l, eH⟩ | ⟨kvs, k, b, e, ey, eb, l, eH⟩
  · subst ey eH
    obtain ⟨z, hd, vs, rel, dd⟩ := dk_of I.hok e
    have hz : vs.length <= sizeLine := by rw [<- rel.length]; exact z
    have hl : (putK kvs k v).length <= sizeLine := by have := length_putK kvs k v; omega
    refine wpAny_setItem_pairs (hsz := hz) (kV_is ry) dd fun h' dd' hs => h _ ?_
    have he : ∃ q, h'.get? a = some q := let ⟨q, _, _, hq, _⟩ := dd'; ⟨q, hq⟩
    exact d_write I (by rw [e]; exact True.intro) hs he (dk_new hl hd (rel.put k rv) dd')
  · subst ey eH
    cases (show u = Value.ref b from ry)
    obtain ⟨z, hd, xs, rel, dd⟩ := dt_of I.hok e
    have hz : xs.length <= sizeLine := by rw [<- Paired.length rel]; exact z
    have hl : (putK kvs k v).length <= sizeLine := by have := length_putK kvs k v; omega
    refine wpAny_setItem_heap (hsz := hz) (tupleKind_room_in1 hu) (key_of I.hok eb) dd fun h' dd' hs => h _ ?_
    obtain ⟨q, es, ep, hq, h2, h3, h4, _, h5⟩ := dd'
    refine d_write I (by rw [e]; exact True.intro) hs ⟨q, hq⟩ ⟨hl, hd, _, (rel.put k eb rv).keeps fun c ys ec => ?_, q, es, ep, hq, h2, h3, h4, h5⟩
    rw [zj4 (ne_of ec e (fun z => nomatch z))]
    exact ec
end
section
variable {X : Cx} {pins : List (Addr × Obj)} {σ : St} {H : Hp} {s : Shared} {a : Addr} {kvs : List (Key × V)} {k : Key} {u : Value} {A : Around} {E : Value -> Shared -> Prop}
end
def tDIn (ty td : TE) : TE := fun σ H Q => ty σ H fun y H1 => td σ H1 fun x H2 => ∃ a o, x = .ref a /\ DGet H2 a y o /\ Q (.bl o.isSome) H2
def sDPut (td ty tv : TE) : TS := fun D σ H => tv σ H fun v H1 => td σ H1 fun x H2 => ty σ H2 fun y H3 => ∃ a H4, x = .ref a /\ DPut H3 a y v H4 /\ D.nx σ H4
section
variable {X : Cx} {o i e value : Expr} {pos pos' tpos : Pos} {td ty tv : TE}
theorem pc_din (hu : X.A.units + 1 < cLine) (hi : PE X i ty) (ho : PE X o td) : PC X .In i o (tDIn ty td) := by
  intro pins s σ H Q I h
  refine thn (hi pins s σ H _ I h) fun iv s1 ⟨y, H1, I1, ry, q1⟩ => thn (ho pins s1 σ H1 _ I1 q1) fun u s2 ⟨x, H2, I2, rx, a, ov, ex, g, q2⟩ => ?_
  subst ex
  obtain rfl : u = Value.ref a := rx
  exact d_in hu I2 g ry fun s3 I3 => ⟨.bl ov.isSome, H2, I3, rfl, q2⟩
theorem ps_dput (hu : X.A.units + 1 < cLine) (ho : PE X o td) (hi : PE X i ty) (hv : PE X value tv) (hs : swapsWith value (some (.Subscript o i pos')) pos.line X.env = pure false) :
    PS X (.Assign [.Subscript o i pos'] value pos) (sDPut td ty tv) := by
  intro pins s σ H D I h
  refine wpAny_Assign_Subscript (thn (hv pins s σ H _ I h) fun r s1 ⟨v, H1, I1, rv, q1⟩ => thn (ho pins s1 σ H1 _ I1 q1) fun u s2 ⟨x, H2, I2, rx, q2⟩ => thn (hi pins s2 σ H2 _ I2 q2) fun iv s3 ⟨y, H3, I3, ry, a, H4, ex, g, q3⟩ => ?_) hs
  subst ex
  obtain rfl : u = Value.ref a := rx
  exact d_setItem hu I3 g ry rv fun s4 I4 => ⟨σ, H4, I4, q3⟩
end
theorem dk_empty {P : Program} {w : World} {H : Hp} (h : Heap) (hb : sysModules < h.objs.size) : ObjOk P w H (h.push { cls := .type "dict", data := .dict #[] }) h.objs.size (.dK []) :=
  ⟨Nat.zero_le _, beq_eq_false_iff_ne.mpr (Ne.symm (Nat.ne_of_lt hb)), [], .nil, Heap.DictOf.new h⟩
def tDNewK : TE := fun _ H Q => ∀ p, H p = none -> Q (.ref p) (upd H p (.dK []))
section
variable {X : Cx} {pos : Pos}
theorem pe_dnewK : PE X (.Dict [] [] pos) tDNewK := fun pins s σ H Q I h =>
  wpAny_Dict_empty ⟨.ref s.heap.objs.size, _, I.laid (a := s.heap.objs.size) (o := .dK []) (t' := s.toks) (fun _ _ q => Heap.get?_push_of_some _ q) (Nat.le_refl _) (dk_empty s.heap I.big), rfl, h _ (I.hok.fresh (Nat.le_refl _))⟩
end
section
variable {X : Cx} {pins : List (Addr × Obj)} {σ : St} {H : Hp} {s : Shared} {a : Addr} {y d : V} {u r : Value} {o : Option V} {A : Around} {E : Value -> Shared -> Prop}
end
section
variable {X : Cx} {o e f : Expr} {apos cpos : Pos} {td ty tx : TE}
end
section
variable {X : Cx} {pins : List (Addr × Obj)} {σ : St} {H : Hp} {s : Shared} {a : Addr} {kvs : List (Key × V)} {A : Around} {E : Value -> Shared -> Prop}
end
section
variable {X : Cx} {pins : List (Addr × Obj)} {σ : St} {H : Hp} {s : Shared} {a : Addr} {y : V} {u : Value} {A : Around} {E : Value -> Shared -> Prop}
end
def rl (scope osc : Scope) : Scope :=
  { scope with names := scope.names.map fun (n, k) => if (k == .free && osc.kind == .function && osc.names.lookup n == some .cell) then (n, .cell) else (n, k) }
def cloL (env : Env) : List (Str × NameKind) -> List (Str × Addr) -> List (Str × Addr)
  | [], cs => cs
  | (n, k) :: r, cs => if (k == NameKind.free) = true then cloL env r ((n, (env.cells.lookup n).getD 0) :: cs) else cloL env r cs
theorem closureFor_go {env : Env} : ∀ (names : List (Str × NameKind)) (cs : List (Str × Addr)), (∀ x ∈ names, x.2 = .free -> ∃ c, env.cells.lookup x.1 = some c) ->
    (forIn names cs fun (x : Str × NameKind) (r : List (Str × Addr)) => if (x.2 == NameKind.free) = true then (do let y <- cellOf env x.1; pure (ForInStep.yield ((x.1, y) :: r))) else (pure (ForInStep.yield r) : Sem _)) = (pure (cloL env names cs) : Sem _)
  | [], cs, _ => rfl
  | (n, k) :: r, cs, h => by
    have ih := fun cs' => closureFor_go (env := env) r cs' fun x hx => h x (List.mem_cons_of_mem _ hx)
    rw [List.forIn_cons]
    by_cases hk : (k == NameKind.free) = true
    · obtain ⟨c, hc⟩ := h (n, k) List.mem_cons_self (by simpa using hk)
      have hc' : env.cells.lookup n = some c := hc
      have e1 : cellOf env n = (pure c : Sem Addr) := by unfold cellOf; rw [hc']
      simp only [hk, if_true, e1, pure_bind]
      rw [ih]
      have e2 : cloL env ((n, k) :: r) cs = cloL env r ((n, c) :: cs) := by
        show (if (k == NameKind.free) = true then cloL env r ((n, (env.cells.lookup n).getD 0) :: cs) else cloL env r cs) = _
        rw [if_pos hk, hc'] <;> rfl
      rw [e2]
    · simp only [hk, if_false, pure_bind]
      show (forIn r cs _ : Sem _) = _
      rw [ih]
      have e2 : cloL env ((n, k) :: r) cs = cloL env r cs := by
        show (if (k == NameKind.free) = true then cloL env r ((n, (env.cells.lookup n).getD 0) :: cs) else cloL env r cs) = _
        rw [if_neg hk]
      rw [e2]
theorem closureFor_is {scope : Scope} {env : Env} (h : ∀ x ∈ scope.names, x.2 = .free -> ∃ c, env.cells.lookup x.1 = some c) : closureFor scope env = pure (cloL env scope.names []) := by
  have q := closureFor_go scope.names [] h
  show ((forIn scope.names ([] : List (Str × Addr)) fun (x : Str × NameKind) (r : List (Str × Addr)) => if (x.2 == NameKind.free) = true then (do let y <- cellOf env x.1; pure (ForInStep.yield ((x.1, y) :: r))) else (pure (ForInStep.yield r) : Sem _)) >>= fun cs => pure cs) = _
  rw [q, pure_bind]
theorem cloL_sub {env : Env} : ∀ (names : List (Str × NameKind)) (cs : List (Str × Addr)), (∀ x ∈ names, x.2 = .free -> ∃ c, env.cells.lookup x.1 = some c) -> (∀ x c, cs.lookup x = some c -> env.cells.lookup x = some c) ->
    ∀ x c, (cloL env names cs).lookup x = some c -> env.cells.lookup x = some c
  | [], _, _, h, x, c, e => h x c e
  | (n, k) :: r, cs, hf, h, x, c, e => by
    have hr : ∀ x ∈ r, x.2 = .free -> ∃ c, env.cells.lookup x.1 = some c := fun x hx => hf x (List.mem_cons_of_mem _ hx)
    unfold cloL at e
    by_cases hk : (k == NameKind.free) = true
    · rw [if_pos hk] at e
      obtain ⟨c', hc⟩ := hf (n, k) List.mem_cons_self (by simpa using hk)
      have hc' : env.cells.lookup n = some c' := hc
      refine cloL_sub r _ hr (fun y d q => ?_) x c e
      rw [List.lookup_cons] at q
      cases hy : y == n with
      | true =>
        rw [hy] at q
        have : y = n := by simpa using hy
        subst this
        rw [hc'] at q
        cases q
        exact hc'
      | false => rw [hy] at q; exact h y d q
    · rw [if_neg hk] at e
      exact cloL_sub r cs hr h x c e
theorem cloL_keep {env : Env} : ∀ (names : List (Str × NameKind)) (cs : List (Str × Addr)) (x : Str), (∃ c, cs.lookup x = some c) -> ∃ c, (cloL env names cs).lookup x = some c
  | [], _, _, h => h
  | (n, k) :: r, cs, x, h => by
    unfold cloL
    split
    · refine cloL_keep r _ x ?_
      rw [List.lookup_cons]
      cases hy : x == n with
      | true => exact ⟨_, rfl⟩
      | false => exact h
    · exact cloL_keep r cs x h
theorem cloL_has {env : Env} : ∀ (names : List (Str × NameKind)) (cs : List (Str × Addr)) (x : Str), (x, NameKind.free) ∈ names -> ∃ c, (cloL env names cs).lookup x = some c
  | [], _, _, h => (nomatch h)
  | (n, k) :: r, cs, x, h => by
    unfold cloL
    rcases List.mem_cons.mp h with e | h
    · cases e
      rw [if_pos (by rfl)]
      exact cloL_keep r _ _ ⟨_, by rw [List.lookup_cons, beq_self_eq_true]⟩
    · split
      · exact cloL_has r _ x h
      · exact cloL_has r cs x h
structure CSc (osc : Scope) (oN N : List Str) (scope : Scope) (fv : List (Option Nat)) : Prop where
  kind : scope.kind = .function
  okind : osc.kind = .function
  nocell : ∀ y ∈ scope.names, y.2 ≠ .cell
  loc : ∀ y ∈ scope.names, y.2 = .local -> scope.names.lookup y.1 = some .local
  fre : ∀ y ∈ scope.names, y.2 = .free -> osc.names.lookup y.1 = some .cell
  own : ∀ y ∈ (rl scope osc).names, y.2 ≠ .free
  len : fv.length = N.length
  up : ∀ (i j : Nat), i < 20 -> fv[i]? = some (some j) -> oN[j]? = N[i]? /\ ∀ x, N[i]? = some x -> (rl scope osc).names.lookup x = some .cell /\ osc.names.lookup x = some .cell
  few : N.length < 20
def upS (fv : List (Option Nat)) (σ : St) : St := fv.map fun o => match o with
  | none => none
  | some j => (σ[j]?).join
def cxC (X : Cx) (N : List Str) (scope : Scope) (cl : List (Str × Addr)) (C : Addr) (fp : List Addr) (s : Shared) (H : Hp) : Cx where
  prog := X.prog
  w := X.w
  K := X.K
  mg := X.mg
  base := X.base
  A := X.A
  N := N
  s₀ := s
  H₀ := H
  env := compEnvC scope cl C X.env
  outer := X.stack
  stack := X.stack
  ex := fp
  fn := fun _ => false
  calm := true
  pn := []
  xe := fun _ _ => False
def PIf (Y : Cx) (ifs : List Expr) (t : TT) : Prop :=
  ∀ (pins : List (Addr × Obj)) (s : Shared) (σ : St) (H : Hp) (Q : Bool -> Hp -> Prop), Inv Y pins σ H s -> t σ H Q ->
    wpAny (model Y.prog Y.w) Y.A (forIn ifs true fun c r => if r = true then do let ok <- isTrue c Y.env (eval c Y.env); pure (ForInStep.yield ok) else pure (ForInStep.yield r)) (TP Y pins σ Q) Y.xe s
def tTrue : TT := fun _ H Q => Q true H
theorem pif_nil {Y : Cx} : PIf Y [] tTrue := fun _ _ _ H _ I h => wpAny_tests_nil ⟨H, I, h⟩
theorem pif_one {Y : Cx} {c : Expr} {t : TT} (h : PT Y c t) : PIf Y [c] t := fun pins s σ H Q I hw => wpAny_tests_one (h pins s σ H Q I hw)
def rLC (g : TG) (tc : TT) (te : TE) (τ0 : St) (Q : VK) : It -> Hp -> Prop := fun J H1 => ∀ acc, H1 acc = none ->
  ∃ W : Nat -> Nat -> St -> Hp -> Prop, (∃ m, W 0 m τ0 (upd H1 acc (.lst []))) /\ ∀ i m τ H, W i m τ H ->
    (J.stop i H /\ Q (.ref acc) H) ∨ (J.go i H /\ ∃ N : St -> Hp -> Prop, (∀ τ' H', N τ' H' -> ∃ m', m' < m /\ W (i + 1) m' τ' H') /\
      ∀ x H', J.yld i H x H' -> g x τ H' fun τ2 H2 => tc τ2 H2 fun b H3 => if b = true then te τ2 H3 fun v H4 => ∃ ys, H4 acc = some (.lst ys) /\ ys.length < sizeLine /\ N τ2 (upd H4 acc (.lst (ys ++ [v]))) else N τ2 H3)
section
variable {prog : Program} {w : World} {A : Around} {R : Result -> Shared -> Prop} {s : Shared}
theorem codeAny_compLoop_own {elt target iter : Expr} {ifs : List Expr} {scope : Scope} {pos : Pos} {it acc : Value} {env : Env} (I : Nat -> Shared -> Prop)
    (turn : ∀ n s, I n s -> wpAny (model prog w) A (pyNext it) (fun r s₁ => match r with
      | none => R (.ok .next) s₁
      | some v => wpAny (model prog w) A (letOwnedTupleGo target it v) (fun _ s₁' => wpAny (model prog w) A (assign target env v) (fun _ s₂ =>
          wpAny (model prog w) A (forIn ifs true fun c r => if r = true then do let ok <- isTrue c env (eval c env); pure (ForInStep.yield ok) else pure (ForInStep.yield r)) (fun ok s₃ =>
            if ok = true then wpAny (model prog w) A (eval elt env) (fun x s₄ =>
              wpAny (model prog w) A (call (.builtin "list.append") [acc, x]) (fun _ s₅ => ∃ m, m < n /\ I m s₅) (fun _ _ => False) s₄) (fun _ _ => False) s₃
            else ∃ m, m < n /\ I m s₃) (fun _ _ => False) s₂) (fun _ _ => False) s₁') (fun _ _ => False) s₁) (fun _ _ => False) s)
    (n : Nat) (h : I n s) :
    codeAny (model prog w) A (.compLoop (.ListComp elt [⟨target, iter, ifs, 0⟩] scope pos) 0 it acc env) R s := by
  refine codeAny_loop rfl I (fun n s hI => ?_) n h
  show wpAny _ A ((compTurn (.ListComp elt [⟨target, iter, ifs, 0⟩] scope pos) 0 it acc env).onRaise (fun x => do noteFrame x env; theTreesLotGoes x)) _ _ s
  refine wpAny_noted ?_
  rw [compTurn_list]
  refine wpAny_bind (wpAny_standAt (wpAny_bind (wpAny_mono (turn n s hI) (fun r s₁ h₁ => ?_) fun _ _ h' => h'.elim)))
  cases r with
  | none => exact wpAny_pure h₁
  | some v =>
    refine wpAny_bind (wpAny_mono h₁ (fun _ s₁' h₁' => ?_) fun _ _ h' => h'.elim)
    refine wpAny_bind (wpAny_mono h₁' (fun _ s₂ h₂ => wpAny_bind (wpAny_mono h₂ (fun ok s₃ h₃ => ?_) fun _ _ h' => h'.elim)) fun _ _ h' => h'.elim)
    cases ok with
    | false => exact wpAny_pure ⟨rfl, h₃⟩
    | true =>
      exact wpAny_bind (wpAny_bind (wpAny_mono h₃ (fun x s₄ h₄ => wpAny_bind (wpAny_mono h₄ (fun _ s₅ h₅ => wpAny_pure (wpAny_pure ⟨rfl, h₅⟩)) fun _ _ h' => h'.elim)) fun _ _ h' => h'.elim))
end
section
variable {X : Cx} {elt target iter : Expr} {ifs : List Expr} {scope : Scope} {pos : Pos} {N : List Str} {fv : List (Option Nat)} {wi : TI} {g : TG} {tc : TT} {te : TE}
theorem lookup_join {σ : St} {j : Nat} {v : V} (h : (σ[j]?).join = some v) : σ[j]? = some (some v) := by
  cases e : σ[j]? with
  | none => rw [e] at h; cases h
  | some o => rw [e] at h; exact congrArg some h
theorem cxC_inv {pins : List (Addr × Obj)} {σ : St} {H : Hp} {s s4 : Shared} {fp : List Addr} {C : Addr} {m : Str -> Option Value} (hc : X.calm = true) (S : CSc X.env.scope X.N N scope fv) (I : Inv X pins σ H s) (hC : s.heap.objs.size <= C)
    (hf : ∀ b ∈ fp, b < s.heap.objs.size /\ FpOk X pins H b) (hk : ∀ b o, s.heap.get? b = some o -> s4.heap.get? b = some o) (hn : s4.heap.Ns C m) (hos : s4.os = s.os) (hg : s4.gens = s.gens) :
    Inv (cxC X N scope (cloL X.env scope.names []) C fp s H) [] (upS fv σ) H s4 := by
  have hfree : ∀ x ∈ scope.names, x.2 = .free -> ∃ c, X.env.cells.lookup x.1 = some c := fun x hx e => I.ok.has x.1 (.inl (S.fre x hx e))
  have sub := cloL_sub scope.names [] hfree (fun _ _ e => nomatch e)
  have hsz := I.sz
  have fresh : ∀ a, s.heap.objs.size <= a -> H a = none := fun a ha => I.hok.fresh ha
  refine ⟨⟨I.ok.mod, S.kind, I.ok.glob, I.ok.blt, hC, fun x y c e1 e2 => I.ok.inj x y c (sub x c e1) (sub y c e2), fun x hx => ?_, fun x c z _ => (nomatch z), fun _ => I.ok.hd hc, I.ok.frames, .inl rfl, fun b hb => ⟨?_, fun x c e => (hf b hb).2.2.2.2.2.1 x c (sub x c e)⟩,
      I.bs, Nat.le_trans I.ok.bsz hsz, fun b o e hb => ?_, fun b hb z => ?_, I.stack, I.stkFree⟩,
    hos, ?_, Un.kept hk, ⟨m, hn, fun i x v e1 e2 e3 => ?_⟩, fun x c e => ?_, fresh C hC, fun x c e => I.freeC x c (sub x c e), fun p hp => absurd (show p ∈ ([] : List (Addr × Obj)) from hp) (by simp), I.hok.kept hk, ?_⟩
  · have hx' : (rl scope X.env.scope).names.lookup x = some .cell ∨ (rl scope X.env.scope).names.lookup x = some .free := hx
    rcases hx' with e | e
    · have hm := PySem.mem_of_lookup e
      obtain ⟨⟨n, k⟩, hm', e'⟩ := List.mem_map.mp hm
      have e'' : (if (k == NameKind.free && X.env.scope.kind == .function && X.env.scope.names.lookup n == some .cell) = true then (n, NameKind.cell) else (n, k)) = (x, NameKind.cell) := e'
      by_cases hcnd : (k == NameKind.free && X.env.scope.kind == .function && X.env.scope.names.lookup n == some .cell) = true
      · rw [if_pos hcnd] at e''
        have en : n = x := congrArg Prod.fst e''
        have ek : k = NameKind.free := by
          rw [Bool.and_eq_true, Bool.and_eq_true] at hcnd
          simpa using hcnd.1.1
        subst en ek
        exact cloL_has scope.names [] n hm'
      · rw [if_neg hcnd] at e''
        have ek : k = NameKind.cell := congrArg Prod.snd e''
        exact absurd ek (S.nocell _ hm')
    · exact absurd rfl (S.own _ (PySem.mem_of_lookup e))
  · exact Nat.ne_of_lt (Nat.lt_of_lt_of_le (hf b hb).1 hC)
  · rcases (hf b hb).2.2.2.2.1 with z | z
    · exact I.ok.noex b o e z
    · exact absurd (Nat.lt_of_lt_of_le (Heap.lt_size e) (Nat.le_trans I.ok.bsz z)) (Nat.lt_irrefl _)
  · rcases List.mem_cons.mp (I.stkSub b z) with q | q
    · exact (hf b hb).2.2.1 q
    · exact (hf b hb).2.2.2.1 q
  · show AllBare s4.gens
    rw [hg]
    exact I.bare
  · have hil : i < fv.length := by
      have := (List.getElem?_eq_some_iff.mp e2).1
      unfold upS at this
      rwa [List.length_map] at this
    have hi20 : i < 20 := by have := S.few; have := S.len; omega
    unfold upS at e2
    rw [List.getElem?_map] at e2
    cases ef : fv[i]? with
    | none => rw [ef] at e2; cases e2
    | some o =>
      rw [ef] at e2
      cases o with
      | none => cases e2
      | some j =>
        have e2' : (σ[j]?).join = some v := Option.some.inj e2
        have hσ := lookup_join e2'
        obtain ⟨en, hx⟩ := S.up i j hi20 ef
        obtain ⟨hcY, hcX⟩ := hx x e1
        obtain ⟨mX, hnX, hl⟩ := I.loc
        obtain ⟨u, r, l⟩ := hl j x v (en.trans e1) hσ (.inr (.inl hcX))
        refine ⟨u, r, ?_⟩
        rcases l with ⟨k, _⟩ | ⟨k, c, ec, cl⟩
        · have k' : X.env.scope.names.lookup x = some .local := k
          rw [hcX] at k'
          cases k'
        · obtain ⟨oc, hoc, hd⟩ := cl
          have hm : (x, NameKind.free) ∈ scope.names := by
            have hm := PySem.mem_of_lookup hcY
            obtain ⟨⟨n, k'⟩, hm', e'⟩ := List.mem_map.mp hm
            have e'' : (if (k' == NameKind.free && X.env.scope.kind == .function && X.env.scope.names.lookup n == some .cell) = true then (n, NameKind.cell) else (n, k')) = (x, NameKind.cell) := e'
            by_cases hcnd : (k' == NameKind.free && X.env.scope.kind == .function && X.env.scope.names.lookup n == some .cell) = true
            · rw [if_pos hcnd] at e''
              have en' : n = x := congrArg Prod.fst e''
              have ek : k' = NameKind.free := by
                rw [Bool.and_eq_true, Bool.and_eq_true] at hcnd
                simpa using hcnd.1.1
              subst en' ek
              exact hm'
            · rw [if_neg hcnd] at e''
              have ek : k' = NameKind.cell := congrArg Prod.snd e''
              exact absurd ek (S.nocell _ hm')
          obtain ⟨c', hc'⟩ := cloL_has (env := X.env) scope.names [] x hm
          have := sub x c' hc'
          rw [ec] at this
          cases this
          exact .inr ⟨.inl hcY, c, hc', oc, hk c oc hoc, hd⟩
  · obtain ⟨v, oc, hoc, hd⟩ := I.cell x c (sub x c e)
    exact ⟨v, oc, hk c oc hoc, hd⟩
  · show (upS fv σ).length = N.length
    unfold upS
    rw [List.length_map]
    exact S.len
theorem comp_core (hc : X.calm = true) (hi : PI X target iter wi) (S : CSc X.env.scope X.N N scope fv)
    (hB : ∀ cl C fp s H, PG (cxC X N scope cl C fp s H) target g /\ PIf (cxC X N scope cl C fp s H) ifs tc /\ PE (cxC X N scope cl C fp s H) elt te)
    {pins : List (Addr × Obj)} {s : Shared} {σ : St} {H : Hp} (I : Inv X pins σ H s) {use : Option (Value -> Sem Unit)} {Q : VK} {Post : Value -> Shared -> Prop} {p2 : Pos}
    (h : wi σ H (rLC g tc te (upS fv σ) Q))
    (hPost : ∀ (acc C : Addr) (s' : Shared) (H' : Hp) (m : Str -> Option Value), Inv X pins σ H' s' -> s'.heap.Ns C m -> FpOk X pins H' C -> Q (.ref acc) H' -> compPost (model X.prog X.w) X.A X.xe use Post (.ref acc) C (.ok .next) s')
    (hs : ∀ x, foldedSetIterable iter X.env x = pure x) :
    wpAny (model X.prog X.w) X.A (comprehension (.ListComp elt [⟨target, iter, ifs, 0⟩] scope pos) scope X.env p2 (newList []) false (eval iter X.env) use) Post X.xe s := by
  have hfree : ∀ x ∈ scope.names, x.2 = .free -> ∃ c, X.env.cells.lookup x.1 = some c := fun x hx e => I.ok.has x.1 (.inl (S.fre x hx e))
  refine wpAny_comprehension_free (use := use) rfl hs (closureFor_is hfree) S.kind S.loc (thn (hi pins s σ H _ I h) fun xv s1 h1 => thn h1 fun itv s2 h2 => ?_)
  obtain ⟨it, fp, tn, J, H2, e, I2, T, st2, f2, rd⟩ := h2
  subst e
  have hacc : H2 s2.heap.objs.size = none := I2.fresh
  obtain ⟨W, ⟨m0, w0⟩, turn⟩ := rd s2.heap.objs.size hacc
  refine wpAny_newObj_type (wpAny_newFunctionEnv S.nocell (by intro y hy; simp at hy) (fun h₁ hns₁ hsb₁ => ?_) S.kind)
  dsimp only at hns₁ hsb₁ ⊢
  have IA : Inv X pins σ (upd H2 s2.heap.objs.size (.lst [])) { s2 with heap := s2.heap.push { cls := .type "list", data := .seq ([] : List Value).toArray } } := I2.lnew (t' := s2.toks) .nil (Nat.zero_le _)
  generalize hHA : s2.heap.push { cls := .type "list", dict := none, data := .seq ([] : List Value).toArray } = hA at hns₁ hsb₁ IA ⊢
  have hAsz : hA.objs.size = s2.heap.objs.size + 1 := by rw [<- hHA, Heap.size_push]
  have hkA : ∀ b o, s2.heap.get? b = some o -> hA.get? b = some o := fun b o e => by rw [<- hHA]; exact Heap.get?_push_of_some _ e
  have hk1 : ∀ b o, hA.get? b = some o -> h₁.get? b = some o := fun b o e => hsb₁.extBut b o (Nat.ne_of_lt (Heap.lt_size e)) (Heap.get?_push_of_some _ e)
  have fpl : ∀ b ∈ fp, b < s2.heap.objs.size := fun b hb => by
    obtain ⟨o, e, _⟩ := T.obj 0 _ st2 b hb
    exact Heap.lt_size e
  have fA : ∀ b ∈ fp, b < hA.objs.size /\ FpOk X pins (upd H2 s2.heap.objs.size (.lst [])) b := fun b hb => ⟨by rw [hAsz]; exact Nat.lt_succ_of_lt (fpl b hb), by rw [zj4 (Nat.ne_of_lt (fpl b hb))]; exact (f2 b hb).1, (f2 b hb).2⟩
  let sA : Shared := { s2 with heap := hA }
  let Y : Cx := cxC X N scope (cloL X.env scope.names []) hA.objs.size fp sA (upd H2 s2.heap.objs.size (.lst []))
  obtain ⟨hG, hIf, hE⟩ := hB (cloL X.env scope.names []) hA.objs.size fp sA (upd H2 s2.heap.objs.size (.lst []))
  have loop : ∀ s4 : Shared, s4 = { s2 with heap := h₁, toks := s2.toks + ([] : List (Str × Value)).length } ->
      codeAny (model X.prog X.w) X.A (.compLoop (.ListComp elt [⟨target, iter, ifs, 0⟩] scope pos) 0 (.ref it) (.ref s2.heap.objs.size) (compEnvC scope (cloL X.env scope.names []) hA.objs.size X.env))
        (compPost (model X.prog X.w) X.A X.xe use Post (.ref s2.heap.objs.size) hA.objs.size) s4 := by
    rintro s4 rfl
    have IY : Inv Y [] (upS fv σ) (upd H2 s2.heap.objs.size (.lst [])) { s2 with heap := h₁, toks := s2.toks + ([] : List (Str × Value)).length } :=
      cxC_inv hc S IA (Nat.le_refl _) fA hk1 hns₁ rfl rfl
    have stat : ∀ {H' : Hp}, (∀ b ∈ fp, H' b = none) -> ∀ b ∈ fp, FpOk Y [] H' b := fun hn b hb =>
      ⟨hn b hb, (IY.ok.exf b hb).1, IY.ok.exfs b hb, .inl hb, (IY.ok.exf b hb).2, fun p hp => absurd (show p ∈ ([] : List (Addr × Obj)) from hp) (by simp)⟩
    refine codeAny_compLoop_own (fun n s' => ∃ i τ H', Inv Y [] τ H' s' /\ tn i s'.heap /\ (∀ b ∈ fp, H' b = none) /\ W i n τ H') ?_ m0
      ⟨0, upS fv σ, _, IY, T.keep _ _ _ st2 fun b hb o e => hk1 b o (hkA b o e), fun b hb => (fA b hb).2.1, w0⟩
    rintro n s5 ⟨i, τ, H5, I5, st5, fr5, w5⟩
    rcases turn i n τ H5 w5 with ⟨stop, q⟩ | ⟨go, NN, hN, step⟩
    · refine wpAny_mono (T.done Y rfl rfl rfl rfl i [] s5 τ H5 (fun _ _ => False) I5 (stat fr5) st5 stop) (fun r s6 ⟨hr, I6⟩ => ?_) fun _ _ z => z
      subst hr
      obtain ⟨m6, hn6, _⟩ := id I6.loc
      have IX : Inv X pins σ H5 s6 := IA.call' I6.os I6.base I6.hok I6.bare fun b hb => ⟨(fA b hb).2.2.2.2.1, (fA b hb).2.2.1, (fA b hb).2.2.2.2.2.1, (fA b hb).2.2.2.2.2.2⟩
      exact hPost _ _ _ _ m6 IX hn6 (IA.fpOk (Nat.le_refl _) I6.free) q
    · refine wpAny_mono (T.item Y rfl rfl rfl rfl i [] s5 τ H5 (fun _ _ => False) I5 (stat fr5) st5 go) (fun r s6 ⟨u, hr, h6⟩ => ?_) fun _ _ z => z
      subst hr
      refine wpAny_mono h6 (fun _ s7 ⟨x, H7, I7, r7, y7, st7, fr7⟩ => ?_) fun _ _ z => z
      have I7' := I7.pinned (stat fr7) (T.obj _ _ st7)
      refine wpAny_mono (hG _ s7 τ H7 x u _ I7' r7 (step x H7 y7)) (fun _ s8 ⟨τ8, H8, I8, q8⟩ => ?_) fun _ _ z => z
      refine wpAny_mono (hIf _ s8 τ8 H8 _ I8 q8) (fun b s9 ⟨H9, I9, q9⟩ => ?_) fun _ _ z => z
      have again : ∀ {τ' : St} {H' : Hp} {s' : Shared}, Inv Y ([] ++ pinsAt fp s7.heap) τ' H' s' -> NN τ' H' -> ∃ m, m < n /\ ∃ i τ H', Inv Y [] τ H' s' /\ tn i s'.heap /\ (∀ b ∈ fp, H' b = none) /\ W i m τ H' := fun {τ' H' s'} I' n' => by
        obtain ⟨m', hm, w'⟩ := hN τ' H' n'
        refine ⟨m', hm, i + 1, τ', H', I'.unpinned, T.keep _ _ _ st7 fun b hb o e => (I'.pin (b, o) (List.mem_append_right _ (List.mem_append_right _ (mem_pinsAt hb e)))).1, fun b hb => ?_, w'⟩
        obtain ⟨o, e, d⟩ := T.obj _ _ st7 b hb
        exact (I'.pin (b, o) (List.mem_append_right _ (List.mem_append_right _ (mem_pinsAt hb e)))).2.1
      cases b with
      | false => exact again I9 q9
      | true =>
        show wpAny _ _ _ _ _ _
        refine wpAny_mono (hE _ s9 τ8 H9 _ I9 q9) (fun v s10 ⟨y, H10, I10, r10, ys, hy, hz, q10⟩ => ?_) fun _ _ z => z
        refine wpAny_mono (mt_append (X := Y) _ s10 τ8 H10 (.ref s2.heap.objs.size) [y] (.ref s2.heap.objs.size) [v] (fun _ H' => NN τ8 H') I10 rfl (.cons r10 .nil) ⟨_, ys, y, rfl, rfl, hy, hz, q10⟩) (fun _ s11 ⟨_, H11, I11, _, q11⟩ => ?_) fun _ _ z => z
        exact again I11 q11
  have st1 : tn 0 h₁ := T.keep _ _ _ st2 fun b hb o e => hk1 b o (hkA b o e)
  exact codeAny_compStart_list (loop _ rfl) (T.self _ 0 _ _ _ st1 (loop _ rfl))
def tLC (wi : TI) (g : TG) (tc : TT) (te : TE) (fv : List (Option Nat)) : TE := fun σ H Q => wi σ H (rLC g tc te (upS fv σ) Q)
theorem pe_lc (hc : X.calm = true) (hi : PI X target iter wi) (S : CSc X.env.scope X.N N scope fv)
    (hB : ∀ cl C fp s H, PG (cxC X N scope cl C fp s H) target g /\ PIf (cxC X N scope cl C fp s H) ifs tc /\ PE (cxC X N scope cl C fp s H) elt te)
    (hs : ∀ x, foldedSetIterable iter X.env x = pure x := by intro _; rfl) : PE X (.ListComp elt [⟨target, iter, ifs, 0⟩] scope pos) (tLC wi g tc te fv) := by
  intro pins s σ H Q I h
  rw [eval_ListComp]
  refine comp_core hc hi S hB I (use := none) h (fun acc C s' H' m I' hn hf q => ⟨m, hn, fun h' sb => ?_⟩) hs
  obtain ⟨f0, f1, f2, f3, f4, f5⟩ := hf
  exact ⟨.ref acc, H', I'.turned (t' := s'.toks) (fun b o hb e => sb.extBut b o hb e) f0 f1 f3 f4 f5, rfl, q⟩
theorem ps_lc {i : Nat} {x : Str} {px spos : Pos} (hN : X.N.Nodup) (hi' : X.N[i]? = some x) (hx : X.env.scope.names.lookup x = some .local) (hc : X.calm = true) (hi : PI X target iter wi) (S : CSc X.env.scope X.N N scope fv)
    (hB : ∀ cl C fp s H, PG (cxC X N scope cl C fp s H) target g /\ PIf (cxC X N scope cl C fp s H) ifs tc /\ PE (cxC X N scope cl C fp s H) elt te)
    (hsw : swapsWith (.ListComp elt [⟨target, iter, ifs, 0⟩] scope pos) (some (.Name x px)) spos.line X.env = pure true)
    (hs : ∀ x, foldedSetIterable iter X.env x = pure x := by intro _; rfl) : PS X (.Assign [.Name x px] (.ListComp elt [⟨target, iter, ifs, 0⟩] scope pos) spos) (tAsg (tLC wi g tc te fv) (gName i)) := by
  intro pins s σ H D I h
  rw [exec_Assign_Name_used _ _ _ _ hsw]
  refine wpAny_bind (wpAny_standAt (wpAny_bind ?_))
  show wpAny _ _ (do let _ <- comprehension (.ListComp elt [⟨target, iter, ifs, 0⟩] scope pos) scope X.env _ (newList []) false (eval iter X.env) (some (assign (.Name x px) X.env))) _ _ s
  refine wpAny_bind (wpAny_mono (comp_core hc hi S hB I (use := some (assign (.Name x px) X.env)) (Post := fun _ s' => SP X pins D .next s') h (fun acc C s' H' m I' hn hf q => ?_) hs) (fun _ s' hq => wpAny_pure (wpAny_pure hq)) fun _ _ e => e)
  show wpAny _ _ (assign (.Name x px) X.env (.ref acc)) _ _ _
  refine wpAny_assign_Name (store_ok2 I' hN hi' (.inl hx) (show RelV (.ref acc) _ from rfl) (fun s2 I2 ⟨a, sb2, ha⟩ => ?_) (.inr hx))
  obtain ⟨f0, f1, f2, f3, f4, f5⟩ := hf
  have hne : C ≠ a := by
    rcases ha with z | z
    · rw [z]; exact f1
    · exact fun e => f4 x a z e.symm
  refine ⟨m, hn.sameBut sb2 hne, fun h' sb => ?_⟩
  exact ⟨_, H', I2.turned (t' := s2.toks) (fun b o hb e => sb.extBut b o hb e) f0 f1 f3 f4 f5, q⟩
end
def Bt (k : Nat) (i : Int) : Prop := i.natAbs < 2 ^ k
theorem Bt.mono {k m : Nat} {i : Int} (h : Bt k i) (hk : k <= m) : Bt m i := Nat.lt_of_lt_of_le h (Nat.pow_le_pow_right (by decide) hk)
theorem Bt.mul {a b : Nat} {i j : Int} (h : Bt a i) (h' : Bt b j) : Bt (a + b) (i * j) := by
  unfold Bt at *
  rw [Int.natAbs_mul, Nat.pow_add]
  exact Nat.mul_lt_mul'' h h'
theorem Bt.of_le {a : Nat} {i j : Int} (h : Bt a i) (h0 : 0 <= j) (h1 : j <= i) : Bt a j := by
  unfold Bt at *
  omega
theorem Bt.ok {a b : Nat} {i j : Int} (h : Bt a i) (h' : Bt b j) (hs : a + b <= 100000) : IntMulOk i j :=
  PySem.IntMulOk.of_le (PySem.intBits_le_iff.mpr h) (PySem.intBits_le_iff.mpr h') (by omega)
theorem Bt.log {a : Nat} {i : Int} (h : Bt a i) (h0 : 0 < i) (ha : a <= 9000) : i.natAbs.log2 < 9000 :=
  Nat.lt_of_lt_of_le ((Nat.log2_lt (by omega)).mpr h) ha
theorem ok_left {i j : Int} (h1 : -(2 ^ 64) < i) (h2 : i < 2 ^ 64) : IntMulOk i j := .of_left (intBits_le_64 h1 h2)
theorem ok_right {i j : Int} (h1 : -(2 ^ 64) < j) (h2 : j < 2 ^ 64) : IntMulOk i j := .of_right (intBits_le_64 h1 h2)
section
variable {X : Cx} {a b c e : Expr} {ta tb te : TE} {pos pos' : Pos} {k : Nat}
theorem op_mulG : OpR X (binaryOp .Mult) (rI IntMulOk fun i j => .int (i * j)) := opI fun _ _ _ _ _ _ _ hc q => mul_int q hc
theorem op_fdivG : OpR X (binaryOp .FloorDiv) (rI (fun _ j => 0 < j /\ j.natAbs.log2 < 9000) fun i j => .int (i / j)) := opI fun i j _ _ _ _ _ hc q => by
  have h1 : (0 : Int) < j := hc.1
  exact floordiv_int (by omega) (by rw [Int.fdiv_eq_ediv_of_nonneg i (by omega)]; exact q) (.inl (PyProof.noPylong_of_log2 hc.2))
def tI (f : Int -> V) (ta : TE) : TE := fun σ H Q => ta σ H fun x H1 => ∃ i, x = .int i /\ Q (f i) H1
theorem pe_divc {n : Int} (ha : PE X a ta) (h : 0 < n /\ n < 1073741824 := by decide) : PE X (.BinOp a .FloorDiv (.Constant (.int n) k pos') pos) (tI (fun i => .int (i / n)) ta) := by
  intro pins s σ H Q I hq
  refine pe_op op_fdiv ha pe_int pins s σ H Q I ?_
  refine (show ∀ t : TE, PE X a t -> _ from fun _ _ => ?_) ta ha
  exact (show tOp (rI CDiv fun i j => .int (i / j)) ta (tC (.int n)) σ H Q from by
    unfold tOp tC rI
    unfold tI at hq
    have : (fun x H1 => ∃ i, x = V.int i /\ Q (.int (i / n)) H1) = (fun x H1 => ∃ i j, x = V.int i /\ V.int n = V.int j /\ CDiv i j /\ Q (.int (i / j)) H1) := by
      funext x H1
      apply propext
      constructor
      · rintro ⟨i, e, q⟩; exact ⟨i, n, e, rfl, h, q⟩
      · rintro ⟨i, j, e, e', _, q⟩; cases e'; exact ⟨i, e, q⟩
    rw [this] at hq
    exact hq)
theorem pe_modc {n : Int} (ha : PE X a ta) (h : 0 < n := by decide) : PE X (.BinOp a .Mod (.Constant (.int n) k pos') pos) (tI (fun i => .int (i % n)) ta) := by
  intro pins s σ H Q I hq
  refine pe_op op_mod ha pe_int pins s σ H Q I ?_
  unfold tOp tC rI
  unfold tI at hq
  have : (fun x H1 => ∃ i, x = V.int i /\ Q (.int (i % n)) H1) = (fun x H1 => ∃ i j, x = V.int i /\ V.int n = V.int j /\ 0 < j /\ Q (.int (i % j)) H1) := by
    funext x H1
    apply propext
    constructor
    · rintro ⟨i, e, q⟩; exact ⟨i, n, e, rfl, h, q⟩
    · rintro ⟨i, j, e, e', _, q⟩; cases e'; exact ⟨i, e, q⟩
  rw [this] at hq
  exact hq
theorem pe_cmul {n : Int} (ha : PE X a ta) (h : -(2 ^ 64) < n /\ n < 2 ^ 64 := by decide) : PE X (.BinOp (.Constant (.int n) k pos') .Mult a pos) (tI (fun i => .int (n * i)) ta) := by
  intro pins s σ H Q I hq
  refine pe_op op_mulG pe_int ha pins s σ H Q I ?_
  unfold tOp tC rI
  unfold tI at hq
  have : (fun x H1 => ∃ i, x = V.int i /\ Q (.int (n * i)) H1) = (fun x H1 => ∃ i j, V.int n = V.int i /\ x = V.int j /\ IntMulOk i j /\ Q (.int (i * j)) H1) := by
    funext x H1
    apply propext
    constructor
    · rintro ⟨i, e, q⟩; exact ⟨n, i, rfl, e, ok_left h.1 h.2, q⟩
    · rintro ⟨i, j, e', e, _, q⟩; cases e'; exact ⟨j, e, q⟩
  rw [this] at hq
  exact hq
theorem call_sum (hc : X.calm = true) : CallR X (.builtin "sum") (fun xs H Q => ∃ (p : Addr) (ns : List Int), xs = [.ref p] /\ SqL X.K H p (ns.map V.int) /\ Q (.int ns.sum) H) := by
  intro pins s σ H xs us Q I r h
  obtain ⟨p, ns, rfl, hq, q⟩ := h
  obtain ⟨u, rfl, rx⟩ := vals1 r
  cases rx
  obtain ⟨its, r', pl, hz⟩ := I.list hq
  have hi := intsAre_of r'
  obtain ⟨m, hn, _⟩ := I.loc
  have hil : s.heap.IsList p its.toArray := pl.isList
  obtain ⟨xs, ex⟩ := hi.allInts.items
  rw [ex] at hil
  refine PySem.sum_intListG (I.ok.hd hc) hil fun h' tk t' hk => ⟨.int ns.sum, H, I.kept hk, ⟨t', ?_⟩, q⟩
  have e2 : (numsOf its.toArray.toList) = ns := by rw [show its.toArray.toList = its from rfl, hi.numsOf]
  rw [ex, nums_intItems] at e2
  rw [preSum_eq, List.take_of_length_le (by simp), <- e2]
def tyName : V -> Hp -> Option String
  | .non, _ => some "NoneType"
  | .bl _, _ => some "bool"
  | .int _, _ => some "int"
  | .str _, _ => some "str"
  | .ref a, H => match H a with
    | some (.lst _) => some "list"
    | some (.tup _) => some "tuple"
    | some (.dK _) => some "dict"
    | _ => none
  | _, _ => none
theorem tyName_of {K : Frag} {H : Hp} {x : V} {n : String} (h : tyName x H = some n) : TyOf K H x (.type n) := by
  cases x with
  | non => cases h; exact .non
  | bl b => cases h; exact .bl b
  | int i => cases h; exact .int i
  | str y => cases h; exact .str y
  | ref a =>
    unfold tyName at h
    cases e : H a with
    | none => simp [e] at h
    | some o =>
      cases o <;> simp [e] at h
      · subst h; exact .lst e
      · subst h; exact .tup e
      · subst h; exact .dK e
  | byt _ => cases h
  | flt _ => cases h
  | ty _ => cases h
def subT (n T : String) : Option Bool := PySem.W.kitOne [] (.type n) (.type T)
theorem kit_any {K : Frag} {n T : String} : PySem.W.kitOne K (.type n) (.type T) = subT n T := rfl
theorem call_isi : CallR X (.builtin "isinstance") (fun xs H Q => ∃ x T n b, xs = [x, .ty T] /\ tyName x H = some n /\ subT n T = some b /\ Q (.bl b) H) := by
  intro pins s σ H xs us Q I r h
  obtain ⟨x, T, n, b, rfl, hn, hb, q⟩ := h
  obtain ⟨u, v, rfl, ru, rv⟩ := r.two
  cases (show v = Value.type T from rv)
  exact isinst_ok I ru (tyName_of hn) (kit_any.trans hb) fun tk => ⟨.bl b, H, I.tok tk, rfl, q⟩
end
mutual
inductive Dt (K : Frag) (H : Hp) : V -> PyData -> Prop where
  | non : Dt K H .non .none
  | bl (b) : Dt K H (.bl b) (.bool b)
  | int (i) : Dt K H (.int i) (.int i)
  | str (x) : Dt K H (.str x) (.str x)
  | lst {a xs ds} : SqL K H a xs -> DtAll K H xs ds -> Dt K H (.ref a) (.list ds)
  | tup {a xs ds} : SqT K H a xs -> DtAll K H xs ds -> Dt K H (.ref a) (.tuple ds)
inductive DtAll (K : Frag) (H : Hp) : List V -> List PyData -> Prop where
  | nil : DtAll K H [] []
  | cons {x xs d ds} : Dt K H x d -> DtAll K H xs ds -> DtAll K H (x :: xs) (d :: ds)
end
section
variable {X : Cx}
mutual
theorem Dt.reads {pins : List (Addr × Obj)} {σ : St} {H : Hp} {s : Shared} (I : Inv X pins σ H s) : ∀ {x : V} {d : PyData} {u : Value}, Dt X.K H x d -> RelV x u -> ∃ as, Reads s.heap u d as
  | _, _, _, .non, r => by cases r; exact ⟨_, .none⟩
  | _, _, _, .bl b, r => by cases r; exact ⟨_, .bool b⟩
  | _, _, _, .int i, r => by obtain ⟨t, rfl⟩ := r; exact ⟨_, .int i t⟩
  | _, _, _, .str x, r => by obtain ⟨t, rfl⟩ := r; exact ⟨_, .str x t⟩
  | _, _, _, .lst h hs, r => by
    cases r
    obtain ⟨its, r', ⟨o, n, e, ec, ed, ex⟩, _⟩ := I.list h
    obtain ⟨as, q⟩ := DtAll.reads I hs r'
    exact ⟨_, .list e ec ex (by simpa using q)⟩
  | _, _, _, .tup h hs, r => by
    cases r
    obtain ⟨its, r', ⟨o, e, ec, n, ex⟩, _⟩ := I.tuple h
    obtain ⟨as, q⟩ := DtAll.reads I hs r'
    exact ⟨_, .tuple e ec ex (by simpa using q)⟩
theorem DtAll.reads {pins : List (Addr × Obj)} {σ : St} {H : Hp} {s : Shared} (I : Inv X pins σ H s) : ∀ {xs : List V} {ds : List PyData} {us : List Value}, DtAll X.K H xs ds -> Vals xs us -> ∃ as, ReadsAll s.heap us ds as
  | _, _, _, .nil, r => by cases r; exact ⟨_, .nil⟩
  | _, _, _, .cons h hs, r => by
    cases r with
    | cons r rs =>
      obtain ⟨as, q⟩ := Dt.reads I h r
      obtain ⟨bs, q'⟩ := DtAll.reads I hs rs
      exact ⟨_, .cons q q'⟩
end
theorem op_eqD (hu : X.A.units + 64 < cLine) : OpR X (compareOp .Eq) (fun x y H Q => ∃ d d', Dt X.K H x d /\ Dt X.K H y d' /\ PySem.SeqAt.shaped d = true /\ PySem.SeqAt.shaped d' = true /\ Q (.bl (PyData.eqv d d')) H) := by
  intro pins s σ H x y v u Q I rx ry h
  obtain ⟨d, d', h1, h2, s1, s2, q⟩ := h
  obtain ⟨as, r1⟩ := h1.reads I rx
  obtain ⟨bs, r2⟩ := h2.reads I ry
  exact eq_dataH r1 r2 s1 s2 hu ⟨.bl _, H, I, rfl, q⟩
theorem op_neD (hu : X.A.units + 64 < cLine) : OpR X (compareOp .NotEq) (fun x y H Q => ∃ d d', Dt X.K H x d /\ Dt X.K H y d' /\ PySem.SeqAt.shaped d = true /\ PySem.SeqAt.shaped d' = true /\ Q (.bl (!PyData.eqv d d')) H) := by
  intro pins s σ H x y v u Q I rx ry h
  obtain ⟨d, d', h1, h2, s1, s2, q⟩ := h
  obtain ⟨as, r1⟩ := h1.reads I rx
  obtain ⟨bs, r2⟩ := h2.reads I ry
  exact ne_dataH r1 r2 s1 s2 hu ⟨.bl _, H, I, rfl, q⟩
theorem DtAll.ints {K : Frag} {H : Hp} : ∀ ns : List Int, DtAll K H (ns.map V.int) (ns.map PyData.int)
  | [] => .nil
  | n :: r => .cons (.int n) (DtAll.ints r)
theorem eqvAll_ints : ∀ ns ms : List Int, PyData.eqvAll (ns.map PyData.int) (ms.map PyData.int) = decide (ns = ms)
  | [], [] => by simp [PyData.eqvAll]
  | [], _ :: _ => by simp [PyData.eqvAll]
  | _ :: _, [] => by simp [PyData.eqvAll]
  | n :: r, m :: q => by
    simp only [List.map_cons, PyData.eqvAll, PyData.eqv, eqvAll_ints r q]
    by_cases h : n = m <;> simp [h]
theorem zz1 (ns : List Int) : PySem.SeqAt.shaped (.list (ns.map .int)) = true := PySem.W.shaped_ints ns
theorem op_catL : OpR X (binaryOp .Add) (fun x y H Q => ∃ l b xs zs, x = .ref l /\ y = .ref b /\ SqL X.K H l xs /\ SqL X.K H b zs /\ xs.length + zs.length <= sizeLine /\ ∀ p, H p = none -> Q (.ref p) (upd H p (.lst (xs ++ zs)))) := by
  intro pins s σ H x y v u Q I rx ry h
  obtain ⟨l, b, xs, zs, rfl, rfl, hH, hB, hz, q⟩ := h
  cases rx
  cases ry
  obtain ⟨its, r, ⟨⟨cls, dd, data, sl⟩, n, e, ec, ed, ex⟩, _⟩ := I.list hH
  obtain ⟨its2, r2, ⟨⟨cls2, dd2, data2, sl2⟩, n2, e2, ec2, ed2, ex2⟩, _⟩ := I.list hB
  simp only at ec ed ex ec2 ed2 ex2
  subst ec ed ex ec2 ed2 ex2
  refine concat_meets ⟨_, e, rfl⟩ ⟨_, e2, rfl⟩ noFill_list_add seq_list_add PySem.F.slot_list_add PySem.F.entry_list_add (PySem.F.args_list_add_2 _ _) (list_addW l b its.toArray its2.toArray n n2 none none sl sl2 (by rw [List.size_toArray, List.size_toArray, <- r.length, <- r2.length]; exact hz)) ⟨e, e2, ?_⟩
  have ea : its.toArray ++ its2.toArray = (its ++ its2).toArray := by simp
  rw [ea]
  exact ⟨.ref _, _, I.lnew (t' := s.toks) (r.append r2) (by rw [List.length_append]; exact hz), rfl, q _ I.fresh⟩
end
end L2
namespace L2
open PySem PySem.Spec PyProof.Rows
structure Def (K : Frag) (mg : Str -> Option Value) (x : Str) (st : Stmt) : Prop where
  ex : ∃ f fd, Fun K x x st f fd /\ mg x = some (.ref f)
structure Fn (P : Program) (w : World) (K : Frag) (mg : Str -> Option Value) (base : Heap) (k : Nat) (x : Str) (ps : List Str) (sp : Sp) : Prop where
  ex : ∃ f fd, FnOk P w K mg base CX0 k f fd ps sp /\ mg x = some (.ref f) /\ PySem.W.keepIn K (.ref f) = true /\ Binds K fd ps []
section
variable {P : Program} {w : World} {K : Frag} {mg : Str -> Option Value} {base : Heap} {k : Nat} {x : Str} {N ps : List Str} {sp : Sp} {st : Stmt}
theorem Def.fn (D : Def K mg x st) (S : FnScope N ps (zq3 st))
    (hb : ∀ (kV doc pm : Value) (an : Option Addr) (cdv ct : Value) (us : List Value), us.length = ps.length -> bindArgs (PySem.W.fnOf x x (zj2 st) (zq8 st) (zq3 st) .none kV doc pm an cdv ct) ⟨us, []⟩ = pure (ps.zip us))
    (len : ∀ vs H Q E, sp vs H Q E -> vs.length = ps.length)
    (hbody : ∀ (f : Addr) (cdv : Value) (A : Around) (outer : List Env) (s : Shared) (H : Hp) (vs : List V) (Q : VK) (E : XK), Room k (A.deeper (envOfC x (zq3 st) s.heap.objs.size f cdv)) -> sp vs H Q E ->
      ∃ t, PSs (cxOf CX0 P w K mg base N x (zq3 st) f cdv A outer s H E).nox (zq8 st) t /\ t { nx := fun _ H' => Q .non H', rt := Q } (start N vs) H) : Fn P w K mg base (k + 1) x ps sp := by
  obtain ⟨f, fd, F, m⟩ := D.ex
  exact ⟨f, fd, F.ok S len fun cdv A outer s H vs Q E => hbody f cdv A outer s H vs Q E, m, F.kp, F.binds hb⟩
end
section
variable {X : Cx} {k m : Nat} {x : Str} {ps : List Str} {sp : Sp} {p pos : Pos} {e : Expr} {es : List Expr} {t : TA}
theorem pe_fn (F : Fn X.prog X.w X.K X.mg X.base k x ps sp) (hr : Room m X.A) (hg : Gl X x) (ha : PA X (e :: es) t) (hk : k <= m := by decide)
    (hdb : (x == ("__debug__" : Str)) = false := by decide) (he : starEach (e :: es) X.env = (false, eval e X.env) :: starEach es X.env := by rfl) (hpl : (backTo pos (starEach es X.env)).any (·.1) = false := by rfl) :
    PE X (.Call (.Name x p) (e :: es) [] pos) (tCall sp [] E0 t) := by
  obtain ⟨f, fd, F, hm, hkp, hb⟩ := F.ex
  exact pe_call F (hr.mono hk) hg hm hkp hb .nil pass0 ha hdb he hpl
end
theorem zz5 {K : Frag} {h : Heap} {mg : Str -> Option Value} {x : Str} {st : Stmt} {f : Addr} {oc : Value} {od an : Option Addr} {osl : Array (Option Value)} {kV doc pm cdv ct : Value} (X : K.In h) (G : h.Ns mainGlobals mg)
    (a : PySem.W.nsIn K mainGlobals x = some (some (.ref f))) (l : K.lookup f = some ⟨oc, od, .func (PySem.W.fnOf x x (zj2 st) (zq8 st) (zq3 st) .none kV doc pm an cdv ct), osl⟩)
    (c : PySem.W.codeIn K cdv x = true) (k : PySem.W.keepIn K (.ref f) = true) : Def K mg x st := ⟨f, _, fun_mk l c k, PySem.W.mg_of X G a⟩
theorem pe_tyv {X : Cx} {x : Str} {T : String} {pos : Pos} (hg : Gl X x) (hm : X.mg x = none) (hv : bootBuiltins x = some (.type T)) (hn : x ≠ "__name__" := by decide) (hd : (x == ("__debug__" : Str)) = false := by decide) : PE X (.Name x pos) (tC (.ty T)) :=
  pe_bltn hg hm hv rfl hn hd
section
variable {σ : St} {H : Hp} {Q : VK}
theorem q_var {i : Nat} {v : V} (h : σ[i]? = some (some v)) : tVar i σ H Q = Q v H := by
  unfold tVar; rw [h]; simp
theorem q_C {v : V} : tC v σ H Q = Q v H := rfl
theorem q_Op {r : R2} {ta tb : TE} : tOp r ta tb σ H Q = ta σ H fun x H1 => tb σ H1 fun y H2 => r x y H2 Q := rfl
theorem q_Un {r : V -> Hp -> VK -> Prop} {ta : TE} : tUn r ta σ H Q = ta σ H fun x H1 => r x H1 Q := rfl
theorem q_rI0 {g : Int -> Int -> V} {i j : Int} : rI0 g (.int i) (.int j) H Q = Q (g i j) H := by unfold rI0; simp
theorem q_rI {C : Int -> Int -> Prop} {g : Int -> Int -> V} {i j : Int} : rI C g (.int i) (.int j) H Q = (C i j /\ Q (g i j) H) := by unfold rI; simp
theorem q_rU {g : Int -> V} {i : Int} : rU g (.int i) H Q = Q (g i) H := by unfold rU; simp
def rT (f : Int -> V) : V -> Hp -> VK -> Prop := fun x H Q => ∃ i, x = .int i /\ Q (f i) H
theorem q_tI {f : Int -> V} {ta : TE} : tI f ta σ H Q = ta σ H fun x H1 => rT f x H1 Q := rfl
theorem q_rT {f : Int -> V} {i : Int} : rT f (.int i) H Q = Q (f i) H := by unfold rT; simp
theorem q_eqI {i j : Int} : rEq (.int i) (.int j) H Q = Q (.bl (decide (i = j))) H := by unfold rEq; simp [scal]
theorem q_neI {i j : Int} : rNe (.int i) (.int j) H Q = Q (.bl (!decide (i = j))) H := by unfold rNe; simp [scal]
theorem q_eqS {i j : Str} : rEq (.str i) (.str j) H Q = Q (.bl (decide (i = j))) H := by unfold rEq; simp [scal]
def rB (x : V) (H : Hp) (Q : Bool -> Hp -> Prop) : Prop := ∃ k, x = .bl k /\ Q k H
theorem q_rB {b : Bool} {Q : Bool -> Hp -> Prop} : rB (.bl b) H Q = Q b H := by unfold rB; simp
theorem q_test {t : TE} {Q : Bool -> Hp -> Prop} : tTest t σ H Q = t σ H fun x H' => rB x H' Q := rfl
theorem q_tB {t : TE} {Q : Bool -> Hp -> Prop} : tB t σ H Q = t σ H fun x H' => rB x H' Q := rfl
theorem q_notT {t : TT} {Q : Bool -> Hp -> Prop} : tNot t σ H Q = t σ H fun c H1 => Q (!c) H1 := rfl
theorem q_andT {t u : TT} {Q : Bool -> Hp -> Prop} : tAnd t u σ H Q = t σ H fun c H1 => if c = true then u σ H1 Q else Q false H1 := rfl
theorem q_orT {t u : TT} {Q : Bool -> Hp -> Prop} : tOr t u σ H Q = t σ H fun c H1 => if c = true then Q true H1 else u σ H1 Q := rfl
theorem q_andV {t u : TE} : tAndV t u σ H Q = t σ H fun x H1 => rB x H1 fun c H2 => if c = true then u σ H2 Q else Q (.bl false) H2 := rfl
theorem q_notV {t : TE} : tNotV t σ H Q = t σ H fun x H1 => rB x H1 fun c H2 => Q (.bl (!c)) H2 := rfl
theorem q_chain {r r' : R2} {ta tb tc : TE} : tChain r r' ta tb tc σ H Q = ta σ H fun x H1 => tb σ H1 fun y H2 => r x y H2 fun z H3 => rB z H3 fun k H4 => if k = true then tc σ H4 fun w' H5 => r' y w' H5 Q else Q (.bl false) H4 := rfl
theorem q_nil {Q : List V -> Hp -> Prop} : tNil σ H Q = Q [] H := rfl
theorem q_cons {ta : TE} {tr : TA} {Q : List V -> Hp -> Prop} : tCons ta tr σ H Q = ta σ H fun x H1 => tr σ H1 fun xs H2 => Q (x :: xs) H2 := rfl
theorem q_call {sp : Sp} {dvs : List V} {E : XK} {t : TA} : tCall sp dvs E t σ H Q = t σ H fun vs H1 => sp (vs ++ dvs) H1 Q E := rfl
theorem q_CB {r : List V -> Hp -> VK -> Prop} {t : TA} : tCB r t σ H Q = t σ H fun vs H1 => r vs H1 Q := rfl
theorem q_tup {t : TA} : tTup t σ H Q = t σ H fun xs H1 => xs.length <= sizeLine /\ ∀ p, H1 p = none -> Q (.ref p) (upd H1 p (.tup xs)) := rfl
theorem q_lst {t : TA} : tLst t σ H Q = t σ H fun xs H1 => xs.length <= sizeLine /\ ∀ p, H1 p = none -> Q (.ref p) (upd H1 p (.lst xs)) := rfl
theorem q_BM {K : Frag} {T : String} {r : V -> List V -> Hp -> VK -> Prop} {to : TE} {t : TA} : tBM K T r to t σ H Q = to σ H fun x H1 => tyV K T x H1 /\ t σ H1 fun vs H2 => r x vs H2 Q := rfl
theorem q_Sl {r : V -> Option Int -> Option Int -> Hp -> VK -> Prop} {te : TE} {tl th : TO} : tSl r te tl th σ H Q = te σ H fun x H1 => tl σ H1 fun l H2 => th σ H2 fun h H3 => r x l h H3 Q := rfl
theorem q_noPart {Q : Option Int -> Hp -> Prop} : tNoPart σ H Q = Q none H := rfl
def rP (x : V) (H : Hp) (Q : Option Int -> Hp -> Prop) : Prop := ∃ i, x = .int i /\ Q (some i) H
theorem q_part {t : TE} {Q : Option Int -> Hp -> Prop} : tPart t σ H Q = t σ H fun x H1 => rP x H1 Q := rfl
theorem q_rP {i : Int} {Q : Option Int -> Hp -> Prop} : rP (.int i) H Q = Q (some i) H := by unfold rP; simp
theorem q_LC {wi : TI} {g : TG} {tc : TT} {te : TE} {fv : List (Option Nat)} : tLC wi g tc te fv σ H Q = wi σ H (rLC g tc te (upS fv σ) Q) := rfl
theorem q_True {Q : Bool -> Hp -> Prop} : tTrue σ H Q = Q true H := rfl
end
section
variable {D : Ends} {σ : St} {H : Hp}
theorem q_next : tNext D σ H = D.nx σ H := rfl
theorem q_seq {t u : TS} : tSeq t u D σ H = t { D with nx := u D } σ H := rfl
theorem q_drop {te : TE} : tDrop te D σ H = te σ H fun _ H1 => D.nx σ H1 := rfl
theorem q_ret {te : TE} : tRet te D σ H = te σ H D.rt := rfl
theorem q_ifS {c : TT} {t u : TS} : tIfS c t u D σ H = c σ H fun b H1 => if b = true then t D σ H1 else u D σ H1 := rfl
theorem q_asg {te : TE} {g : TG} : tAsg te g D σ H = te σ H fun x H1 => g x σ H1 D.nx := rfl
theorem q_par {i j : Nat} {ta : TA} : tPar i j ta D σ H = ta σ H fun vs H1 => ∃ v w, vs = [v, w] /\ D.nx ((σ.set i (some v)).set j (some w)) H1 := rfl
end
theorem q_name {i : Nat} {v : V} {σ : St} {H : Hp} {Q : St -> Hp -> Prop} : gName i v σ H Q = Q (σ.set i (some v)) H := rfl
theorem q_sub {to ti : TE} {t : TSet} {v : V} {σ : St} {H : Hp} {Q : St -> Hp -> Prop} : gSub to ti t v σ H Q = to σ H fun o H1 => ti σ H1 fun i H2 => t o i v H2 fun H3 => Q σ H3 := rfl
theorem q_iList {K : Frag} {tl : TE} {σ : St} {H : Hp} {R : It -> Hp -> Prop} : iList K tl σ H R = tl σ H fun x H1 => ∃ a, x = .ref a /\ (∃ xs, SqL K H1 a xs) /\ R (Itl K a) H1 := rfl
theorem q_iTup {K : Frag} {tl : TE} {σ : St} {H : Hp} {R : It -> Hp -> Prop} : iTup K tl σ H R = tl σ H fun x H1 => ∃ a, x = .ref a /\ (∃ xs, SqT K H1 a xs) /\ R (Itt K a) H1 := rfl
theorem q_iRng1 {ta : TA} {σ : St} {H : Hp} {R : It -> Hp -> Prop} : iRng1 ta σ H R = ta σ H fun vs H1 => ∃ j : Int, vs = [.int j] /\ -(2 ^ 62) <= j /\ j < 2 ^ 62 /\ R (Itr 0 j.toNat) H1 := rfl
def rFor (g : TG) (tb : TS) (D : Ends) (σ : St) : It -> Hp -> Prop := fun J H1 => ∃ W : Nat -> Nat -> St -> Hp -> Prop, (∃ m, W 0 m σ H1) /\ ∀ i m σ H, W i m σ H ->
  (J.stop i H /\ D.nx σ H) ∨ (J.go i H /\ ∃ N : St -> Hp -> Prop, (∀ σ' H', N σ' H' -> ∃ m', m' < m /\ W (i + 1) m' σ' H') /\ ∀ x H', J.yld i H x H' -> g x σ H' fun σ2 H2 => tb { D with nx := N, ct := N, bk := D.nx } σ2 H2)
theorem q_for {wi : TI} {g : TG} {tb : TS} {D : Ends} {σ : St} {H : Hp} : tFor wi g tb D σ H = wi σ H (rFor g tb D σ) := rfl
theorem Same.new {H : Hp} {p : Addr} (h : H p = none) (o : HO) : Same H (upd H p o) := fun b u q => by rw [zj4 (zj0 q h)]; exact q
theorem Same.seqT {K : Frag} {H H' : Hp} {a : Addr} {xs : List V} (e : Same H H') (h : SqT K H a xs) : SqT K H' a xs := by
  rcases h with (h | ⟨o, h⟩) | h
  · exact .inl (.inl (e _ _ h))
  · exact .inl (.inr ⟨o, e _ _ h⟩)
  · exact .inr h
theorem Same.set {H H' : Hp} {p : Addr} (e : Same H H') (h : H p = none) (o : HO) : Same H (upd H' p o) := fun b u q => by rw [zj4 (zj0 q h)]; exact e b u q
structure ItOk (J : It) (H1 : Hp) (n : Nat) (item : Nat -> V) : Prop where
  go : ∀ i H, Same H1 H -> i < n -> J.go i H
  stop : ∀ i H, Same H1 H -> n <= i -> J.stop i H
  yld : ∀ i H x H', Same H1 H -> i < n -> J.yld i H x H' -> H' = H /\ x = item i
theorem itok_tup {K : Frag} {H1 : Hp} {a : Addr} {xs : List V} (h : SqT K H1 a xs) : ItOk (Itt K a) H1 xs.length fun i => xs.getD i .non where
  go := fun i H e hi => ⟨xs, xs[i], e.seqT h, by simp [hi]⟩
  stop := fun i H e hi => ⟨xs, e.seqT h, hi⟩
  yld := fun i H x H' e hi y => by
    obtain ⟨e1, y⟩ := y
    have := y xs (e.seqT h)
    refine ⟨e1, ?_⟩
    show x = xs.getD i .non
    rw [List.getD_eq_getElem?_getD, this]; rfl
theorem itok_list {K : Frag} {H1 : Hp} {a : Addr} {xs : List V} (h : SqL K H1 a xs) : ItOk (Itl K a) H1 xs.length fun i => xs.getD i .non where
  go := fun i H e hi => ⟨xs, xs[i], e.seq h, by simp [hi]⟩
  stop := fun i H e hi => ⟨xs, e.seq h, hi⟩
  yld := fun i H x H' e hi y => by
    obtain ⟨e1, y⟩ := y
    have := y xs (e.seq h)
    refine ⟨e1, ?_⟩
    show x = xs.getD i .non
    rw [List.getD_eq_getElem?_getD, this]; rfl
theorem itok_range {H1 : Hp} {lo : Int} {n : Nat} : ItOk (Itr lo n) H1 n fun i => .int (lo + i) where
  go := fun i H e hi => hi
  stop := fun i H e hi => hi
  yld := fun i H x H' e hi y => y
def LcN (T : Nat -> St -> Prop) (F : Nat -> List V) (H1 : Hp) (acc : Addr) (i : Nat) : St -> Hp -> Prop := fun τ' H' => T (i + 1) τ' /\ Same H1 H' /\ H' acc = some (.lst (F (i + 1)))
theorem lc_put {T : Nat -> St -> Prop} {F : Nat -> List V} {H1 H4 : Hp} {acc : Addr} {i : Nat} {τ : St} {v : V} (hn : H1 acc = none) (h : H4 acc = some (.lst (F i))) (hs : Same H1 H4) (hz : (F i).length < sizeLine) (hF : F (i + 1) = F i ++ [v]) (hT : T (i + 1) τ) :
    ∃ ys, H4 acc = some (.lst ys) /\ ys.length < sizeLine /\ LcN T F H1 acc i τ (upd H4 acc (.lst (ys ++ [v]))) :=
  ⟨F i, h, hz, hT, hs.set hn _, by rw [zq1, hF]⟩
theorem rLC_by {g : TG} {tc : TT} {te : TE} {τ0 : St} {Q : VK} {J : It} {H1 : Hp} {n : Nat} {item : Nat -> V} (ok : ItOk J H1 n item) (F : Nat -> List V) (T : Nat -> St -> Prop)
    (h0 : F 0 = []) (hT : T 0 τ0)
    (step : ∀ i τ H acc, i < n -> T i τ -> H1 acc = none -> Same H1 H -> H acc = some (.lst (F i)) -> g (item i) τ H fun τ2 H2 => tc τ2 H2 fun b H3 =>
      if b = true then te τ2 H3 fun v H4 => ∃ ys, H4 acc = some (.lst ys) /\ ys.length < sizeLine /\ LcN T F H1 acc i τ2 (upd H4 acc (.lst (ys ++ [v]))) else LcN T F H1 acc i τ2 H3)
    (fin : ∀ acc H, H1 acc = none -> Same H1 H -> H acc = some (.lst (F n)) -> Q (.ref acc) H) : rLC g tc te τ0 Q J H1 := by
  intro acc hacc
  refine ⟨fun i m τ H => m = n - i /\ i <= n /\ T i τ /\ Same H1 H /\ H acc = some (.lst (F i)), ⟨n, by simp, Nat.zero_le _, hT, Same.new hacc _, by rw [zq1, h0]⟩, ?_⟩
  rintro i m τ H ⟨rfl, hi, hTi, hS, hF⟩
  by_cases hlt : i < n
  · refine .inr ⟨ok.go i H hS hlt, LcN T F H1 acc i, fun τ' H' ⟨a, b, c⟩ => ⟨n - (i + 1), by omega, rfl, hlt, a, b, c⟩, fun x H' y => ?_⟩
    obtain ⟨rfl, rfl⟩ := ok.yld i H x H' hS hlt y
    exact step i τ H' acc hlt hTi hacc hS hF
  · have e : i = n := by omega
    subst e
    exact .inl ⟨ok.stop i H hS (Nat.le_refl _), fin acc H hacc hS hF⟩
theorem q_var0 {v : V} {σ : St} {H : Hp} {Q : VK} : tVar 0 (some v :: σ) H Q = Q v H := q_var rfl
theorem q_varS {i : Nat} {o : Option V} {σ : St} {H : Hp} {Q : VK} : tVar (i + 1) (o :: σ) H Q = tVar i σ H Q := rfl
def cscB (osc : Scope) (oN N : List Str) (scope : Scope) (fv : List (Option Nat)) : Bool :=
  decide (scope.kind = .function) && decide (osc.kind = .function) && scope.names.all (fun y => decide (y.2 ≠ .cell)) && scope.names.all (fun y => decide (y.2 = .local -> scope.names.lookup y.1 = some .local)) &&
  scope.names.all (fun y => decide (y.2 = .free -> osc.names.lookup y.1 = some .cell)) && (rl scope osc).names.all (fun y => decide (y.2 ≠ .free)) && decide (fv.length = N.length) && decide (N.length < 20) &&
  (List.range N.length).all (fun i => match fv[i]? with
    | some (some j) => decide (oN[j]? = N[i]?) && (match N[i]? with | some x => decide ((rl scope osc).names.lookup x = some .cell) && decide (osc.names.lookup x = some .cell) | none => false)
    | _ => true)
theorem csc_of {X : Cx} {osc : Scope} {oN N : List Str} {scope : Scope} {fv : List (Option Nat)} (h1 : X.env.scope = osc) (h2 : X.N = oN) (h : cscB osc oN N scope fv = true) : CSc X.env.scope X.N N scope fv := by
  rw [h1, h2]
  unfold cscB at h
  simp only [Bool.and_eq_true, List.all_eq_true, decide_eq_true_eq] at h
  obtain ⟨⟨⟨⟨⟨⟨⟨⟨a1, a2⟩, a3⟩, a4⟩, a5⟩, a6⟩, a7⟩, a8⟩, a9⟩ := h
  refine ⟨a1, a2, a3, a4, a5, a6, a7, fun i j _ e => ?_, a8⟩
  have hi : i < N.length := by rw [<- a7]; exact (List.getElem?_eq_some_iff.mp e).1
  have q := a9 i (List.mem_range.mpr hi)
  rw [e] at q
  simp only [Bool.and_eq_true, decide_eq_true_eq] at q
  refine ⟨q.1, fun x hx => ?_⟩
  have q2 := q.2
  rw [hx] at q2
  simpa using q2
end L2
namespace L2
open PySem PySem.Spec PyProof.Rows
def nst (e : Expr) : Bool := match e with
  | .Starred _ _ => false
  | _ => true
theorem zj8 {e : Expr} {es : List Expr} {env : Env} (h : nst e = true) : starEach (e :: es) env = (false, eval e env) :: starEach es env := by
  cases e <;> first | rfl | cases h
theorem plain_of {pos : Pos} {env : Env} : ∀ {es : List Expr}, es.all nst = true -> (backTo pos (starEach es env)).any (·.1) = false
  | [], _ => rfl
  | e :: es, h => by
    rw [List.all_cons, Bool.and_eq_true] at h
    rw [zj8 h.1]
    show (false || (backTo pos (starEach es env)).any (·.1)) = false
    rw [plain_of h.2]; rfl
theorem plainA_of {pos : Pos} {env : Env} : ∀ {es : List Expr}, es.all nst = true -> (backTo pos (starEach es env)).all (fun x => !x.1) = true
  | [], _ => rfl
  | e :: es, h => by
    rw [List.all_cons, Bool.and_eq_true] at h
    rw [zj8 h.1]
    show (true && (backTo pos (starEach es env)).all (fun x => !x.1)) = true
    rw [plainA_of h.2]; rfl
structure PB (X : Cx) (es : List Expr) (t : TA) : Prop where
  pa : PA X es t
  ns : es.all nst = true
section
variable {X : Cx} {e o : Expr} {es : List Expr} {te to : TE} {t : TA} {pos p : Pos}
theorem pb_nil : PB X [] tNil := ⟨pa_nil, rfl⟩
theorem pb_cons (ha : PE X e te) (hr : PB X es t) (hn : nst e = true := by rfl) : PB X (e :: es) (tCons te t) :=
  ⟨pa_cons ha hr.pa (zj8 hn), by rw [List.all_cons, hn, hr.ns]; rfl⟩
theorem PB.he (h : PB X (e :: es) t) : nst e = true := by have := h.ns; rw [List.all_cons, Bool.and_eq_true] at this; exact this.1
theorem PB.hes (h : PB X (e :: es) t) : es.all nst = true := by have := h.ns; rw [List.all_cons, Bool.and_eq_true] at this; exact this.2
theorem pe_tp {x1} (h : PB X es t) : PE X (.Tuple es x1 pos) (tTup t) := pe_tup h.pa
theorem pe_ls (h : PB X es t) : PE X (.List es pos) (tLst t) := pe_lst h.pa
end
structure Sc (X : Cx) (N W G : List Str) : Prop where
  eN : X.N = N
  nd : N.Nodup
  vis : ∀ x ∈ N, Vis X.env.scope x /\ (x == ("__debug__" : Str)) = false /\ (x == ("__classdict__" : Str)) = false
  sto : ∀ x ∈ W, Loc X.env.scope x /\ (X.fn x = true ∨ X.env.scope.names.lookup x = some .local)
  gl : ∀ x ∈ G, Gl X x /\ (x == ("__debug__" : Str)) = false /\ x ≠ "__name__"
def visB (sc : Scope) (x : Str) : Bool := (sc.names.lookup x == some .local || sc.names.lookup x == some .cell || sc.names.lookup x == some .free) && !(x == ("__debug__" : Str)) && !(x == ("__classdict__" : Str))
theorem visB_of {sc : Scope} {x : Str} (h : visB sc x = true) : Vis sc x /\ (x == ("__debug__" : Str)) = false /\ (x == ("__classdict__" : Str)) = false := by
  unfold visB at h
  simp only [Bool.and_eq_true, Bool.or_eq_true, beq_iff_eq, Bool.not_eq_true'] at h
  obtain ⟨⟨h1, h2⟩, h3⟩ := h
  refine ⟨?_, h2, h3⟩
  rcases h1 with (h1 | h1) | h1
  · exact .inl h1
  · exact .inr (.inl h1)
  · exact .inr (.inr h1)
def glB (sc : Scope) (x : Str) : Bool := sc.names.lookup x == some .globalImplicit && !(x == ("__debug__" : Str)) && !(x == ("__name__" : Str))
theorem glB_of {sc : Scope} {x : Str} (h : glB sc x = true) : sc.names.lookup x = some .globalImplicit /\ (x == ("__debug__" : Str)) = false /\ x ≠ "__name__" := by
  unfold glB at h
  simp only [Bool.and_eq_true, beq_iff_eq, Bool.not_eq_true', beq_eq_false_iff_ne] at h
  exact ⟨h.1.1, by simpa using h.1.2, h.2⟩
def dsB (sc : Scope) (N ps G : List Str) : Bool :=
  decide (sc.kind = .function) && !sc.isCoroutine && !sc.isGenerator && decide N.Nodup && decide (N.take ps.length = ps) && ps.all (fun x => sc.names.lookup x == some .local || sc.names.lookup x == some .cell) &&
  sc.names.all (fun y => decide (y.2 ≠ .free)) && N.all (visB sc) && N.all (fun x => sc.names.lookup x == some .local || sc.names.lookup x == some .cell) && G.all (glB sc)
structure DS (sc : Scope) (N ps G : List Str) : Prop where
  fs : FnScope N ps sc
  vis : ∀ x ∈ N, visB sc x = true
  loc : ∀ x ∈ N, Loc sc x
  gl : ∀ x ∈ G, glB sc x = true
theorem ds_of {sc : Scope} {N ps G : List Str} (h : dsB sc N ps G = true) : DS sc N ps G := by
  unfold dsB at h
  simp only [Bool.and_eq_true, Bool.not_eq_true', List.all_eq_true, decide_eq_true_eq, Bool.or_eq_true, beq_iff_eq] at h
  obtain ⟨⟨⟨⟨⟨⟨⟨⟨⟨a1, a2⟩, a3⟩, a4⟩, a5⟩, a6⟩, a7⟩, a8⟩, a9⟩, a10⟩ := h
  exact ⟨⟨a1, a2, a3, a4, a5, a6, a7⟩, a8, a9, a10⟩
section
variable {P : Program} {w : World} {K : Frag} {mg : Str -> Option Value} {base : Heap} {k : Nat} {x : Str} {N ps G : List Str} {sp : Sp} {st : Stmt}
theorem DS.cx {sc : Scope} {q : Str} {f : Addr} {cdv : Value} {A : Around} {outer : List Env} {s : Shared} {H : Hp} {E : XK} (D : DS sc N ps G) : Sc (cxOf CX0 P w K mg base N q sc f cdv A outer s H E).nox N N G :=
  ⟨rfl, D.fs.nd, fun x hx => visB_of (D.vis x hx), fun x hx => ⟨D.loc x hx, .inl rfl⟩, fun x hx => glB_of (D.gl x hx)⟩
theorem Def.go (D : Def K mg x st) (S : DS (zq3 st) N ps G)
    (hb : ∀ (kV doc pm : Value) (an : Option Addr) (cdv ct : Value) (us : List Value), us.length = ps.length -> bindArgs (PySem.W.fnOf x x (zj2 st) (zq8 st) (zq3 st) .none kV doc pm an cdv ct) ⟨us, []⟩ = pure (ps.zip us))
    (len : ∀ vs H Q E, sp vs H Q E -> vs.length = ps.length)
    (hbody : ∀ (X : Cx), Sc X N N G -> X.prog = P -> X.w = w -> X.K = K -> X.mg = mg -> X.base = base -> X.calm = true -> X.env.scope = zq3 st -> X.xe = (fun _ _ => False) -> Room k X.A -> X.A.units + 64 < cLine ->
      ∀ (H : Hp) (vs : List V) (Q : VK) (E : XK), sp vs H Q E -> ∃ t, PSs X (zq8 st) t /\ t { nx := fun _ H' => Q .non H', rt := Q } (L2.start N vs) H) : Fn P w K mg base (k + 1) x ps sp := by
  refine D.fn S.fs hb len fun f cdv A outer s H vs Q E hr h => ?_
  exact hbody _ S.cx rfl rfl rfl rfl rfl rfl rfl rfl hr hr.units H vs Q E h
end
section
variable {X : Cx} {N W G : List Str}
theorem vv (S : Sc X N W G) (i : Nat) {x : Str} {pos : Pos} (h : N[i]? = some x := by rfl) : PE X (.Name x pos) (tVar i) :=
  have q := S.vis x (List.mem_of_getElem? h)
  pe_var (by rw [S.eN]; exact h) q.1 q.2.1 q.2.2
theorem sv (S : Sc X N W G) (i : Nat) {x : Str} {pos pos' : Pos} {e : Expr} {te : TE} (he : PE X e te) (h : N[i]? = some x := by rfl) (hw : W[i]? = some x := by rfl) (hs : swapsWith e (some (.Name x pos')) pos.line X.env = pure false := by rfl) :
    PS X (.Assign [.Name x pos'] e pos) (tAsg te (gName i)) :=
  have q := S.sto x (List.mem_of_getElem? hw)
  ps_set (by rw [S.eN]; exact S.nd) (by rw [S.eN]; exact h) q.1 he hs q.2
theorem gv (S : Sc X N W G) (i : Nat) {x : Str} {pos : Pos} (h : N[i]? = some x := by rfl) (hw : W[i]? = some x := by rfl) : PG X (.Name x pos) (gName i) :=
  have q := S.sto x (List.mem_of_getElem? hw)
  pg_name (by rw [S.eN]; exact S.nd) (by rw [S.eN]; exact h) q.1 q.2
variable {k m : Nat} {x : Str} {ps : List Str} {sp : Sp} {p pos : Pos} {e o : Expr} {es : List Expr} {t : TA} {te to : TE} {id T : String} {r : List V -> Hp -> VK -> Prop}
theorem ff (S : Sc X N W G) (g : Nat) (F : Fn X.prog X.w X.K X.mg X.base k x ps sp) (hr : Room m X.A) (ha : PB X (e :: es) t) (hk : k <= m := by decide) (hg : G[g]? = some x := by rfl) : PE X (.Call (.Name x p) (e :: es) [] pos) (tCall sp [] E0 t) :=
  have q := S.gl x (List.mem_of_getElem? hg)
  pe_fn F hr q.1 ha.pa hk q.2.1 (zj8 ha.he) (plain_of ha.hes)
theorem cb (S : Sc X N W G) (g : Nat) (hc : CallR X (.builtin id) r) (hm : X.mg x = none) (hv : bootBuiltins x = some (.builtin id)) (ha : PB X (e :: es) t) (hg : G[g]? = some x := by rfl) : PE X (.Call (.Name x p) (e :: es) [] pos) (tCB r t) :=
  have q := S.gl x (List.mem_of_getElem? hg)
  pe_callB hc q.1 hm hv ha.pa q.2.2 q.2.1 (zj8 ha.he) (plain_of ha.hes)
theorem ct (S : Sc X N W G) (g : Nat) (hc : CallR X (.type T) r) (hm : X.mg x = none) (hv : bootBuiltins x = some (.type T)) (ha : PB X (e :: es) t) (hg : G[g]? = some x := by rfl) : PE X (.Call (.Name x p) (e :: es) [] pos) (tCB r t) :=
  have q := S.gl x (List.mem_of_getElem? hg)
  pe_callTy hc q.1 hm hv ha.pa q.2.2 q.2.1 (zj8 ha.he) (plain_of ha.hes)
theorem tyv (S : Sc X N W G) (g : Nat) (hm : X.mg x = none) (hv : bootBuiltins x = some (.type T)) (hg : G[g]? = some x := by rfl) : PE X (.Name x pos) (tC (.ty T)) :=
  have q := S.gl x (List.mem_of_getElem? hg)
  pe_tyv q.1 hm hv q.2.2 q.2.1
theorem rg1 (S : Sc X N W G) (g : Nat) {tg : Expr} (hm : X.mg "range" = none) (ha : PB X [e] t) (hg : G[g]? = some "range" := by rfl) : PI X tg (.Call (.Name "range" p) [e] [] pos) (iRng1 t) :=
  pi_range1 (S.gl _ (List.mem_of_getElem? hg)).1 hm ha.pa (zj8 ha.he)
variable {name : Str} {apos cpos : Pos} {rm : V -> List V -> Hp -> VK -> Prop}
theorem mb (pa : PlainAttrs T) (slot : Slot T name id) (hty : typeOf (.builtin id) = pure (.type "method_descriptor")) (hm : MtR X id rm) (ho : PE X o to) (ha : PB X (e :: es) t)
    (hbase : attributeBase o name X.env (eval o X.env) = eval o X.env := by rfl) (hlen : decide ((e :: es).length < 30) = true := by rfl)
    (hline : (apos.endLine == cpos.line) = true := by rfl) : PE X (.Call (.Attribute o name apos) (e :: es) [] cpos) (tBM X.K T rm to t) :=
  pe_bm pa slot hty hm ho ha.pa hbase (by rw [plainA_of ha.ns]; exact hlen) hline (zj8 ha.he) (plain_of ha.hes)
theorem par {i j : Nat} {x y : Str} {a b : Expr} {ta : TA} {px py pt : Pos} {kt k2 pt2} (S : Sc X N W G) (hc : X.calm = true) (ha : PB X [a, b] ta) (hi : N[i]? = some x := by rfl) (hj : N[j]? = some y := by rfl) (hij : i ≠ j := by decide)
    (hx : X.env.scope.names.lookup x = some .local) (hy : X.env.scope.names.lookup y = some .local)
    (hw : swappedStores [.Tuple [.Name x px, .Name y py] kt pt] (.Tuple [a, b] k2 pt2) X.env = pure (some [x, y])) :
    PS X (.Assign [.Tuple [.Name x px, .Name y py] kt pt] (.Tuple [a, b] k2 pt2) pos) (tPar i j ta) :=
  ps_par hc (by rw [S.eN]; exact S.nd) (by rw [S.eN]; exact hi) (by rw [S.eN]; exact hj) hij hx hy ha.pa hw
end
def csB (osc : Scope) (oN N W G : List Str) (scope : Scope) (fv : List (Option Nat)) : Bool :=
  cscB osc oN N scope fv && decide N.Nodup && N.all (visB (rl scope osc)) && W.all (fun x => (rl scope osc).names.lookup x == some .local) && G.all (glB (rl scope osc))
section
variable {X : Cx} {elt target iter : Expr} {ifs : List Expr} {scope osc : Scope} {pos : Pos} {oN oW oG N W G : List Str} {fv : List (Option Nat)} {wi : TI} {g : TG} {tc : TT} {te : TE}
theorem sc_comp {cl : List (Str × Addr)} {C : Addr} {fp : List Addr} {s : Shared} {H : Hp} (h1 : X.env.scope = osc) (h : csB osc oN N W G scope fv = true) : Sc (cxC X N scope cl C fp s H) N W G := by
  unfold csB at h
  simp only [Bool.and_eq_true, List.all_eq_true, decide_eq_true_eq, beq_iff_eq] at h
  obtain ⟨⟨⟨⟨_, a2⟩, a3⟩, a4⟩, a5⟩ := h
  have e : (cxC X N scope cl C fp s H).env.scope = rl scope osc := by rw [<- h1]; rfl
  exact ⟨rfl, a2, fun x hx => by rw [e]; exact visB_of (a3 x hx), fun x hx => by rw [e]; exact ⟨.inl (a4 x hx), .inr (a4 x hx)⟩, fun x hx => by unfold Gl Env.kindOf; rw [e]; exact glB_of (a5 x hx)⟩
theorem csB_csc (S : Sc X oN oW oG) (h1 : X.env.scope = osc) (h : csB osc oN N W G scope fv = true) : CSc X.env.scope X.N N scope fv := by
  unfold csB at h
  simp only [Bool.and_eq_true] at h
  exact csc_of h1 S.eN h.1.1.1.1
theorem lcE (S : Sc X oN oW oG) (hc : X.calm = true) (h1 : X.env.scope = osc) (hi : PI X target iter wi) (h : csB osc oN N W G scope fv = true)
    (hB : ∀ cl C fp s H, Sc (cxC X N scope cl C fp s H) N W G -> PG (cxC X N scope cl C fp s H) target g /\ PIf (cxC X N scope cl C fp s H) ifs tc /\ PE (cxC X N scope cl C fp s H) elt te)
    (hs : ∀ x, foldedSetIterable iter X.env x = pure x := by intro _; rfl) : PE X (.ListComp elt [⟨target, iter, ifs, 0⟩] scope pos) (tLC wi g tc te fv) :=
  pe_lc hc hi (csB_csc S h1 h) (fun cl C fp s H => hB cl C fp s H (sc_comp h1 h)) hs
theorem lcS {i : Nat} {x : Str} {px spos : Pos} (S : Sc X oN oW oG) (hc : X.calm = true) (h1 : X.env.scope = osc) (hi : PI X target iter wi) (h : csB osc oN N W G scope fv = true)
    (hB : ∀ cl C fp s H, Sc (cxC X N scope cl C fp s H) N W G -> PG (cxC X N scope cl C fp s H) target g /\ PIf (cxC X N scope cl C fp s H) ifs tc /\ PE (cxC X N scope cl C fp s H) elt te)
    (hx : X.env.scope.names.lookup x = some .local)
    (hsw : swapsWith (.ListComp elt [⟨target, iter, ifs, 0⟩] scope pos) (some (.Name x px)) spos.line X.env = pure true) (hi' : oN[i]? = some x := by rfl)
    (hs : ∀ x, foldedSetIterable iter X.env x = pure x := by intro _; rfl) : PS X (.Assign [.Name x px] (.ListComp elt [⟨target, iter, ifs, 0⟩] scope pos) spos) (tAsg (tLC wi g tc te fv) (gName i)) :=
  ps_lc (by rw [S.eN]; exact S.nd) (by rw [S.eN]; exact hi') hx hc hi (csB_csc S h1 h) (fun cl C fp s H => hB cl C fp s H (sc_comp h1 h)) hsw hs
end
section
variable {X : Cx} {K : Frag} {e o : Expr} {es : List Expr} {te to tl : TE} {t : TA} {pos apos cpos : Pos} {tg l : Expr} {name : Str} {T id : String} {rm : V -> List V -> Hp -> VK -> Prop}
theorem never' (h : X.xe = fun _ _ => False) : PassesOwn (model X.prog X.w) X.A X.env X.xe := by rw [h]; exact PassesOwn.never
theorem zq7 (h : X.K = K) : IxR X (rIxL K) := by subst h; exact ix_list
theorem zj5 (h : X.K = K) : IxR X (rIxT K) := by subst h; exact ix_tup
theorem sl_listK (h : X.K = K) : SlR X (rSlL K) := by subst h; exact sl_list
theorem sl_tupK (h : X.K = K) : SlR X (rSlT K) := by subst h; exact sl_tup
theorem op_inK (h : X.K = K) : OpR X (compareOp .In) (rIn K false) := by subst h; exact op_in_seq
def rLen (K : Frag) : List V -> Hp -> VK -> Prop := fun xs H Q => ∃ p ys, xs = [.ref p] /\ (SqL K H p ys ∨ SqT K H p ys) /\ Q (.int ys.length) H
theorem zj3 (h : X.K = K) : CallR X (.builtin "len") (rLen K) := by subst h; exact call_len_seq
def rSum (K : Frag) : List V -> Hp -> VK -> Prop := fun xs H Q => ∃ (p : Addr) (ns : List Int), xs = [.ref p] /\ SqL K H p (ns.map V.int) /\ Q (.int ns.sum) H
theorem call_sumK (hc : X.calm = true) (h : X.K = K) : CallR X (.builtin "sum") (rSum K) := by subst h; exact call_sum hc
def rTupOf (K : Frag) : List V -> Hp -> VK -> Prop := fun xs H Q => ∃ p ys, xs = [.ref p] /\ ((SqL K H p ys /\ ∀ l, H l = none -> Q (.ref l) (upd H l (.tup ys))) ∨ (SqT K H p ys /\ Q (.ref p) H))
theorem call_tupK (h : X.K = K) : CallR X (.type "tuple") (rTupOf K) := by subst h; exact call_tuple_of
def rEqD (K : Frag) : R2 := fun x y H Q => ∃ d d', Dt K H x d /\ Dt K H y d' /\ PySem.SeqAt.shaped d = true /\ PySem.SeqAt.shaped d' = true /\ Q (.bl (PyData.eqv d d')) H
def rNeD (K : Frag) : R2 := fun x y H Q => ∃ d d', Dt K H x d /\ Dt K H y d' /\ PySem.SeqAt.shaped d = true /\ PySem.SeqAt.shaped d' = true /\ Q (.bl (!PyData.eqv d d')) H
theorem op_eqK (hu : X.A.units + 64 < cLine) (h : X.K = K) : OpR X (compareOp .Eq) (rEqD K) := by subst h; exact op_eqD hu
theorem op_neK (hu : X.A.units + 64 < cLine) (h : X.K = K) : OpR X (compareOp .NotEq) (rNeD K) := by subst h; exact op_neD hu
def rCatL (K : Frag) : R2 := fun x y H Q => ∃ l b xs zs, x = .ref l /\ y = .ref b /\ SqL K H l xs /\ SqL K H b zs /\ xs.length + zs.length <= sizeLine /\ ∀ p, H p = none -> Q (.ref p) (upd H p (.lst (xs ++ zs)))
theorem op_catLK (h : X.K = K) : OpR X (binaryOp .Add) (rCatL K) := by subst h; exact op_catL
def rIsi : List V -> Hp -> VK -> Prop := fun xs H Q => ∃ x T n b, xs = [x, .ty T] /\ tyName x H = some n /\ subT n T = some b /\ Q (.bl b) H
theorem call_isiK : CallR X (.builtin "isinstance") rIsi := call_isi
theorem pi_listK (hl : PE X l tl) (h : X.K = K) : PI X tg l (iList K tl) := by subst h; exact pi_list hl
theorem pi_tupK (hl : PE X l tl) (h : X.K = K) : PI X tg l (iTup K tl) := by subst h; exact pi_tup hl
theorem mbK (pa : PlainAttrs T) (slot : Slot T name id) (hty : typeOf (.builtin id) = pure (.type "method_descriptor")) (hm : MtR X id rm) (h : X.K = K) (ho : PE X o to) (ha : PB X (e :: es) t)
    (hbase : attributeBase o name X.env (eval o X.env) = eval o X.env := by rfl) (hlen : decide ((e :: es).length < 30) = true := by rfl)
    (hline : (apos.endLine == cpos.line) = true := by rfl) : PE X (.Call (.Attribute o name apos) (e :: es) [] cpos) (tBM K T rm to t) := by subst h; exact mb pa slot hty hm ho ha hbase hlen hline
def rCatTT (K : Frag) : R2 := fun x y H Q => ∃ a b xs ys, x = .ref a /\ y = .ref b /\ SqT K H a xs /\ SqT K H b ys /\ xs.length + ys.length <= sizeLine /\ ∀ p H', Same H H' -> SqT K H' p (xs ++ ys) -> Q (.ref p) H'
theorem op_catTK (h : X.K = K) : OpR X (binaryOp .Add) (rCatTT K) := by
  subst h
  intro pins s σ H x y v u Q I rx ry h
  obtain ⟨a, b, xs, ys, rfl, rfl, ha, hb, hz, q⟩ := h
  by_cases hx : xs = []
  · subst hx
    cases rx
    cases ry
    obtain ⟨its, r1, ⟨⟨cls, dd, data, sl⟩, e, ec, n, ex⟩, _⟩ := I.tuple ha
    obtain ⟨its2, r2, ⟨⟨cls2, dd2, data2, sl2⟩, e2, ec2, n2, ex2⟩, _⟩ := I.tuple hb
    simp only at ec ex ec2 ex2
    subst ec ex ec2 ex2
    cases r1
    refine concat_meets ⟨_, e, rfl⟩ ⟨_, e2, rfl⟩ noFill_tuple_add seq_tuple_add PySem.F.slot_tuple_add PySem.F.entry_tuple_add (PySem.F.args_tuple_add_2 _ _) (tuple_addW0 a b _ its2.toArray n n2 dd dd2 sl sl2 rfl) ⟨e, e2, ?_⟩
    exact ⟨.ref b, H, I, rfl, q b H (Same.refl _) hb⟩
  · exact op_catT pins s σ H _ _ v u Q I rx ry ⟨a, b, xs, ys, rfl, rfl, ha, hb, hx, hz, fun e => q a H (Same.refl _) (by rw [e, List.append_nil]; exact ha), fun _ p hp => q p _ (Same.new hp _) (SqT.of zq1)⟩
end
def mkEnv (sc : Scope) : Env := { scope := sc, locals := 0, globals := 0, cells := [], qual := "", func := none, code := .none, frame := none, builtins := 0 }
theorem swp_env (t : List Expr) (v : Expr) (env : Env) : swappedStores t v env = swappedStores t v (mkEnv env.scope) := rfl
theorem sww_env (v : Expr) (t : Option Expr) (l : Nat) (env : Env) : swapsWith v t l env = swapsWith v t l (mkEnv env.scope) := rfl
def intsE : List Expr -> Option (List Int)
  | [] => some []
  | .Constant (.int i) _ _ :: r => (intsE r).map (i :: ·)
  | _ => none
def tInts (ns : List Int) : TA := fun _ H Q => Q (ns.map V.int) H
theorem pb_ints {X : Cx} : ∀ {es : List Expr} {ns : List Int}, intsE es = some ns -> PB X es (tInts ns)
  | [], ns, h => by cases h; exact pb_nil
  | e :: es, ns, h => by
    unfold intsE at h
    split at h
    · rename_i h1; cases h1
    · rename_i i k p r h1
      cases h1
      obtain ⟨ms, h2, rfl⟩ := Option.map_eq_some_iff.mp h
      exact pb_cons pe_int (pb_ints h2)
    · cases h
theorem q_ints {ns : List Int} {σ : St} {H : Hp} {Q : List V -> Hp -> Prop} : tInts ns σ H Q = Q (ns.map V.int) H := rfl
end L2
namespace L2
open PySem PySem.Spec PyProof.Rows
structure QE (X : Cx) (e : Expr) (t : TE) : Prop where
  h : PE X e t
structure QT (X : Cx) (e : Expr) (t : TT) : Prop where
  h : PT X e t
structure QW (X : Cx) (e : Expr) (t : TT) : Prop where
  h : PW X e t
structure QB (X : Cx) (es : List Expr) (t : TA) : Prop where
  h : PB X es t
structure QS (X : Cx) (st : Stmt) (t : TS) : Prop where
  h : PS X st t
structure QSs (X : Cx) (st : List Stmt) (t : TS) : Prop where
  h : PSs X st t
structure QG (X : Cx) (e : Expr) (t : TG) : Prop where
  h : PG X e t
structure QGs (X : Cx) (e : List Expr) (t : TGs) : Prop where
  h : PGs X e t
structure QI (X : Cx) (tg iter : Expr) (wi : TI) : Prop where
  h : PI X tg iter wi
structure QIf (X : Cx) (ifs : List Expr) (t : TT) : Prop where
  h : PIf X ifs t
structure QO (X : Cx) (e : Option Expr) (t : TO) : Prop where
  h : PO X e t
section
variable {X : Cx} {N W G : List Str} {K : Frag} {a b c e o : Expr} {es rest : List Expr} {ta tb tc te to : TE} {tA tB' : TT} {t : TA} {u v : TS} {pos pos' p apos cpos : Pos} {k m : Nat} {x : Str} {ps : List Str} {sp : Sp} {id T : String} {r : List V -> Hp -> VK -> Prop} {st : Stmt} {sts : List Stmt} {tg iter : Expr} {wi : TI} {g : TG} {name : Str} {rm : V -> List V -> Hp -> VK -> Prop}
theorem kv (S : Sc X N W G) (i : Nat) (h : N[i]? = some x := by rfl) : QE X (.Name x pos) (tVar i) := ⟨vv S i h⟩
theorem kint {i : Int} {j : Nat} : QE X (.Constant (.int i) j pos) (tC (.int i)) := ⟨pe_int⟩
theorem kbl {i : Bool} {j : Nat} : QE X (.Constant (.bool i) j pos) (tC (.bl i)) := ⟨pe_bl⟩
theorem knon {j : Nat} : QE X (.Constant .none j pos) (tC .non) := ⟨pe_non⟩
theorem kstr {i : Str} {j : Nat} : QE X (.Constant (.str i) j pos) (tC (.str i)) := ⟨pe_str⟩
theorem kop {op : Operator} {r : R2} (ho : OpR X (binaryOp op) r) (ha : QE X a ta) (hb : QE X b tb) : QE X (.BinOp a op b pos) (tOp r ta tb) := ⟨pe_op ho ha.h hb.h⟩
theorem kdivc {n : Int} (ha : QE X a ta) (h : 0 < n /\ n < 1073741824 := by decide) : QE X (.BinOp a .FloorDiv (.Constant (.int n) k pos') pos) (tI (fun i => .int (i / n)) ta) := ⟨pe_divc ha.h h⟩
theorem kmodc {n : Int} (ha : QE X a ta) (h : 0 < n := by decide) : QE X (.BinOp a .Mod (.Constant (.int n) k pos') pos) (tI (fun i => .int (i % n)) ta) := ⟨pe_modc ha.h h⟩
theorem kcmul {n : Int} (ha : QE X a ta) (h : -(2 ^ 64) < n /\ n < 2 ^ 64 := by decide) : QE X (.BinOp (.Constant (.int n) k pos') .Mult a pos) (tI (fun i => .int (n * i)) ta) := ⟨pe_cmul ha.h h⟩
theorem kun {op : UnaryOp} {r : V -> Hp -> VK -> Prop} (ho : UnR X (unaryOp op) r) (ha : QE X a ta) : QE X (.UnaryOp op a pos) (tUn r ta) := ⟨pe_un ho ha.h⟩
theorem knot (ha : QE X a ta) : QE X (.UnaryOp .Not a pos) (tNotV ta) := ⟨pe_not ha.h⟩
theorem kcmp {op : CmpOp} {r : R2} (ho : OpR X (compareOp op) r) (ha : QE X a ta) (hb : QE X b tb) (hm : behindInMarks op b = false) : QE X (.Compare a [op] [b] pos) (tOp r ta tb) := ⟨pe_cmpR ho ha.h hb.h hm⟩
theorem kchain {op op' : CmpOp} {r r' : R2} (ho : OpR X (compareOp op) r) (ho' : OpR X (compareOp op') r') (ha : QE X a ta) (hb : QE X b tb) (hc : QE X c tc)
    (hm : lastMarks [op, op'] [b, c] = false := by with_unfolding_all rfl) : QE X (.Compare a [op, op'] [b, c] pos) (tChain r r' ta tb tc) := ⟨pe_chain ho ho' ha.h hb.h hc.h hm⟩
theorem kone {op} (h : QE X a ta) : QE X (.BoolOp op [a] pos) ta := ⟨pe_one h.h⟩
theorem kand (ha : QE X a ta) (hb : QE X (.BoolOp .And (b :: rest) pos) tb) : QE X (.BoolOp .And (a :: b :: rest) pos) (tAndV ta tb) := ⟨pe_and ha.h hb.h⟩
theorem zq2 : QB X [] tNil := ⟨pb_nil⟩
theorem zq0 (ha : QE X e te) (hr : QB X es t) (hn : nst e = true := by rfl) : QB X (e :: es) (tCons te t) := ⟨pb_cons ha.h hr.h hn⟩
theorem kb_ints {ns : List Int} (h : intsE es = some ns) : QB X es (tInts ns) := ⟨pb_ints h⟩
theorem ktp {x1} (h : QB X es t) : QE X (.Tuple es x1 pos) (tTup t) := ⟨pe_tp h.h⟩
theorem kls (h : QB X es t) : QE X (.List es pos) (tLst t) := ⟨pe_ls h.h⟩
theorem kix {r : R2} (hr : IxR X r) (ha : QE X a ta) (hb : QE X b tb) (hs : PlainIx b) : QE X (.Subscript a b pos) (tOp r ta tb) := ⟨pe_ix hr ha.h hb.h hs⟩
theorem ko_none : QO X none tNoPart := ⟨po_none⟩
theorem zz6 (h : QE X e te) : QO X (some e) (tPart te) := ⟨po_some h.h⟩
theorem ksl {lo hi : Option Expr} {tl th : TO} {p2 : Pos} {r : V -> Option Int -> Option Int -> Hp -> VK -> Prop} (hr : SlR X r) (he : QE X e te) (hl : QO X lo tl) (hu : QO X hi th) : QE X (.Subscript e (.Slice lo hi none p2) pos) (tSl r te tl th) := ⟨pe_slice hr he.h hl.h hu.h⟩
theorem kff (S : Sc X N W G) (g : Nat) (F : Fn X.prog X.w X.K X.mg X.base k x ps sp) (hr : Room m X.A) (ha : QB X (e :: es) t) (hk : k <= m := by decide) (hg : G[g]? = some x := by rfl) : QE X (.Call (.Name x p) (e :: es) [] pos) (tCall sp [] E0 t) := ⟨ff S g F hr ha.h hk hg⟩
theorem kcb (S : Sc X N W G) (g : Nat) (hc : CallR X (.builtin id) r) (hm : X.mg x = none) (hv : bootBuiltins x = some (.builtin id)) (ha : QB X (e :: es) t) (hg : G[g]? = some x := by rfl) : QE X (.Call (.Name x p) (e :: es) [] pos) (tCB r t) := ⟨cb S g hc hm hv ha.h hg⟩
theorem kct (S : Sc X N W G) (g : Nat) (hc : CallR X (.type T) r) (hm : X.mg x = none) (hv : bootBuiltins x = some (.type T)) (ha : QB X (e :: es) t) (hg : G[g]? = some x := by rfl) : QE X (.Call (.Name x p) (e :: es) [] pos) (tCB r t) := ⟨ct S g hc hm hv ha.h hg⟩
theorem kty (S : Sc X N W G) (g : Nat) (hm : X.mg x = none) (hv : bootBuiltins x = some (.type T)) (hg : G[g]? = some x := by rfl) : QE X (.Name x pos) (tC (.ty T)) := ⟨tyv S g hm hv hg⟩
theorem kmb (pa : PlainAttrs T) (slot : Slot T name id) (hty : typeOf (.builtin id) = pure (.type "method_descriptor")) (hm : MtR X id rm) (h : X.K = K) (ho : QE X o to) (ha : QB X (e :: es) t)
    (hbase : attributeBase o name X.env (eval o X.env) = eval o X.env := by rfl) (hlen : decide ((e :: es).length < 30) = true := by rfl)
    (hline : (apos.endLine == cpos.line) = true := by rfl) : QE X (.Call (.Attribute o name apos) (e :: es) [] cpos) (tBM K T rm to t) := ⟨mbK pa slot hty hm h ho.h ha.h hbase hlen hline⟩
theorem tcmp {op : CmpOp} {r : R2} (ho : OpR X (compareOp op) r) (ha : QE X a ta) (hb : QE X b tb) (hm : behindInMarks op b = false) : QT X (.Compare a [op] [b] pos) (tTest (tOp r ta tb)) := ⟨pt_cmpR ho ha.h hb.h hm⟩
theorem tchain {op op' : CmpOp} {r r' : R2} (ho : OpR X (compareOp op) r) (ho' : OpR X (compareOp op') r') (ha : QE X a ta) (hb : QE X b tb) (hc : QE X c tc)
    (hm : lastMarks [op, op'] [b, c] = false := by with_unfolding_all rfl) : QT X (.Compare a [op, op'] [b, c] pos) (tTest (tChain r r' ta tb tc)) := ⟨pt_chain ho ho' ha.h hb.h hc.h hm⟩
theorem wand1 (ha : QT X a tA) : QW X (.BoolOp .And [a] pos) tA := ⟨pw_and1 ha.h⟩
theorem wor1 (ha : QT X a tA) : QW X (.BoolOp .Or [a] pos) tA := ⟨pw_or1 ha.h⟩
theorem wand (ha : QT X a tA) (hb : QW X (.BoolOp .And (b :: rest) pos) tB') : QW X (.BoolOp .And (a :: b :: rest) pos) (tAnd tA tB') := ⟨pw_and ha.h hb.h⟩
theorem wor (ha : QT X a tA) (hb : QW X (.BoolOp .Or (b :: rest) pos) tB') : QW X (.BoolOp .Or (a :: b :: rest) pos) (tOr tA tB') := ⟨pw_or ha.h hb.h⟩
theorem wpt (h : QW X a tA) : QT X a tA := ⟨h.h.pt⟩
theorem tnot (ha : QT X a tA) : QT X (.UnaryOp .Not a pos) (tNot tA) := ⟨pt_not ha.h⟩
theorem tval (h : QE X e te) (he : ∀ whole, isTrue e X.env whole = (do let v <- whole; standAt e.pos; holding [v] (truthy v)) := by intro _; rfl) : QT X e (tB te) := ⟨pt_val h.h he⟩
theorem kg (S : Sc X N W G) (i : Nat) (h : N[i]? = some x := by rfl) (hw : W[i]? = some x := by rfl) : QG X (.Name x pos) (gName i) := ⟨gv S i h hw⟩
theorem gs_nil : QGs X [] gNil := ⟨pgs_nil⟩
theorem zz3 {tgs : TGs} (h1 : QG X e g) (h2 : QGs X es tgs) (hs : (assignEach (e :: es) X.env).map (·.2) = assign e X.env :: (assignEach es X.env).map (·.2) := by rfl) : QGs X (e :: es) (gCons g tgs) := ⟨pgs_cons h1.h h2.h hs⟩
theorem gtup {kk : Nat} {tgs : TGs} {n : Nat} (hc : X.calm = true) (hK : X.K = K) (h : QGs X es tgs) (hn : (assignEach es X.env).length = n := by rfl) (hst : (assignEach es X.env).findIdx? (·.1) = none := by rfl) : QG X (.Tuple es kk pos) (gTup K n tgs) := ⟨by subst hK; exact pg_tup hc h.h hn hst⟩
theorem gsub {ti : TE} {i : Expr} {tS : TSet} (ho : QE X o to) (hi : QE X i ti) (hs : PSet X tS)
    (ha : ∀ v, assign (.Subscript o i pos) X.env v = (do
      let ov <- holding [v] (eval o X.env)
      let iv <- holding [v, ov] (eval i X.env)
      standAt pos
      holding [v, ov, iv] (setItem ov iv v)
      release [v, ov, iv] []) := by intro _; rfl) : QG X (.Subscript o i pos) (gSub to ti tS) := ⟨pg_sub ho.h hi.h hs ha⟩
theorem irg1 (S : Sc X N W G) (g : Nat) (hm : X.mg "range" = none) (ha : QB X [e] t) (hg : G[g]? = some "range" := by rfl) : QI X tg (.Call (.Name "range" p) [e] [] pos) (iRng1 t) := ⟨rg1 S g hm ha.h hg⟩
theorem ilistK (hl : QE X e te) (h : X.K = K) : QI X tg e (iList K te) := ⟨pi_listK hl.h h⟩
theorem itupK (hl : QE X e te) (h : X.K = K) : QI X tg e (iTup K te) := ⟨pi_tupK hl.h h⟩
theorem if_nil : QIf X [] tTrue := ⟨pif_nil⟩
theorem if_one (h : QT X e tA) : QIf X [e] tA := ⟨pif_one h.h⟩
theorem ssv (S : Sc X N W G) (i : Nat) (he : QE X e te) (h : N[i]? = some x := by rfl) (hw : W[i]? = some x := by rfl) (hs : swapsWith e (some (.Name x pos')) pos.line X.env = pure false := by rfl) :
    QS X (.Assign [.Name x pos'] e pos) (tAsg te (gName i)) := ⟨sv S i he.h h hw hs⟩
theorem sasg (he : QE X e te) (hg : QG X tg g) (hs : swapsWithSole [tg] e pos.line X.env = pure false := by rfl) (hw : swappedStores [tg] e X.env = pure none := by rfl)
    (h1 : (assignEach [tg] X.env).map (·.2) = [assign tg X.env] := by rfl) : QS X (.Assign [tg] e pos) (tAsg te g) := ⟨ps_asg he.h hg.h hs hw h1⟩
theorem sret (he : QE X e te) : QS X (.Return (some e) pos) (tRet te) := ⟨ps_ret he.h⟩
theorem sexpr (he : QE X e te) (hs : swapsWith e none pos.line X.env = pure false := by rfl) : QS X (.Expr e pos) (tDrop te) := ⟨ps_expr he.h hs⟩
theorem sif {l l' : List Stmt} (hc : QT X c tA) (ha : QSs X l u) (hb : QSs X l' v) : QS X (.If c l l' pos) (tIfS tA u v) := ⟨ps_if hc.h ha.h hb.h⟩
theorem sfor (hxe : X.xe = fun _ _ => False) (hc : X.calm = true) (hi : QI X tg iter wi) (hg : QG X tg g) (hb : QSs X sts u) (hs : ∀ x, foldedSetIterable iter X.env x = pure x := by intro _; rfl) : QS X (.For tg iter sts [] pos) (tFor wi g u) := ⟨ps_for (never' hxe) hc hi.h hg.h hb.h hs⟩
theorem zz0 : QSs X [] tNext := ⟨pss_nil⟩
theorem zq4 (h1 : QS X st u) (h2 : QSs X sts v) : QSs X (st :: sts) (tSeq u v) := ⟨pss_cons h1.h h2.h⟩
theorem zq5 (h1 : QS X st u) : QSs X [st] u := ⟨pss_one h1.h⟩
theorem spar {i j : Nat} {x y : Str} {px py pt : Pos} {kt k2 pt2} (S : Sc X N W G) (hc : X.calm = true) (ha : QB X [a, b] t) (hi : N[i]? = some x := by rfl) (hj : N[j]? = some y := by rfl) (hij : i ≠ j := by decide)
    (hx : X.env.scope.names.lookup x = some .local) (hy : X.env.scope.names.lookup y = some .local)
    (hw : swappedStores [.Tuple [.Name x px, .Name y py] kt pt] (.Tuple [a, b] k2 pt2) X.env = pure (some [x, y])) :
    QS X (.Assign [.Tuple [.Name x px, .Name y py] kt pt] (.Tuple [a, b] k2 pt2) pos) (tPar i j t) := ⟨par S hc ha.h hi hj hij hx hy hw⟩
theorem klc {elt target iter : Expr} {ifs : List Expr} {scope osc : Scope} {oN oW oG N W G : List Str} {fv : List (Option Nat)} (S : Sc X oN oW oG) (hc : X.calm = true) (h1 : X.env.scope = osc) (hi : QI X target iter wi) (h : csB osc oN N W G scope fv = true)
    (hB : ∀ cl C fp s H, Sc (cxC X N scope cl C fp s H) N W G -> QG (cxC X N scope cl C fp s H) target g /\ QIf (cxC X N scope cl C fp s H) ifs tA /\ QE (cxC X N scope cl C fp s H) elt te)
    (hs : ∀ x, foldedSetIterable iter X.env x = pure x := by intro _; rfl) : QE X (.ListComp elt [⟨target, iter, ifs, 0⟩] scope pos) (tLC wi g tA te fv) :=
  ⟨lcE S hc h1 hi.h h (fun cl C fp s H S2 => ⟨(hB cl C fp s H S2).1.h, (hB cl C fp s H S2).2.1.h, (hB cl C fp s H S2).2.2.h⟩) hs⟩
theorem slc {elt target iter : Expr} {ifs : List Expr} {scope osc : Scope} {oN oW oG N W G : List Str} {fv : List (Option Nat)} {i : Nat} {x : Str} {px spos : Pos} (S : Sc X oN oW oG) (hc : X.calm = true) (h1 : X.env.scope = osc) (hi : QI X target iter wi) (h : csB osc oN N W G scope fv = true)
    (hB : ∀ cl C fp s H, Sc (cxC X N scope cl C fp s H) N W G -> QG (cxC X N scope cl C fp s H) target g /\ QIf (cxC X N scope cl C fp s H) ifs tA /\ QE (cxC X N scope cl C fp s H) elt te)
    (hx : X.env.scope.names.lookup x = some .local)
    (hsw : swapsWith (.ListComp elt [⟨target, iter, ifs, 0⟩] scope pos) (some (.Name x px)) spos.line X.env = pure true) (hi' : oN[i]? = some x := by rfl)
    (hs : ∀ x, foldedSetIterable iter X.env x = pure x := by intro _; rfl) : QS X (.Assign [.Name x px] (.ListComp elt [⟨target, iter, ifs, 0⟩] scope pos) spos) (tAsg (tLC wi g tA te fv) (gName i)) :=
  ⟨lcS S hc h1 hi.h h (fun cl C fp s H S2 => ⟨(hB cl C fp s H S2).1.h, (hB cl C fp s H S2).2.1.h, (hB cl C fp s H S2).2.2.h⟩) hx hsw hi' hs⟩
end
section
variable {P : Program} {w : World} {K : Frag} {mg : Str -> Option Value} {base : Heap} {k : Nat} {x : Str} {N ps G : List Str} {sp : Sp} {st : Stmt}
theorem Def.gq (D : Def K mg x st) (S : DS (zq3 st) N ps G)
    (hb : ∀ (kV doc pm : Value) (an : Option Addr) (cdv ct : Value) (us : List Value), us.length = ps.length -> bindArgs (PySem.W.fnOf x x (zj2 st) (zq8 st) (zq3 st) .none kV doc pm an cdv ct) ⟨us, []⟩ = pure (ps.zip us))
    (len : ∀ vs H Q E, sp vs H Q E -> vs.length = ps.length)
    (hbody : ∀ (X : Cx), Sc X N N G -> X.prog = P -> X.w = w -> X.K = K -> X.mg = mg -> X.base = base -> X.calm = true -> X.env.scope = zq3 st -> X.xe = (fun _ _ => False) -> Room k X.A -> X.A.units + 64 < cLine ->
      ∀ (H : Hp) (vs : List V) (Q : VK) (E : XK), sp vs H Q E -> ∃ t, QSs X (zq8 st) t /\ t { nx := fun _ H' => Q .non H', rt := Q } (L2.start N vs) H) : Fn P w K mg base (k + 1) x ps sp :=
  D.go S hb len fun X a b c d e f g h i j l H vs Q E q => by
    obtain ⟨t, z, y⟩ := hbody X a b c d e f g h i j l H vs Q E q
    exact ⟨t, z.h, y⟩
end
end L2
namespace KM
def pr : List Int -> Int
  | [] => 1
  | c :: r => c * pr r
theorem pr_snoc (xs : List Int) (c : Int) : pr (xs ++ [c]) = pr xs * c := by
  induction xs with
  | nil => simp [pr]
  | cons a r ih => rw [List.cons_append, pr, ih, pr, Int.mul_assoc]
def arcs (W : Int) (cs : List Int) : Int := (cs.map (W / ·)).sum
theorem dvd_pr {c : Int} : ∀ {cs : List Int}, c ∈ cs -> c ∣ pr cs
  | a :: r, h => by
    rcases List.mem_cons.mp h with rfl | h
    · exact ⟨pr r, rfl⟩
    · obtain ⟨d, e⟩ := dvd_pr h
      exact ⟨a * d, by rw [pr, e, <- Int.mul_assoc, <- Int.mul_assoc, Int.mul_comm a c]⟩
theorem pr_pos : ∀ {cs : List Int}, (∀ c ∈ cs, 1 <= c) -> 1 <= pr cs
  | [], _ => by decide
  | a :: r, h => by
    have h1 := h a (List.mem_cons_self ..)
    have h2 := pr_pos (cs := r) fun c hc => h c (List.mem_cons_of_mem _ hc)
    have := Int.mul_le_mul h1 h2 (by decide) (by omega)
    rw [pr]; omega
end KM
namespace KM
def guess (W c start seen : Int) : Int := ((start - seen) % W + W / c - 1) / (W / c) % c
end KM
namespace KM
def others (n i : Nat) : List Nat := (List.range n).filter fun j => decide (¬ j = i)
def seenOf (W : Int) (cs hs : List Int) (i : Nat) : Int := ((others cs.length i).map fun j => hs.getD j 0 * (W / cs.getD j 0)).sum
def cg (cs hs : List Int) (i : Nat) : Int := guess (pr cs) (cs.getD i 0) (arcs (pr cs) (cs.take i)) (seenOf (pr cs) cs hs i)
theorem getD_mem {cs : List Int} {i : Nat} (hi : i < cs.length) : cs.getD i 0 ∈ cs := by
  rw [List.getD_eq_getElem?_getD, List.getElem?_eq_getElem hi]; exact List.getElem_mem hi
theorem take_snoc {α : Type} (d : α) {xs : List α} {n : Nat} (h : n < xs.length) : xs.take (n + 1) = xs.take n ++ [xs.getD n d] := by
  rw [List.take_succ, List.getElem?_eq_getElem h, List.getD_eq_getElem?_getD, List.getElem?_eq_getElem h]; rfl
theorem arc_le {cs : List Int} (h : ∀ c ∈ cs, 1 <= c) {i : Nat} (hi : i < cs.length) : pr cs / cs.getD i 0 <= pr cs /\ 1 <= pr cs / cs.getD i 0 := by
  have hp := pr_pos h
  have hc := h _ (getD_mem hi)
  refine ⟨Int.ediv_le_self _ (by omega), ?_⟩
  obtain ⟨d, e⟩ := dvd_pr (getD_mem hi)
  rw [e, Int.mul_ediv_cancel_left _ (by omega)]
  have := Int.pos_of_mul_pos_right (show 0 < cs.getD i 0 * d by omega) (by omega)
  omega
end KM
namespace L2
open PySem PySem.Spec PyProof.Rows
theorem q_iT {A B : Prop} [Decidable (true = true)] : (if true = true then A else B) = A := if_pos rfl
theorem q_ifT {A B : Prop} [Decidable True] : (if True then A else B) = A := if_pos trivial
theorem q_ifF {A B : Prop} [Decidable False] : (if False then A else B) = B := if_neg id
theorem q_dT [i : Decidable True] : @decide True i = true := by cases i with
  | isTrue _ => rfl
  | isFalse h => exact absurd trivial h
theorem q_upS {σ : St} : upS [] σ = [] := rfl
theorem q_upN {fv : List (Option Nat)} {σ : St} : upS (none :: fv) σ = none :: upS fv σ := rfl
def getO (σ : St) (i : Nat) : Option V := (σ[i]?).join
theorem q_upV {fv : List (Option Nat)} {i : Nat} {σ : St} : upS (some i :: fv) σ = getO σ i :: upS fv σ := rfl
theorem q_g0 {o : Option V} {σ : St} : getO (o :: σ) 0 = o := rfl
theorem q_gS {i : Nat} {o : Option V} {σ : St} : getO (o :: σ) (i + 1) = getO σ i := rfl
theorem to_isi {x : V} {H : Hp} {n T : String} {b : Bool} {Q : VK} (hn : tyName x H = some n) (hb : subT n T = some b) (q : Q (.bl b) H) : rIsi [x, .ty T] H Q := ⟨x, T, n, b, rfl, hn, hb, q⟩
theorem ty_lst {H : Hp} {p : Addr} {xs : List V} (h : H p = some (.lst xs)) : tyName (.ref p) H = some "list" := by unfold tyName; simp only [h]
theorem zz7 {K : Frag} {H : Hp} {Q : VK} {p : Addr} {ys : List V} (h : SqL K H p ys ∨ SqT K H p ys) (q : Q (.int ys.length) H) : rLen K [.ref p] H Q := ⟨p, ys, rfl, h, q⟩
theorem to_sum {K : Frag} {H : Hp} {Q : VK} {p : Addr} {ns : List Int} (h : SqL K H p (ns.map V.int)) (q : Q (.int ns.sum) H) : rSum K [.ref p] H Q := ⟨p, ns, rfl, h, q⟩
theorem atI_getD {α : Type} {xs : List α} {i : Int} {k : Nat} (e : i = (k : Int)) (d : α) (h1 : k < xs.length) : atI xs i = some (xs.getD k d) := by
  subst e
  rw [atI_nat (List.getElem?_eq_getElem h1), List.getD_eq_getElem?_getD, List.getElem?_eq_getElem h1]; rfl
theorem getD_ints {ns : List Int} {k : Nat} (h : k < ns.length) : (ns.map V.int).getD k .non = .int (ns.getD k 0) := by
  rw [List.getD_eq_getElem?_getD, List.getElem?_map, List.getElem?_eq_getElem h, List.getD_eq_getElem?_getD, List.getElem?_eq_getElem h]; rfl
theorem to_ixLk {K : Frag} {H : Hp} {Q : VK} {p : Addr} {ns : List Int} {i : Int} {k : Nat} (h : SqL K H p (ns.map V.int)) (e : i = (k : Int)) (h1 : k < ns.length) (q : Q (.int (ns.getD k 0)) H) : rIxL K (.ref p) (.int i) H Q :=
  ⟨p, _, i, _, rfl, rfl, h, atI_getD e .non (by rw [List.length_map]; exact h1), by rw [getD_ints h1]; exact q⟩
theorem zj9 {K : Frag} {H : Hp} {Q : VK} {p : Addr} {ns : List Int} {i : Int} {k : Nat} (h : SqT K H p (ns.map V.int)) (e : i = (k : Int)) (h1 : k < ns.length) (q : Q (.int (ns.getD k 0)) H) : rIxT K (.ref p) (.int i) H Q :=
  ⟨p, _, i, _, rfl, rfl, h, atI_getD e .non (by rw [List.length_map]; exact h1), by rw [getD_ints h1]; exact q⟩
section
variable {K : Frag} {a : Addr} {ns : List Int} {g : TG} {tb : TS} {D : Ends} {σ : St} {H : Hp}
theorem forT (I : Nat -> St -> Hp -> Prop) (h : SqT K H a (ns.map V.int)) (h0 : I 0 σ H) (hl : ∀ i σ H, I i σ H -> SqT K H a (ns.map V.int))
    (step : ∀ i σ H, i < ns.length -> I i σ H -> g (.int (ns.getD i 0)) σ H fun σ2 H2 => tb { D with nx := I (i + 1), ct := I (i + 1), bk := D.nx } σ2 H2)
    (fin : ∀ σ H, I ns.length σ H -> D.nx σ H) : ∃ b, V.ref a = .ref b /\ (∃ xs, SqT K H b xs) /\ rFor g tb D σ (Itt K b) H := by
  refine ⟨a, rfl, ⟨_, h⟩, for_tup (xs := ns.map V.int) I h0 (fun i σ H _ p => hl i σ H p) (fun i x σ H e p => ?_) fun σ H p => fin σ H (by rw [List.length_map] at p; exact p)⟩
  have hi : i < ns.length := by have := (List.getElem?_eq_some_iff.mp e).1; rw [List.length_map] at this; exact this
  have e2 : x = .int (ns.getD i 0) := by
    rw [<- getD_ints hi, List.getD_eq_getElem?_getD, e]; rfl
  rw [e2]
  exact step i σ H hi p
theorem forL (I : Nat -> St -> Hp -> Prop) (h : SqL K H a (ns.map V.int)) (h0 : I 0 σ H) (hl : ∀ i σ H, I i σ H -> SqL K H a (ns.map V.int))
    (step : ∀ i σ H, i < ns.length -> I i σ H -> g (.int (ns.getD i 0)) σ H fun σ2 H2 => tb { D with nx := I (i + 1), ct := I (i + 1), bk := D.nx } σ2 H2)
    (fin : ∀ σ H, I ns.length σ H -> D.nx σ H) : ∃ b, V.ref a = .ref b /\ (∃ xs, SqL K H b xs) /\ rFor g tb D σ (Itl K b) H := by
  refine ⟨a, rfl, ⟨_, h⟩, for_list (xs := ns.map V.int) I h0 (fun i σ H _ p => hl i σ H p) (fun i x σ H e p => ?_) fun σ H p => fin σ H (by rw [List.length_map] at p; exact p)⟩
  have hi : i < ns.length := by have := (List.getElem?_eq_some_iff.mp e).1; rw [List.length_map] at this; exact this
  have e2 : x = .int (ns.getD i 0) := by
    rw [<- getD_ints hi, List.getD_eq_getElem?_getD, e]; rfl
  rw [e2]
  exact step i σ H hi p
theorem forR {j : Int} (n : Nat) (I : Nat -> St -> Hp -> Prop) (e : j = (n : Int)) (hn : n <= 1000000) (h0 : I 0 σ H)
    (step : ∀ i σ H, i < n -> I i σ H -> g (.int (i : Int)) σ H fun σ2 H2 => tb { D with nx := I (i + 1), ct := I (i + 1), bk := D.nx } σ2 H2)
    (fin : ∀ σ H, I n σ H -> D.nx σ H) : ∃ k : Int, [V.int j] = [.int k] /\ -(2 ^ 62) <= k /\ k < 2 ^ 62 /\ rFor g tb D σ (Itr 0 k.toNat) H := by
  subst e
  refine ⟨_, rfl, by omega, by omega, for_range (n := ((n : Nat) : Int).toNat) I h0 (fun i σ H hi p => ?_) fun σ H p => fin σ H (by rw [Int.toNat_natCast] at p; exact p)⟩
  rw [Int.toNat_natCast] at hi
  have := step i σ H hi p
  rw [<- Int.zero_add ((i : Nat) : Int)] at this
  exact this
end
theorem lc1 {tc : TT} {te : TE} {rest : St} {Q : VK} {J : It} {H1 : Hp} {n : Nat} {item : Nat -> V} (ok : ItOk J H1 n item) (keep : Nat -> Bool) (val : Nat -> V) (hn : n < sizeLine)
    (step : ∀ i H (A : V -> Hp -> Prop) (B : Hp -> Prop), i < n -> Same H1 H -> (keep i = true -> ∀ H', Same H H' -> A (val i) H') -> (keep i = false -> ∀ H', Same H H' -> B H') ->
      tc (some (item i) :: rest) H fun b H3 => if b = true then te (some (item i) :: rest) H3 A else B H3)
    (fin : ∀ acc H, H1 acc = none -> Same H1 H -> H acc = some (.lst (((List.range n).filter keep).map val)) -> Q (.ref acc) H) : rLC (gName 0) tc te (none :: rest) Q J H1 := by
  have hlen : ∀ i, i < n -> (((List.range i).filter keep).map val).length < sizeLine := fun i hi => by
    have := List.length_filter_le keep (List.range i)
    rw [List.length_range] at this
    rw [List.length_map]; omega
  refine rLC_by ok (fun i => ((List.range i).filter keep).map val) (fun _ τ => ∃ y, τ = y :: rest) rfl ⟨_, rfl⟩ ?_ fin
  rintro i τ H acc hi ⟨y, rfl⟩ hacc hS hF
  show tc (some (item i) :: rest) H _
  refine step i H _ _ hi hS (fun hk H' hS' => ?_) fun hk H' hS' => ?_
  · refine lc_put hacc (hS' _ _ hF) (hS.trans hS') (hlen i hi) ?_ ⟨_, rfl⟩
    simp [List.range_succ, List.filter_append, List.map_append, hk]
  · refine ⟨⟨_, rfl⟩, hS.trans hS', ?_⟩
    rw [hS' _ _ hF]
    simp [List.range_succ, List.filter_append, List.map_append, hk]
theorem lcT {K : Frag} {a : Addr} {ns : List Int} {tc : TT} {te : TE} {rest : St} {Q : VK} {H1 : Hp} (keep : Nat -> Bool) (val : Nat -> Int) (h : SqT K H1 a (ns.map V.int)) (hn : ns.length < sizeLine)
    (step : ∀ i H (A : V -> Hp -> Prop) (B : Hp -> Prop), i < ns.length -> Same H1 H -> (keep i = true -> ∀ H', Same H H' -> A (.int (val i)) H') -> (keep i = false -> ∀ H', Same H H' -> B H') ->
      tc (some (.int (ns.getD i 0)) :: rest) H fun b H3 => if b = true then te (some (.int (ns.getD i 0)) :: rest) H3 A else B H3)
    (fin : ∀ acc H, H1 acc = none -> Same H1 H -> H acc = some (.lst ((((List.range ns.length).filter keep).map val).map V.int)) -> Q (.ref acc) H) :
    ∃ b, V.ref a = .ref b /\ (∃ xs, SqT K H1 b xs) /\ rLC (gName 0) tc te (none :: rest) Q (Itt K b) H1 := by
  refine ⟨a, rfl, ⟨_, h⟩, lc1 (itok_tup h) keep (fun i => .int (val i)) (by rw [List.length_map]; exact hn) (fun i H A B hi hS hA hB => ?_) fun acc H h1 h2 h3 => fin acc H h1 h2 (by rw [h3, List.map_map, List.length_map]; rfl)⟩
  rw [List.length_map] at hi
  rw [getD_ints hi]
  exact step i H A B hi hS hA hB
theorem lcL {K : Frag} {a : Addr} {ns : List Int} {tc : TT} {te : TE} {rest : St} {Q : VK} {H1 : Hp} (keep : Nat -> Bool) (val : Nat -> Int) (h : SqL K H1 a (ns.map V.int)) (hn : ns.length < sizeLine)
    (step : ∀ i H (A : V -> Hp -> Prop) (B : Hp -> Prop), i < ns.length -> Same H1 H -> (keep i = true -> ∀ H', Same H H' -> A (.int (val i)) H') -> (keep i = false -> ∀ H', Same H H' -> B H') ->
      tc (some (.int (ns.getD i 0)) :: rest) H fun b H3 => if b = true then te (some (.int (ns.getD i 0)) :: rest) H3 A else B H3)
    (fin : ∀ acc H, H1 acc = none -> Same H1 H -> H acc = some (.lst ((((List.range ns.length).filter keep).map val).map V.int)) -> Q (.ref acc) H) :
    ∃ b, V.ref a = .ref b /\ (∃ xs, SqL K H1 b xs) /\ rLC (gName 0) tc te (none :: rest) Q (Itl K b) H1 := by
  refine ⟨a, rfl, ⟨_, h⟩, lc1 (itok_list h) keep (fun i => .int (val i)) (by rw [List.length_map]; exact hn) (fun i H A B hi hS hA hB => ?_) fun acc H h1 h2 h3 => fin acc H h1 h2 (by rw [h3, List.map_map, List.length_map]; rfl)⟩
  rw [List.length_map] at hi
  rw [getD_ints hi]
  exact step i H A B hi hS hA hB
theorem lcR {j : Int} {tc : TT} {te : TE} {rest : St} {Q : VK} {H1 : Hp} (n : Nat) (keep : Nat -> Bool) (val : Nat -> Int) (e : j = (n : Int)) (hn : n <= 1000000)
    (step : ∀ i H (A : V -> Hp -> Prop) (B : Hp -> Prop), i < n -> Same H1 H -> (keep i = true -> ∀ H', Same H H' -> A (.int (val i)) H') -> (keep i = false -> ∀ H', Same H H' -> B H') ->
      tc (some (.int (i : Int)) :: rest) H fun b H3 => if b = true then te (some (.int (i : Int)) :: rest) H3 A else B H3)
    (fin : ∀ acc H, H1 acc = none -> Same H1 H -> H acc = some (.lst ((((List.range n).filter keep).map val).map V.int)) -> Q (.ref acc) H) :
    ∃ k : Int, [V.int j] = [.int k] /\ -(2 ^ 62) <= k /\ k < 2 ^ 62 /\ rLC (gName 0) tc te (none :: rest) Q (Itr 0 k.toNat) H1 := by
  subst e
  refine ⟨_, rfl, by omega, by omega, ?_⟩
  rw [Int.toNat_natCast]
  refine lc1 itok_range keep (fun i => .int (val i)) (Nat.lt_of_le_of_lt hn (by decide)) (fun i H A B hi hS hA hB => ?_) fun acc H h1 h2 h3 => fin acc H h1 h2 (by rw [h3, List.map_map]; rfl)
  rw [Int.zero_add]
  exact step i H A B hi hS hA hB
theorem fil_all (n : Nat) : (List.range n).filter (fun _ => true) = List.range n := by simp
theorem map_getD {β : Type} (ns : List Int) (f : Int -> β) : (List.range ns.length).map (fun i => f (ns.getD i 0)) = ns.map f := by
  apply List.ext_getElem
  · simp
  · intro i h1 h2
    simp at h1
    simp [h1]
theorem Bt.pr {k : Nat} : ∀ {cs : List Int}, (∀ c ∈ cs, Bt k c) -> Bt (cs.length * k + 1) (KM.pr cs)
  | [], _ => by unfold Bt; simp [KM.pr]
  | c :: r, h => by
    have h1 := h c (List.mem_cons_self ..)
    have h2 := Bt.pr (k := k) (cs := r) fun d hd => h d (List.mem_cons_of_mem _ hd)
    have := h1.mul h2
    rw [KM.pr]
    exact this.mono (by rw [List.length_cons, Nat.succ_mul]; omega)
end L2
namespace L2
open PySem PySem.Spec PyProof.Rows
theorem Fun.gq {P : Program} {w : World} {K : Frag} {mg : Str -> Option Value} {base : Heap} {k : Nat} {x : Str} {N ps G : List Str} {sp : Sp} {st : Stmt} {f : Addr} {fd : FuncData} (F : Fun K x x st f fd) (S : DS (zq3 st) N ps G)
    (len : ∀ vs H Q E, sp vs H Q E -> vs.length = ps.length)
    (hbody : ∀ (X : Cx), Sc X N N G -> X.prog = P -> X.w = w -> X.K = K -> X.mg = mg -> X.base = base -> X.calm = true -> X.env.scope = zq3 st -> X.xe = (fun _ _ => False) -> Room k X.A -> X.A.units + 64 < cLine ->
      ∀ (H : Hp) (vs : List V) (Q : VK) (E : XK), sp vs H Q E -> ∃ t, QSs X (zq8 st) t /\ t { nx := fun _ H' => Q .non H', rt := Q } (L2.start N vs) H) : FnOk P w K mg base CX0 (k + 1) f fd ps sp :=
  F.ok S.fs len fun cdv A outer s H vs Q E hr h => by
    obtain ⟨t, z, y⟩ := hbody _ S.cx rfl rfl rfl rfl rfl rfl rfl rfl hr hr.units H vs Q E h
    exact ⟨t, z.h, y⟩
end L2
namespace L2
open PySem PySem.Spec PyProof.Rows
theorem cut_take {xs : List V} {k : Nat} (h : k <= xs.length) : cutV xs none (some (k : Int)) = xs.take k := by
  unfold cutV
  rw [HT.sIx_none, HT.sIx_nat, List.drop_zero, Nat.sub_zero, Nat.min_eq_left h]
theorem cut_drop {xs : List V} {k : Nat} (h : k <= xs.length) : cutV xs (some (k : Int)) none = xs.drop k := by
  unfold cutV
  rw [HT.sIx_none, HT.sIx_nat, Nat.min_eq_left h, List.take_of_length_le]
  rw [List.length_drop]; exact Nat.le_refl _
theorem cut_dropM {xs : List V} {k : Nat} : cutV xs (some (k : Int)) none = xs.drop k := by
  by_cases h : k <= xs.length
  · exact cut_drop h
  · unfold cutV
    rw [HT.sIx_none, HT.sIx_nat, Nat.min_eq_right (by omega), List.drop_eq_nil_of_le (Nat.le_refl _), List.drop_eq_nil_of_le (by omega), List.take_nil]
theorem cut_takeM {xs : List V} {k : Nat} : cutV xs none (some (k : Int)) = xs.take k := by
  by_cases h : k <= xs.length
  · exact cut_take h
  · unfold cutV
    rw [HT.sIx_none, HT.sIx_nat, List.drop_zero, Nat.sub_zero, Nat.min_eq_right (by omega), List.take_of_length_le (Nat.le_refl _), List.take_of_length_le (by omega)]
section
variable {K : Frag} {H : Hp} {Q : VK} {a : Addr} {ns : List Int} {i : Int}
theorem to_slTt (k : Nat) (h : SqT K H a (ns.map V.int)) (e : i = (k : Int)) (hk : k < ns.length) (q : ∀ p, H p = none -> Q (.ref p) (upd H p (.tup ((ns.take k).map V.int)))) : rSlT K (.ref a) none (some i) H Q := by
  subst e
  refine ⟨a, _, rfl, h, ?_, fun p hp => ?_⟩
  · rw [List.length_map, HT.sIx_nat]; omega
  · rw [cut_takeM, <- List.map_take]; exact q p hp
theorem to_slTd (k : Nat) (h : SqT K H a (ns.map V.int)) (e : i = ((k + 1 : Nat) : Int)) (hk : k < ns.length) (q : ∀ p, H p = none -> Q (.ref p) (upd H p (.tup ((ns.drop (k + 1)).map V.int)))) : rSlT K (.ref a) (some i) none H Q := by
  subst e
  refine ⟨a, _, rfl, h, ?_, fun p hp => ?_⟩
  · rw [List.length_map, HT.sIx_nat]; omega
  · rw [cut_dropM, <- List.map_drop]; exact q p hp
theorem to_slLd (k : Nat) (h : SqL K H a (ns.map V.int)) (e : i = (k : Int)) (q : ∀ p, H p = none -> Q (.ref p) (upd H p (.lst ((ns.drop k).map V.int)))) : rSlL K (.ref a) (some i) none H Q := by
  subst e
  refine ⟨a, _, rfl, h, fun p hp => ?_⟩
  rw [cut_dropM, <- List.map_drop]; exact q p hp
theorem to_slLt (k : Nat) (h : SqL K H a (ns.map V.int)) (e : i = (k : Int)) (q : ∀ p, H p = none -> Q (.ref p) (upd H p (.lst ((ns.take k).map V.int)))) : rSlL K (.ref a) none (some i) H Q := by
  subst e
  refine ⟨a, _, rfl, h, fun p hp => ?_⟩
  rw [cut_takeM, <- List.map_take]; exact q p hp
theorem to_catL {b : Addr} {ms : List Int} (h : SqL K H a (ns.map V.int)) (h' : SqL K H b (ms.map V.int)) (hz : ns.length + ms.length <= sizeLine) (q : ∀ p, H p = none -> Q (.ref p) (upd H p (.lst ((ns ++ ms).map V.int)))) : rCatL K (.ref a) (.ref b) H Q :=
  ⟨a, b, _, _, rfl, rfl, h, h', by rw [List.length_map, List.length_map]; exact hz, fun p hp => by rw [<- List.map_append]; exact q p hp⟩
theorem to_catT {b : Addr} {ms : List Int} (h : SqT K H a (ns.map V.int)) (h' : SqT K H b (ms.map V.int)) (hz : ns.length + ms.length <= sizeLine) (q : ∀ p H', Same H H' -> SqT K H' p ((ns ++ ms).map V.int) -> Q (.ref p) H') : rCatTT K (.ref a) (.ref b) H Q :=
  ⟨a, b, _, _, rfl, rfl, h, h', by rw [List.length_map, List.length_map]; exact hz, fun p H' hS hp => by rw [<- List.map_append] at hp; exact q p H' hS hp⟩
end
theorem small8 {n : Nat} (h : n <= 100) : n <= sizeLine := Nat.le_trans h (by decide)
theorem atI_of {α : Type} {xs : List α} {i : Int} (h0 : 0 <= i) (h1 : i < xs.length) : ∃ v, atI xs i = some v /\ xs[i.toNat]? = some v := by
  have hk : i.toNat < xs.length := by omega
  have q : atI xs ((i.toNat : Nat) : Int) = some xs[i.toNat] := atI_nat (List.getElem?_eq_getElem hk)
  rw [show ((i.toNat : Nat) : Int) = i by omega] at q
  exact ⟨_, q, List.getElem?_eq_getElem hk⟩
theorem atI_ints {ns : List Int} {i : Int} (h0 : 0 <= i) (h1 : i < ns.length) : ∃ n, n ∈ ns /\ atI (ns.map V.int) i = some (.int n) := by
  obtain ⟨v, e, e'⟩ := atI_of (xs := ns.map V.int) h0 (by rw [List.length_map]; exact h1)
  rw [List.getElem?_map] at e'
  cases q : ns[i.toNat]? with
  | none => rw [q] at e'; cases e'
  | some n =>
    rw [q] at e'
    cases e'
    exact ⟨n, List.mem_of_getElem? q, e⟩
theorem to_ixL {K : Frag} {H : Hp} {Q : VK} {p : Addr} {ns : List Int} {i : Int} (h : SqL K H p (ns.map V.int)) (h0 : 0 <= i) (h1 : i < ns.length) (q : ∀ n ∈ ns, Q (.int n) H) : rIxL K (.ref p) (.int i) H Q := by
  obtain ⟨n, hn, e⟩ := atI_ints h0 h1
  exact ⟨p, _, i, _, rfl, rfl, h, e, q n hn⟩
theorem to_ixT {K : Frag} {H : Hp} {Q : VK} {p : Addr} {xs : List V} {i : Int} {v : V} (h : SqT K H p xs) (e : atI xs i = some v) (q : Q v H) : rIxT K (.ref p) (.int i) H Q := ⟨p, _, i, _, rfl, rfl, h, e, q⟩
end L2
namespace L2
open PySem PySem.Spec PyProof.Rows KM
structure Cn (c : Int) : Prop where
  lo : 1 <= c
  hi : c <= 1000000000000000000000000000000
structure CsOk (cs : List Int) : Prop where
  cn : ∀ c ∈ cs, Cn c
  len : cs.length <= 8
theorem CsOk.pos {cs : List Int} (h : CsOk cs) : ∀ c ∈ cs, 1 <= c := fun c hc => (h.cn c hc).lo
theorem CsOk.take {cs : List Int} (h : CsOk cs) (i : Nat) : CsOk (cs.take i) := ⟨fun c hc => h.cn c (List.mem_of_mem_take hc), by rw [List.length_take]; have := h.len; omega⟩
theorem Cn.bt {c : Int} (h : Cn c) : Bt 100 c := by
  unfold Bt
  have h1 := h.lo
  have h2 := h.hi
  have : (2 : Nat) ^ 100 = 1267650600228229401496703205376 := by decide
  omega
theorem CsOk.prBt {cs : List Int} (h : CsOk cs) : Bt 801 (pr cs) := (Bt.pr fun c hc => (h.cn c hc).bt).mono (by have := h.len; omega)
theorem CsOk.prPos {cs : List Int} (h : CsOk cs) : 1 <= pr cs := pr_pos h.pos
theorem CsOk.get {cs : List Int} (h : CsOk cs) {i : Nat} (hi : i < cs.length) : Cn (cs.getD i 0) := h.cn _ (KM.getD_mem hi)
theorem CsOk.nil : CsOk [] := ⟨(fun _ h => nomatch h), by decide⟩
theorem not_ne {i j : Int} (h : i = j) : (!decide (i = j)) = false := by rw [decide_eq_true h]; rfl
def spLaw (K : Frag) : Sp := fun vs H Q _ => ∃ (a : Addr) (ns : List Int), vs = [.ref a] /\ SqL K H a (ns.map V.int) /\ ns.length <= 63 /\ ∀ H', Q (.bl true) H'
def spProd (K : Frag) : Sp := fun vs H Q _ => ∃ (p : Addr) (cs : List Int), vs = [.ref p] /\ SqT K H p (cs.map V.int) /\ CsOk cs /\ Q (.int (pr cs)) H
def InvPr (H0 : Hp) (p : Addr) (cs : List Int) (i : Nat) (σ : St) (H : Hp) : Prop := H = H0 /\ ∃ y, σ = [some (.ref p), some (.int (pr (cs.take i))), y]
structure HsOk (cs hs : List Int) : Prop where
  len : hs.length = cs.length
  bt : ∀ j, j < cs.length -> Bt 100 (hs.getD j 0)
def spCG (K : Frag) : Sp := fun vs H Q _ => ∃ (p h : Addr) (cs hs : List Int) (i : Nat), vs = [.ref p, .ref h, .int i] /\ SqT K H p (cs.map V.int) /\ SqT K H h (hs.map V.int) /\ CsOk cs /\ HsOk cs hs /\ i < cs.length /\ ∀ H', Same H H' -> Q (.int (cg cs hs i)) H'
theorem fdOk {cs : List Int} (hcs : CsOk cs) {i : Nat} (hi : i < cs.length) : (0 : Int) < cs.getD i 0 /\ (cs.getD i 0).natAbs.log2 < 9000 := by
  have h1 := hcs.get hi
  exact ⟨by have := h1.lo; omega, h1.bt.log (by have := h1.lo; omega) (by decide)⟩
theorem arcBt {cs : List Int} (hcs : CsOk cs) {i : Nat} (hi : i < cs.length) : Bt 801 (pr cs / cs.getD i 0) := by
  have h := arc_le hcs.pos hi
  exact hcs.prBt.of_le (by omega) h.1
theorem nat_ne {j i : Nat} : (!decide ((j : Int) = (i : Int))) = decide (¬ j = i) := by
  by_cases h : j = i
  · subst h; simp
  · have h2 : ¬ (j : Int) = (i : Int) := by omega
    rw [decide_eq_false h2, decide_eq_true h]; rfl
def spAt (K : Frag) : Sp := fun vs H Q _ => ∃ (a : Addr) (ns : List Int) (k : Nat), vs = [.ref a, .int k] /\ SqL K H a (ns.map V.int) /\ ∀ r : Int, Q (.int r) H
def putAt (hs : List Int) (i : Nat) (o : Int) : List Int := hs.take i ++ [o] ++ hs.drop (i + 1)
end L2
namespace KM
theorem getD_snoc_lt {h : List Int} {x : Int} {j : Nat} (hj : j < h.length) : (h ++ [x]).getD j 0 = h.getD j 0 := by
  rw [List.getD_eq_getElem?_getD, List.getElem?_append_left hj, <- List.getD_eq_getElem?_getD]
theorem getD_snoc_eq {h : List Int} {x : Int} : (h ++ [x]).getD h.length 0 = x := by
  rw [List.getD_eq_getElem?_getD, List.getElem?_append_right (Nat.le_refl _), Nat.sub_self]; rfl
def HN (cs h : List Int) (n : Nat) : Prop := h.length = n /\ ∀ i, i < n -> 0 <= h.getD i 0 /\ h.getD i 0 < cs.getD i 0
end KM
namespace L2
open PySem PySem.Spec PyProof.Rows KM
theorem SqT.updL {K : Frag} {H : Hp} {r acc : Addr} {xs ys : List V} {o : HO} (h : SqT K H r xs) (ha : H acc = some (.lst ys)) : SqT K (upd H acc o) r xs := by
  rcases h with (h | ⟨u, h⟩) | h
  · exact .inl (.inl (by rw [zj4 (ne_of h ha (by intro z; cases z))]; exact h))
  · exact .inl (.inr ⟨u, by rw [zj4 (ne_of h ha (by intro z; cases z))]; exact h⟩)
  · exact .inr h
section
variable {K : Frag} {H H' : Hp}
end
theorem ixN_nat {n k : Nat} (h : k < n) : ixN n (k : Int) = some k := by
  unfold ixN
  rw [if_pos (by omega), if_pos (by omega), Int.toNat_natCast]
theorem set_mapI {xs : List Int} {k : Nat} {v : Int} : (xs.map V.int).set k (.int v) = (xs.set k v).map V.int := by rw [List.map_set]
theorem eqv_ints (ns ms : List Int) : PyData.eqv (.list (ns.map PyData.int)) (.list (ms.map PyData.int)) = decide (ns = ms) := by
  simp only [PyData.eqv, eqvAll_ints]
theorem getD_memN {L : List Nat} {k : Nat} (h : k < L.length) : L.getD k 0 ∈ L := by
  rw [List.getD_eq_getElem?_getD, List.getElem?_eq_getElem h]; exact List.getElem_mem h
end L2
namespace KM
def see (ws : List Nat) (i j : Nat) : Bool := (ws.getD i 0).testBit j
structure WebOk (ws : List Nat) : Prop where
  lt : ∀ i, i < ws.length -> ws.getD i 0 < 2 ^ ws.length
  self : ∀ i, i < ws.length -> see ws i i = false
theorem WebOk.inside {ws : List Nat} (h : WebOk ws) {i j : Nat} (hi : i < ws.length) (s : see ws i j = true) : j < ws.length := by
  by_cases c : j < ws.length
  · exact c
  · unfold see at s
    have := Nat.testBit_lt_two_pow (x := ws.getD i 0) (i := j) (Nat.lt_of_lt_of_le (h.lt i hi) (Nat.pow_le_pow_right (by decide) (by omega)))
    rw [this] at s; cases s
theorem testBit_put {m i j : Nat} : (m ||| 2 ^ i).testBit j = (m.testBit j || decide (i = j)) := by
  rw [Nat.testBit_or, Nat.testBit_two_pow]
theorem nodup_le : ∀ {n : Nat} {order : List Nat}, order.Nodup -> (∀ i ∈ order, i < n) -> order.length <= n
  | 0, [], _, _ => Nat.le_refl _
  | 0, a :: r, _, h => absurd (h a (List.mem_cons_self ..)) (Nat.not_lt_zero a)
  | n + 1, order, hd, h => by
    have h1 : (order.erase n).Nodup := hd.erase n
    have h2 := nodup_le (n := n) h1 fun i hi => by
      have := (hd.mem_erase_iff).mp hi
      have := h i this.2
      omega
    have h3 := List.length_erase (a := n) (l := order)
    split at h3 <;> omega
end KM
namespace L2
open PySem PySem.Spec PyProof.Rows KM
theorem bAnd (m n : Nat) : Builtin.bitAnd (m : Int) (n : Int) = ((m &&& n : Nat) : Int) := by
  have h1 : decide (0 <= (m : Int)) = true := decide_eq_true (by omega)
  have h2 : decide (0 <= (n : Int)) = true := decide_eq_true (by omega)
  unfold Builtin.bitAnd
  rw [h1, h2]
  simp only [Int.toNat_natCast]
theorem bNotNot (m n : Nat) : Builtin.bitAnd (Builtin.bitNot (m : Int)) (Builtin.bitNot (n : Int)) = Builtin.bitNot ((m ||| n : Nat) : Int) := by
  have h1 : decide (0 <= Builtin.bitNot (m : Int)) = false := decide_eq_false (by unfold Builtin.bitNot; omega)
  have h2 : decide (0 <= Builtin.bitNot (n : Int)) = false := decide_eq_false (by unfold Builtin.bitNot; omega)
  have e : ∀ k : Nat, (Builtin.bitNot (Builtin.bitNot (k : Int))).toNat = k := fun k => by unfold Builtin.bitNot; omega
  unfold Builtin.bitAnd
  rw [h1, h2]
  simp only [e]
theorem bOr (m n : Nat) : Builtin.bitOr (m : Int) (n : Int) = ((m ||| n : Nat) : Int) := by
  unfold Builtin.bitOr
  rw [bNotNot]
  unfold Builtin.bitNot
  omega
theorem xor_and_or : ∀ m n : Nat, (m ^^^ n) + (m &&& n) = m ||| n := by
  intro m
  induction m using Nat.strongRecOn with
  | _ m ih =>
    intro n
    by_cases h0 : m = 0
    · subst h0; simp
    have ih' := ih (m / 2) (by omega) (n / 2)
    rw [<- Nat.and_div_two, <- Nat.or_div_two, <- Nat.xor_div_two] at ih'
    have a := Nat.and_mod_two_pow (a := m) (b := n) (n := 1)
    have b := Nat.or_mod_two_pow (a := m) (b := n) (n := 1)
    have c := Nat.xor_mod_two_pow (a := m) (b := n) (n := 1)
    have key : (m % 2 ^ 1 ^^^ n % 2 ^ 1) + (m % 2 ^ 1 &&& n % 2 ^ 1) = (m % 2 ^ 1 ||| n % 2 ^ 1) := by
      have hm : m % 2 ^ 1 = 0 ∨ m % 2 ^ 1 = 1 := by omega
      have hn : n % 2 ^ 1 = 0 ∨ n % 2 ^ 1 = 1 := by omega
      rcases hm with hm | hm <;> rcases hn with hn | hn <;> rw [hm, hn] <;> decide
    rw [<- a, <- b, <- c] at key
    omega
theorem bXor (m n : Nat) : Builtin.bitXor (m : Int) (n : Int) = ((m ^^^ n : Nat) : Int) := by
  unfold Builtin.bitXor
  rw [bOr, bAnd]
  have h := xor_and_or m n
  omega
section
variable {X : Cx}
def rListRange : List V -> Hp -> VK -> Prop := fun xs H Q => ∃ (p : Addr) (n : Nat), xs = [.ref p] /\ H p = some (.rng 0 n) /\ n <= 1000000 /\ ∀ l, H l = none -> Q (.ref l) (upd H l (.lst (((List.range n).map fun i => ((i : Nat) : Int)).map V.int)))
def rRange1 : List V -> Hp -> VK -> Prop := fun xs H Q => ∃ n : Nat, xs = [.int n] /\ n <= 1000000 /\ ∀ l, H l = none -> Q (.ref l) (upd H l (.rng 0 n))
theorem call_range1K : CallR X (.type "range") rRange1 := by
  intro pins s σ H xs us Q I r h
  obtain ⟨n, rfl, hn, q⟩ := h
  obtain ⟨u, rfl, ru⟩ := vals1 r
  obtain ⟨t, rfl⟩ := ru
  refine call_range_1 ?_
  exact ⟨.ref _, _, I.laid (fun b o e => Heap.get?_push_of_some _ e) (Nat.le_refl _) (show ObjOk X.prog X.w _ _ _ (.rng 0 n) from ⟨_, _, _, Heap.get?_push_size _ rfl⟩), rfl, q _ I.fresh⟩
theorem vals_items {n : Nat} {acc : Array Value} (h : ItemsOf (fun i v => ∃ t, v = Value.int ((0 : Int) + i * 1) t) acc n) : Vals (((List.range n).map fun i => ((i : Nat) : Int)).map V.int) acc.toList := by
  obtain ⟨h1, h2⟩ := h
  have key : ∀ (l : List Value) (k : Nat), (∀ i v, l[i]? = some v -> ∃ t, v = Value.int (((k + i : Nat) : Int)) t) -> Vals ((List.range' k l.length).map fun i => V.int ((i : Nat) : Int)) l := by
    intro l
    induction l with
    | nil => intro k _; exact .nil
    | cons a r ih =>
      intro k h
      rw [List.length_cons, List.range'_succ, List.map_cons]
      refine .cons ?_ (ih (k + 1) fun i v e => ?_)
      · obtain ⟨t, e⟩ := h 0 a rfl
        exact ⟨t, by rw [e, Nat.add_zero]⟩
      · obtain ⟨t, e⟩ := h (i + 1) v (by simpa using e)
        exact ⟨t, by rw [e, show k + (i + 1) = k + 1 + i by omega]⟩
  have z := key acc.toList 0 fun i v e => by
    obtain ⟨t, q⟩ := h2 i v (by rw [<- Array.getElem?_toList]; exact e)
    exact ⟨t, by rw [q]; congr 1; omega⟩
  rw [List.map_map]
  rw [Array.length_toList, h1] at z
  rw [List.range_eq_range']
  exact z
theorem call_list_rangeK (hc : X.calm = true) : CallR X (.type "list") rListRange := by
  intro pins s σ H xs us Q I r h
  obtain ⟨p, n, rfl, hp, hn, q⟩ := h
  obtain ⟨u, rfl, ru⟩ := vals1 r
  cases ru
  obtain ⟨t1, t2, t3, e0⟩ := I.hok p _ hp
  refine PySem.call_list_range (n := n) (I.ok.hd hc) e0 (small_one (by omega) (by omega) (by omega) (by omega)) (by rw [rangeSize_one]; split <;> omega) (by omega) fun h' tk acc' c' kp e hacc => ?_
  refine ⟨.ref _, _, I.laid kp (Nat.le_refl _) (show ObjOk X.prog X.w _ h' _ (.lst _) from ⟨?_, acc'.toList, c', vals_items hacc, by simpa using e⟩), rfl, q _ I.fresh⟩
  rw [List.length_map, List.length_map, List.length_range]
  exact Nat.le_trans hn (by decide)
theorem collectT {prog : Program} {w : World} {A : Around} {E : Value -> Shared -> Prop} {s : Shared} {p : Addr} {vs : List Value} {Q : List Value -> Shared -> Prop} (hp : IsTup s.heap p vs.toArray) (hz : vs.length <= sizeLine)
    (h : Q vs { s with heap := (s.heap.push (seqObj "list" #[] 0)).update s.heap.objs.size (Obj.mapSeq (· ++ vs.toArray)) }) : wpAny (model prog w) A (collect (.ref p)) Q E s := by
  obtain ⟨o, e0, ec, n, ed⟩ := id hp
  unfold collect
  refine wpAny_bind (wpAny_runValue (codeAny_builtin entry_proto_collect' ?_))
  refine wpAny_bind (m := newList []) (wpAny_newList (wpAny_pure ⟨Code.quiet_builtin _ (by decide +kernel), codeAny_builtin entry_list_iadd' ?_⟩))
  show wpAny (model prog w) _ (Builtin.List.listExtendWith (.ref s.heap.objs.size) (.ref p) (.ref s.heap.objs.size)) _ _ { s with heap := s.heap.push (seqObj "list" #[] 0) }
  unfold Builtin.List.listExtendWith
  have e1 := Heap.get?_push_of_some (seqObj "list" #[] 0) e0
  refine wpAny_bind (wpAny_typeOf (T := "tuple") ⟨o, e1, ec⟩ ?_)
  rw [if_pos (by simp)]
  refine wpAny_bind (listItems_at e1 ed (wpAny_bind (listItems_at (xs := #[]) (n := 0) (Heap.get?_push_size _ rfl) rfl ?_)))
  rw [if_neg (by simp)]
  refine wpAny_bind (listUpdate_at (xs := #[]) (n := 0) (Heap.get?_push_size _ rfl) rfl (wpAny_pure ?_) (Nat.zero_le _) (by simp; omega))
  refine wpAny_bind (wpAny_load (get?_update_seq (Heap.get?_push_size _ rfl) _) ?_)
  refine (show ∀ ys : List Value, ys = vs -> wpAny (model prog w) A (pure ys) Q E _ from fun ys ey => by subst ey; exact wpAny_pure h) _ (by simp)
theorem sorted_tup {prog : Program} {w : World} {A : Around} {E : Value -> Shared -> Prop} {s : Shared} {p : Addr} {vs : List Value} {ns : List Int} {Q : Value -> Shared -> Prop} (hp : IsTup s.heap p vs.toArray) (hI : IntsAre vs ns) (h6 : vs.length < 64)
    (h : ∀ (out : Array Value) (ms : List Int), IntsAre out.toList ms -> ms.Perm ns -> ms.Pairwise (· <= ·) -> Q (.ref (s.heap.objs.size + 1)) { s with heap := sortedAll s.heap vs out }) :
    wpAny (model prog w) A (call (.builtin "sorted") [.ref p]) Q E s := by
  have hz1 : ((s.heap.push (seqObj "list" #[] 0)).update s.heap.objs.size (Obj.mapSeq (· ++ vs.toArray))).objs.size = s.heap.objs.size + 1 := by rw [Heap.size_update, size_push']
  refine Calls.call_function_entry (kind_sorted) plain_sorted entry_sorted (args_sorted1 _) ?_
  unfold Builtin.«sorted»
  refine wpAny_bind (m := checkCount "sorted" 1 1 _) (wpAny_pure (wpAny_bind (collectT hp (Nat.le_trans (Nat.le_of_lt h6) (by decide)) (wpAny_bind (wpAny_newList ?_)))))
  have e1 := Heap.get?_push_size ((s.heap.push (seqObj "list" #[] 0)).update s.heap.objs.size (Obj.mapSeq (· ++ vs.toArray))) (o := seqObj "list" vs.toArray 0) rfl
  rw [hz1] at e1
  dsimp only
  rw [hz1]
  exact wpAny_bind (wpAny_holding (wpAny_call_entry slot_list_sort ⟨_, e1, rfl⟩ entry_list_sort (list_sort_tree e1 hI h6 fun out ms b1 b2 b3 => ⟨_, rfl, wpAny_pure ⟨_, rfl, h out ms b1 b2 b3⟩⟩) (args_list_sort _)))
def rSorted (K : Frag) : List V -> Hp -> VK -> Prop := fun xs H Q => ∃ (p : Addr) (ns : List Int), xs = [.ref p] /\ (SqL K H p (ns.map V.int) ∨ SqT K H p (ns.map V.int)) /\ ns.length < 64 /\ ∀ (l : Addr) (ms : List Int), H l = none -> ms.Perm ns -> ms.Pairwise (· <= ·) -> Q (.ref l) (upd H l (.lst (ms.map V.int)))
theorem call_sortedK {K : Frag} (hK : X.K = K) : CallR X (.builtin "sorted") (rSorted K) := by
  subst hK
  intro pins s σ H xs us Q I r h
  obtain ⟨p, ns, rfl, hq, h6, q⟩ := h
  obtain ⟨u, rfl, rx⟩ := vals1 r
  cases rx
  have fin : ∀ (its : List Value), IntsAre its ns -> ∀ (out : Array Value) (ms : List Int), IntsAre out.toList ms -> ms.Perm ns -> ms.Pairwise (· <= ·) -> EP X pins σ Q (.ref (s.heap.objs.size + 1)) { s with heap := sortedAll s.heap its out } := by
    intro its hi out ms b1 b2 b3
    obtain ⟨e, he⟩ := sortedAll_at s.heap its out
    have hlen := b2.length_eq
    refine ⟨.ref _, _, I.laid (t' := s.toks) (fun b o z => sortedAll_old z) (Nat.le_succ _) (show ObjOk X.prog X.w _ _ _ (.lst (ms.map V.int)) from ⟨?_, out.toList, e, vals_ints b1, he⟩), rfl, q _ ms (I.hok.fresh (Nat.le_succ _)) b2 b3⟩
    rw [List.length_map, hlen]
    exact small8 (by omega)
  rcases hq with hq | hq
  · obtain ⟨its, r', pl, hz⟩ := I.list hq
    have hi := intsAre_of r'
    exact sorted_ints pl.isList hi (by rw [hi.length]; exact h6) (fin its hi)
  · obtain ⟨its, r', pl, hz⟩ := I.tuple hq
    have hi := intsAre_of r'
    exact sorted_tup pl hi (by rw [hi.length]; exact h6) (fin its hi)
end
end L2
namespace L2
open PySem PySem.Spec PyProof.Rows KM
abbrev set0 (led : Bool) : Obj := { cls := .type "set", dict := none, data := .set #[] 0 (.fresh 0 0 led) }
def setF (ns : List Int) (n : Nat) : List Int := firstMet (fun i => ns.getD i 0) n
section
variable {prog : Program} {w : World} {A : Around} {E : Value -> Shared -> Prop} {s : Shared}
theorem call_set_tup {p : Addr} {vs : Array Value} {ns : List Int} {Q : Value -> Shared -> Prop} (hA : A.handled = none) (hp : s.heap.IsTuple p vs) (hi : IntsAre vs.toList ns) (hb : vs.size + 1 < scanBound)
    (h : ∀ (h1 : Heap) (k : Nat), h1.SetOf (intKind prog w) s.heap.objs.size (fun j => (setF ns vs.size).any (· == j)) (setF ns vs.size).length -> (∀ b o, b < s.heap.objs.size -> s.heap.get? b = some o -> h1.get? b = some o) -> Q (.ref s.heap.objs.size) { s with heap := h1, toks := k }) :
    wpAny (model prog w) A (call (.type "set") [.ref p]) Q E s := by
  obtain ⟨c0, t0, m0⟩ := F.called_set.mro
  have m1 := F.called_set.made
  have m2 := F.called_set.sub
  have m3 := F.called_set.notType
  have m4 := F.called_set.canCreate
  have m5 := F.typeCall_set_1 (.ref p)
  refine wpAny_call (codeAny_of_tree (show wpAny _ _ (callAny (.type "set") _) _ _ _ from wpAny_pure ⟨Code.quiet_builtin _ (by decide +kernel), codeAny_builtin F.entry_type_call ?_⟩))
  rw [Around.under_plain (weight_type_call_type "set" [.ref p] []) rfl]
  repeat (any_goals (first | assumption | wp_step))
  refine codeAny_mono (code_set_new_1 (.ref p) (E := E) (Q₁ := fun o s1 => ∃ led : Bool, o = .ref s.heap.objs.size /\ s1 = { s with heap := s.heap.push (set0 led) }) fun led => ⟨led, rfl, rfl⟩) fun r s1 hr => ?_
  cases r with
  | error e => exact hr
  | ok fl =>
    cases fl with
    | ret obj =>
      obtain ⟨led, rfl, rfl⟩ := hr
      have k1 : (s.heap.push (set0 led)).get? s.heap.objs.size = some (set0 led) := Heap.get?_push_size _ rfl
      have k2 : Shared.TypeIs { s with heap := s.heap.push (set0 led) } (.ref s.heap.objs.size) "set" := ⟨_, k1, rfl⟩
      have k3 := F.called_set.init.lookup
      have k4 := F.called_set.init.bind (.ref s.heap.objs.size)
      repeat (any_goals (first | assumption | wp_step))
      refine codeAny_mono (codeAny_call_builtin (R := wants (fun r s2 => r = .none /\ ∃ h1 k, s2 = { s with heap := h1, toks := k } /\ h1.SetOf (intKind prog w) s.heap.objs.size (fun j => (setF ns vs.size).any (· == j)) (setF ns vs.size).length /\
          (∀ b o, b < s.heap.objs.size -> s.heap.get? b = some o -> h1.get? b = some o)) E) F.called_set.init.plain F.entry_set_init (check_set_init_1 k2 ?_)) fun r2 s2 h2 => ?_
      · obtain ⟨ot, e0, ec, nt, ed⟩ := hp
        obtain ⟨u1, u2, u3, u4⟩ := ot
        simp only at ec ed
        subst ec; subst ed
        have e1 := Heap.get?_push_of_some (set0 led) e0
        have z1 := F.sub_tuple_set
        have z2 := F.sub_tuple_frozenset
        have z3 : (Value.type "tuple" == Value.type "dict") = false := by decide
        have l1 : (s.heap.push (set0 led)).IsTuple p vs := ⟨_, e1, rfl, nt, rfl⟩
        unfold Builtin.«set.__init__» noKeywords Builtin.Frozenset.updateFrom
        generalize hPI : pyIter = PI
        wp_walk
        subst hPI
        refine wpAny_pyIter_tuple l1 (wpAny_bind (wpAny_runValue ?_))
        have pS : p < s.heap.objs.size := Heap.lt_size e0
        have a3 : A.in1.in1.in1.handled = none := by simp [hA]
        have zs : (s.heap.push (set0 led)).objs.size = s.heap.objs.size + 1 := Heap.size_push ..
        have n1 : p ≠ (s.heap.push (set0 led)).objs.size := by rw [zs]; exact Nat.ne_of_lt (Nat.lt_succ_of_lt pS)
        have n2 : s.heap.objs.size ∉ [(s.heap.push (set0 led)).objs.size, p] := by
          rw [zs]
          simp only [List.mem_cons, List.not_mem_nil, or_false, not_or]
          exact ⟨Nat.ne_of_lt (Nat.lt_succ_self _), Nat.ne_of_gt pS⟩
        have vl : ∀ (i : Nat) (v : Value), vs[i]? = some v -> ∃ t, v = .int ((fun i => ns.getD i 0) i) t := fun i v hv => IntsAre.int_at hi i v (by rw [Array.getElem?_toList]; exact hv)
        refine codeAny_set_update_loopS ((Walks.tuple a3 _ p n1 vs).toS) s.heap.objs.size n2 (fun i => ns.getD i 0) vl hb (vs.size - 0) 0 _ (by omega) (Nat.zero_le _) ⟨⟨_, Heap.get?_push_size _ rfl, rfl, rfl⟩, (l1.push _)⟩ ?x ?y
        case x =>
          exact SetOf_congr ((setObjOf_fresh (knd := intKind prog w) led).setOf (Heap.get?_push_of_some _ k1) (by unfold scanBound; omega)) (fun _ => rfl) rfl
        case y =>
          intro s' hm hS'
          obtain ⟨h1, g', d', tk', os'⟩ := s'
          obtain rfl : g' = s.gens := hm.gens
          obtain rfl : d' = s.drawn := hm.drawn
          obtain rfl : os' = s.os := hm.os
          show wpAny _ _ _ _ _ _
          refine wpAny_pure (show wpAny _ _ (ret Value.none) _ _ _ from wpAny_pure ⟨rfl, h1, tk', rfl, hS', fun b o hb e => ?_⟩)
          refine hm.heap b o ?_ (Heap.get?_push_of_some _ (Heap.get?_push_of_some _ e))
          rw [zs]
          simp only [List.mem_cons, List.not_mem_nil, or_false, not_or]
          exact ⟨Nat.ne_of_lt hb, Nat.ne_of_lt (Nat.lt_succ_of_lt hb)⟩
      · cases r2 with
        | error e => exact h2
        | ok f2 =>
          cases f2 with
          | ret r =>
            obtain ⟨rfl, h1, k, rfl, hS', hk'⟩ := h2
            repeat (any_goals (first | assumption | wp_step))
            exact h _ _ hS' hk'
          | _ => exact h2.elim
    | _ => exact hr.elim
end
end L2
namespace L2
open PySem PySem.Spec PyProof.Rows KM
section
variable {X : Cx}
def unlike (ns : List Int) : Nat := (setF ns ns.length).length
def rSetOf (K : Frag) : List V -> Hp -> VK -> Prop := fun xs H Q => ∃ (p : Addr) (ns : List Int), xs = [.ref p] /\ (SqL K H p (ns.map V.int) ∨ SqT K H p (ns.map V.int)) /\ ns.length < 1000 /\ ∀ l, H l = none -> Q (.ref l) (upd H l (.set (fun j => (setF ns ns.length).any (· == j)) (unlike ns)))
theorem call_setK {K : Frag} (hc : X.calm = true) (hK : X.K = K) : CallR X (.type "set") (rSetOf K) := by
  subst hK
  intro pins s σ H xs us Q I r h
  obtain ⟨p, ns, rfl, hq, h6, q⟩ := h
  obtain ⟨u, rfl, rx⟩ := vals1 r
  cases rx
  have hbig : (1001 : Nat) < scanBound := by decide
  have fin : ∀ (h1 : Heap) (k : Nat), h1.SetOf (intKind X.prog X.w) s.heap.objs.size (fun j => (setF ns ns.length).any (· == j)) (setF ns ns.length).length -> (∀ b o, b < s.heap.objs.size -> s.heap.get? b = some o -> h1.get? b = some o) -> EP X pins σ Q (.ref s.heap.objs.size) { s with heap := h1, toks := k } := fun h1 k hS kp =>
    ⟨.ref _, _, I.laid (fun b o e => kp b o (Heap.lt_size e) e) (Nat.le_refl _) (show ObjOk X.prog X.w _ h1 _ (.set _ _) from hS), rfl, q _ I.fresh⟩
  rcases hq with hq | hq
  · obtain ⟨its, r', pl, hz⟩ := I.list hq
    have hi := intsAre_of r'
    have hl := hi.length
    refine call_set_list (items := its.toArray) (ns := ns) (I.ok.hd hc) pl.isList (by simpa using hi) (by rw [List.size_toArray]; omega) fun h1 k hS kp => ?_
    rw [show its.toArray.size = ns.length by rw [List.size_toArray]; exact hl] at hS
    exact fin h1 k hS kp
  · obtain ⟨its, r', pl, hz⟩ := I.tuple hq
    have hi := intsAre_of r'
    have hl := hi.length
    refine call_set_tup (vs := its.toArray) (ns := ns) (I.ok.hd hc) (show s.heap.IsTuple p its.toArray from pl) (by simpa using hi) (by rw [List.size_toArray]; omega) fun h1 k hS kp => ?_
    rw [show its.toArray.size = ns.length by rw [List.size_toArray]; exact hl] at hS
    exact fin h1 k hS kp
end
end L2
namespace L2
open PySem PySem.Spec PyProof.Rows KM
theorem Inv.turnedL {X : Cx} {pins : List (Addr × Obj)} {σ : St} {H : Hp} {s : Shared} {h' : Heap} {t' : Nat} {ch : List Addr} (I : Inv X pins σ H s) (k : ∀ b o, b ∉ ch -> s.heap.get? b = some o -> h'.get? b = some o) (hf : ∀ b ∈ ch, FpOk X pins H b) : Inv X pins σ H { s with heap := h', toks := t' } := by
  have nit : ∀ b u, H b = some u -> b ∉ ch := fun b u e z => by rw [(hf b z).1] at e; cases e
  refine I.step (g' := s.gens) (d' := s.drawn) (ch := ch) (fun b hb => ⟨(hf b hb).2.2.2.1, (hf b hb).2.1, (hf b hb).2.2.2.2.1, (hf b hb).2.2.2.2.2⟩) (fun b o _ _ hc e _ => k b o hc e) (fun b o _ _ hc e _ => ⟨o.slots, k b o hc e⟩) (fun _ _ _ _ n => n)
    (fun b o hc e => ⟨o, k b o hc e⟩) (fun _ _ e => e) (fun _ _ _ e => e) (fun b ps e => ⟨#[], by rw [e]; simp⟩) (fun m hm => ?_) (fun b u e => ?_) I.bare
  · obtain ⟨o, es, ep, ho, r⟩ := hm
    exact ⟨o, es, ep, k _ o (fun z => (hf _ z).2.1 rfl) ho, r⟩
  · refine (I.hok b u e).stay (fun c v hc q => k c v ?_ q) (fun _ q => q) fun _ _ q => q
    rcases hc with z | z
    · rw [z]; exact nit b u e
    · exact nit c _ z
section
variable {prog : Program} {w : World} {A : Around} {E : Value -> Shared -> Prop} {s : Shared}
theorem next_tup {it p : Addr} {i : Nat} {vs : Array Value} {x : Value} {Q : Value -> Shared -> Prop} (h1 : s.heap.IsTupleIter it p i) (h2 : s.heap.IsTuple p vs) (hx : vs[i]? = some x)
    (q : ∀ h', h'.IsTupleIter it p (i + 1) -> Heap.SameBut it s.heap h' -> Q x { s with heap := h' }) : wpAny (model prog w) A (Builtin.SmallTypes.nextOf (.ref it)) Q E s := by
  obtain ⟨o, e0, ec, ed⟩ := id h1
  obtain ⟨ot, e1, _, nt, ed1⟩ := h2
  unfold Builtin.SmallTypes.nextOf
  refine wpAny_bind (wpAny_callSpecial?_slot (name := Str.ofString "__next__") h1.typeIs F.slot_tuple_iterator_next (wpAny_call_entry F.slot_tuple_iterator_next h1.typeIs F.entry_tuple_iterator_next ?_ (F.args_tuple_iterator_next_1 _)))
  refine wpAny_bind (m := field (.ref it) 0) (wpAny_field e0 ed (x := .ref p) rfl ?_)
  rw [if_neg (id Bool.false_ne_true : ¬ ((Value.ref p == Value.none) = true))]
  refine wpAny_bind (m := field (.ref it) 1) (wpAny_field e0 ed (x := .int i 0) rfl (wpAny_bind (m := seqItems? (.ref p)) (wpAny_seqItems e1 ed1 ?_)))
  simp only [Int.toNat_natCast, hx]
  refine wpAny_bind (wpAny_setField e0 ed (by simp) (wpAny_pure ⟨x, rfl, wpAny_pure (q _ ⟨_, Heap.get?_update_self _ e0 (Obj.isFreed_of_fields (Obj.data_mapFields ed _)), (Obj.cls_mapFields ..).trans ec, ?_⟩ (Heap.SameBut.update ..))⟩))
  rw [Obj.data_mapFields ed]
  simp [rawInt]
theorem next_tup_end {it p : Addr} {i : Nat} {vs : Array Value} {Q : Value -> Shared -> Prop} (hA : A.handled = none) (h1 : s.heap.IsTupleIter it p i) (h2 : s.heap.IsTuple p vs) (hx : vs[i]? = none)
    (q : ∀ h' e, Heap.ExtBut it s.heap h' -> (∃ o, h'.get? e = some o /\ o.cls = .type "StopIteration") -> E (.ref e) { s with heap := h' }) : wpAny (model prog w) A (Builtin.SmallTypes.nextOf (.ref it)) Q E s := by
  obtain ⟨o, e0, ec, ed⟩ := id h1
  obtain ⟨ot, e1, _, nt, ed1⟩ := h2
  unfold Builtin.SmallTypes.nextOf
  refine wpAny_bind (wpAny_callSpecial?_slot (name := Str.ofString "__next__") h1.typeIs F.slot_tuple_iterator_next (wpAny_call_entry F.slot_tuple_iterator_next h1.typeIs F.entry_tuple_iterator_next ?_ (F.args_tuple_iterator_next_1 _)))
  refine wpAny_bind (m := field (.ref it) 0) (wpAny_field e0 ed (x := .ref p) rfl ?_)
  rw [if_neg (id Bool.false_ne_true : ¬ ((Value.ref p == Value.none) = true))]
  refine wpAny_bind (m := field (.ref it) 1) (wpAny_field e0 ed (x := .int i 0) rfl (wpAny_bind (m := seqItems? (.ref p)) (wpAny_seqItems e1 ed1 ?_)))
  simp only [Int.toNat_natCast, hx]
  refine wpAny_bind (wpAny_rule (wpAny_bind (wpAny_setField e0 ed (by simp) (wpAny_bind (m := newExc (.type "StopIteration") []) ?_))))
  simp only [newExc, newTuple]
  refine wpAny_bind (wpAny_newObj_type (wpAny_bind (m := firstArgMember _ _) (wpAny_of_eq (a := Value.none) (by first | rfl | (simp only [firstArgMember]; rfl)) (wpAny_newObj_type ?_ (by size_fits)))) (by size_fits))
  simp only [raiseNew]
  refine wpAny_bind (wpAny_handled ?_)
  first | rw [show A.in1.handled = none from hA] | rw [hA]
  exact wpAny_bind (wpAny_pure (wpAny_throw (q _ _ (((Heap.SameBut.update ..).extBut.push _).push _) ⟨_, Heap.get?_push_size _ rfl, rfl⟩)))
theorem drawsT (hA : A.handled = none) (it p : Addr) (hne : p ≠ it) (vs : Array Value) : Draws prog w A it [it, p] vs.size (fun i v => vs[i]? = some v) (fun i h => h.IsTupleIter it p i /\ h.IsTuple p vs) where
  live := fun _ _ st => ⟨_, st.1.choose_spec.1⟩
  frame := fun _ _ _ st hk => ⟨st.1.at fun o e => hk it (by simp) o e, st.2.at fun o e => hk p (by simp) o e⟩
  item := fun i s Q E hi st hQ => next_tup st.1 st.2 (x := vs[i]) (by simp [hi]) fun h' a b => hQ _ h' s.toks (by simp [hi]) ⟨a, st.2.extBut b.extBut hne⟩ b
  done := fun s Q E st hE => next_tup_end hA st.1 st.2 (by simp) hE
theorem enum_newT (p : Addr) (vs : Array Value) (n : Nat) (dct : Option Addr) (sl : Array (Option Value)) :
    Meets (Builtin.«enumerate.__new__» ⟨[.type "enumerate", .ref p], []⟩) (fun _ R s => s.heap.get? p = some { cls := .type "tuple", dict := dct, data := .seq vs n, slots := sl } /\
      R (.ok (.ret (.ref (s.heap.push { cls := .type "tuple_iterator", data := .fields #[.ref p, .int 0 0] }).objs.size)))
        { s with heap := (s.heap.push { cls := .type "tuple_iterator", data := .fields #[.ref p, .int 0 0] }).push { cls := .type "enumerate", data := .fields #[.none, .bool false, .ref s.heap.objs.size, rawInt 0, .none, .none] } }) :=
  .of_wp fun prog w A R s h => by
    obtain ⟨hp, g, d, tk, os⟩ := s
    obtain ⟨e0, h⟩ := h
    have z := sub_enumerate
    have hT : Heap.IsTuple (Shared.heap ⟨hp, g, d, tk, os⟩) p vs := ⟨_, e0, rfl, n, rfl⟩
    wp_walk using PySem.AutoSeq1.wpAny_loadPart' e0
    refine wpAny_stack_any fun st => wpAny_pure ?_
    split
    · rename_i c _ _ _ _ _
      cases (c == Value.type "enumerate") <;> (wp_walk using PySem.AutoSeq1.wpAny_loadPart' e0, wpAny_pyIter_tuple hT; exact ⟨_, rfl, h⟩)
    · wp_walk using PySem.AutoSeq1.wpAny_loadPart' e0, wpAny_pyIter_tuple hT
      exact ⟨_, rfl, h⟩
theorem call_enumT {p : Addr} {vs : Array Value} {Q : Value -> Shared -> Prop} (hT : s.heap.IsTuple p vs)
    (q : ∀ h', IsEnum h' (s.heap.objs.size + 1) s.heap.objs.size 0 .none -> h'.IsTupleIter s.heap.objs.size p 0 -> (∀ b o, s.heap.get? b = some o -> h'.get? b = some o) -> Q (.ref (s.heap.objs.size + 1)) { s with heap := h' }) :
    wpAny (model prog w) A (call (.type "enumerate") [.ref p]) Q E s := by
  obtain ⟨⟨c, dct, dt, sl⟩, e0, ec, n, ed⟩ := hT
  obtain rfl : c = .type "tuple" := ec
  obtain rfl : dt = .seq vs n := ed
  have hz : (s.heap.push { cls := .type "tuple_iterator", data := .fields #[.ref p, .int 0 0] }).objs.size = s.heap.objs.size + 1 := Heap.size_push ..
  have k1 := Heap.get?_push_size (s.heap.push { cls := .type "tuple_iterator", data := .fields #[.ref p, .int 0 0] }) (o := { cls := .type "enumerate", data := .fields #[.none, .bool false, .ref s.heap.objs.size, rawInt 0, .none, .none] }) rfl
  refine callType_new F.called_enumerate (by decide) (F.typeCall_enumerate_1 _) (F.newCall_enumerate_1 _) (fun obj => F.args_object_init_2 obj _) F.entry_enumerate_new (enum_newT p vs n dct sl) ⟨e0, ?_⟩
  rw [hz] at k1
  show _ /\ _
  rw [hz]
  exact ⟨⟨_, k1, rfl⟩, q _ k1 ⟨_, Heap.get?_push_of_some _ (Heap.get?_push_size _ rfl), rfl, rfl⟩ fun b o x => Heap.get?_push_of_some _ (Heap.get?_push_of_some _ x)⟩
end
end L2
namespace L2
open PySem PySem.Spec PyProof.Rows KM
theorem Inv.turnedNew {X : Cx} {pins : List (Addr × Obj)} {σ : St} {H : Hp} {s : Shared} {h' : Heap} {t' : Nat} {ch : List Addr} {a : Addr} {o : HO} (I : Inv X pins σ H s) (k : ∀ b u, b ∉ ch -> s.heap.get? b = some u -> h'.get? b = some u) (hf : ∀ b ∈ ch, FpOk X pins H b)
    (ha : s.heap.objs.size <= a) (new : ObjOk X.prog X.w (upd H a o) h' a o) : Inv X pins σ (upd H a o) { s with heap := h', toks := t' } := by
  have nit : ∀ b u, H b = some u -> b ∉ ch := fun b u e z => by rw [(hf b z).1] at e; cases e
  have hn : H a = none := I.hok.fresh ha
  have old : ∀ b u, H b = some u -> upd H a o b = some u := fun b u e => by rw [zj4 (zj0 e hn)]; exact e
  refine I.step (g' := s.gens) (d' := s.drawn) (ch := ch) (fun b hb => ⟨(hf b hb).2.2.2.1, (hf b hb).2.1, (hf b hb).2.2.2.2.1, (hf b hb).2.2.2.2.2⟩) (fun b u _ _ hc e _ => k b u hc e) (fun b u _ _ hc e _ => ⟨u.slots, k b u hc e⟩) (fun b u _ e n => ?_)
    (fun b u hc e => ⟨u, k b u hc e⟩) (fun b xs e => old b _ e) (fun b v u e => old b _ e) (fun b ps e => ⟨#[], by rw [old b _ e]; simp⟩) (fun m hm => ?_) (fun b u e => ?_) I.bare
  · rw [zj4 (Nat.ne_of_lt (Nat.lt_of_lt_of_le (Heap.lt_size e) ha))]; exact n
  · obtain ⟨v, es, ep, ho, r⟩ := hm
    exact ⟨v, es, ep, k _ v (fun z => (hf _ z).2.1 rfl) ho, r⟩
  · by_cases hb : b = a
    · subst hb
      rw [zq1] at e
      cases e
      exact new
    · rw [zj4 hb] at e
      refine (I.hok b u e).stay (fun c v hc q => k c v ?_ q) (fun c q => old c _ q) fun c xs q => old c _ q
      rcases hc with z | z
      · rw [z]; exact nit b u e
      · exact nit c _ z
def Ite (K : Frag) (a : Addr) : It :=
  ⟨fun i H => ∃ xs x, SqT K H a xs /\ xs[i]? = some x, fun i H x H' => ∃ p v, H p = none /\ x = .ref p /\ H' = upd H p (.tup [.int i, v]) /\ ∀ xs, SqT K H a xs -> xs[i]? = some v, fun i H => ∃ xs, SqT K H a xs /\ xs.length <= i⟩
theorem turn_enum {P : Program} {w : World} {K : Frag} {elts : List Expr} {x1 : Nat} {pos : Pos} (a e it : Addr) (hei : e ≠ it) : Turn P w K (.Tuple elts x1 pos) (Ite K a) [e, it] e (fun i h => (∃ old, IsEnum h e it i old) /\ h.IsTupleIter it a i) where
  mem := by simp
  obj := fun i h st b hb => by
    obtain ⟨⟨old, he⟩, o, eo, c, d⟩ := st
    rcases List.mem_cons.mp hb with rfl | hb
    · exact ⟨_, he, fun v z => by cases z⟩
    · have : b = it := by simpa using hb
      subst this
      exact ⟨o, eo, fun v z => by rw [d] at z; cases z⟩
  keep := fun i h h' st k => by
    obtain ⟨⟨old, he⟩, st⟩ := st
    exact ⟨⟨old, k e (by simp) _ he⟩, st.at fun o q => k it (by simp) o q⟩
  item := by
    intro X hP hw hK hc i pins s σ H E I hf st hg
    subst hP hw hK
    obtain ⟨xs, x, hq, hx⟩ := hg
    obtain ⟨its, rv, p, hz⟩ := I.tuple hq
    obtain ⟨u, hu, ru⟩ := rv.get hx
    obtain ⟨⟨old, he⟩, si⟩ := st
    have hai : a ≠ it := fun z => by
      subst z
      obtain ⟨o1, q1, c1, _⟩ := p
      obtain ⟨o2, q2, c2, _⟩ := si
      rw [q1] at q2; cases q2
      rw [c1] at c2
      exact absurd c2 (by decide)
    have hae : a ≠ e := fun z => by
      subst z
      obtain ⟨o1, q1, c1, _⟩ := p
      have he : s.heap.get? a = some _ := he
      rw [q1] at he; cases he
      exact absurd (show Value.type "enumerate" = Value.type "tuple" from c1) (by decide)
    have hil : i < its.toArray.size := by
      rw [List.size_toArray]
      exact (List.getElem?_eq_some_iff.mp hu).1
    refine wpAny_pyNext_enum_itemD (drawsT (by simpa using I.ok.hd hc) it a hai its.toArray) he ⟨si, show s.heap.IsTuple a its.toArray from p⟩ hil hei (by simp only [List.mem_cons, List.not_mem_nil, or_false, not_or]; exact ⟨hei, Ne.symm hae⟩) fun v h1 tk hv ho st1 ht hsz hk => ?_
    refine ⟨_, rfl, wpAny_letOwnedTupleGo_enum ho fun h2 he2 hs2 => ?_⟩
    have hel : e < s.heap.objs.size := Heap.lt_size he
    have ev : v = u := by
      have hv' : its[i]? = some v := by simpa using hv
      rw [hu] at hv'; cases hv'; rfl
    subst ev
    refine ⟨.ref s.heap.objs.size, upd H s.heap.objs.size (.tup [.int i, x]), I.turnedNew (ch := [e, it]) (fun b o hb q => ?_) hf (Nat.le_refl _) (show ObjOk X.prog X.w _ h2 _ (.tup _) from ⟨by show 2 <= sizeLine; decide, [.int i tk, v], .cons ⟨_, rfl⟩ (.cons ru .nil), ?_⟩), rfl, ⟨_, x, I.fresh, rfl, rfl, fun ys hy => by rw [I.tuple_inj hy hq]; exact hx⟩, ⟨⟨v, ?_⟩, ?_⟩, fun b hb => ?_⟩
    · simp only [List.mem_cons, List.not_mem_nil, or_false, not_or] at hb
      exact (hs2.2 b hb.1).trans (hk b o hb.1 hb.2 q)
    · exact ⟨_, (hs2.2 _ (Nat.ne_of_gt hel)).trans ht, rfl, _, rfl⟩
    · have := he2
      rw [show ((i : Int) + 1) = ((i + 1 : Nat) : Int) by omega] at this
      exact this
    · exact st1.1.at fun o q => (hs2.2 it (Ne.symm hei)).trans q
    · rw [zj4 (fun z => ?_)]
      · exact (hf b hb).1
      · obtain ⟨_, si2, _⟩ := si
        rcases List.mem_cons.mp hb with rfl | hb
        · exact absurd z (Nat.ne_of_lt hel)
        · have : b = it := by simpa using hb
          subst this
          exact absurd z (Nat.ne_of_lt (Heap.lt_size si2))
  done := by
    intro X hP hw hK hc i pins s σ H E I hf st hg
    subst hP hw hK
    obtain ⟨xs, hq, hx⟩ := hg
    obtain ⟨its, rv, p, hz⟩ := I.tuple hq
    obtain ⟨⟨old, he⟩, si⟩ := st
    have hai : a ≠ it := fun z => by
      subst z
      obtain ⟨o1, q1, c1, _⟩ := p
      obtain ⟨o2, q2, c2, _⟩ := si
      rw [q1] at q2; cases q2
      rw [c1] at c2
      exact absurd c2 (by decide)
    have hl := rv.length
    have hT : s.TypeIs (.ref e) "enumerate" := ⟨_, he, rfl⟩
    unfold pyNext
    refine wpAny_bind (wpAny_attempt (wpAny_callSpecial?_slot (name := Str.ofString "__next__") hT F.slot_enumerate_next (wpAny_call_entry F.slot_enumerate_next hT F.entry_enumerate_next ?_ (F.args_enumerate_next_1 _))))
    refine wpAny_bind (m := field (.ref e) 2) (wpAny_field he rfl (x := .ref it) rfl (wpAny_bind (next_tup_end (by simpa using I.ok.hd hc) si (show s.heap.IsTuple a its.toArray from p) (by simp; omega) fun h' x eb hx' => ?_)))
    obtain ⟨o, q, c⟩ := hx'
    refine wpAny_bind (wpAny_isInstance (T := "StopIteration") (b := true) ⟨o, q, c⟩ isSubtype_stop ?_)
    obtain ⟨f0, f1, f2, f3, f4, f5⟩ := hf it (by simp)
    exact wpAny_pure ⟨rfl, I.turned (t' := s.toks) (fun b o hb z => eb b o hb z) f0 f1 f3 f4 f5⟩
  self := fun _ _ _ _ _ st h => by
    obtain ⟨⟨old, he⟩, _⟩ := st
    exact wpAny_pyIter_enum he h
def iEnT (K : Frag) (ta : TA) : TI := fun σ H R => ta σ H fun vs H1 => ∃ a, vs = [.ref a] /\ (∃ xs, SqT K H1 a xs) /\ R (Ite K a) H1
section
variable {X : Cx} {N W G : List Str} {K : Frag} {e : Expr} {t : TA} {p pos tpos : Pos} {elts : List Expr} {x1 : Nat}
theorem pi_enT (S : Sc X N W G) (g : Nat) (hm : X.mg "enumerate" = none) (hK : X.K = K) (ha : PB X [e] t) (hg : G[g]? = some "enumerate" := by rfl) : PI X (.Tuple elts x1 tpos) (.Call (.Name "enumerate" p) [e] [] pos) (iEnT K t) := by
  subst hK
  intro pins s σ H R I h
  have q := S.gl _ (List.mem_of_getElem? hg)
  refine Call_ (ld_blt I q.1 hm boot_enumerate (PyProof.Rows.callWith_type1 (thn (ha.pa pos pins s σ H _ I h) fun us s1 ⟨vs, H1, I1, r1, q1⟩ => ?_) (zj8 ha.he) rfl))
  obtain ⟨a, rfl, ⟨xs, hq⟩, q⟩ := q1
  obtain ⟨u, rfl, rx⟩ := vals1 r1
  cases rx
  obtain ⟨its, rv, pl, hz⟩ := I1.tuple hq
  refine call_enumT (show s1.heap.IsTuple a its.toArray from pl) fun h' k1 k2 k3 => ?_
  have hei : s1.heap.objs.size + 1 ≠ s1.heap.objs.size := Nat.succ_ne_self _
  refine wpAny_pyIter_enum k1 ?_
  refine ⟨s1.heap.objs.size + 1, [s1.heap.objs.size + 1, s1.heap.objs.size], _, _, H1, rfl, I1.kept (t' := s1.toks) k3, turn_enum a _ _ hei, ⟨⟨_, k1⟩, k2⟩, fun b hb => ?_, q⟩
  have hb2 : s1.heap.objs.size <= b := by
    rcases List.mem_cons.mp hb with rfl | hb
    · exact Nat.le_succ _
    · have : b = s1.heap.objs.size := by simpa using hb
      rw [this]; exact Nat.le_refl _
  exact I1.fpOk hb2 (I1.hok.fresh hb2)
theorem ienT (S : Sc X N W G) (g : Nat) (hm : X.mg "enumerate" = none) (hK : X.K = K) (ha : QB X [e] t) (hg : G[g]? = some "enumerate" := by rfl) : QI X (.Tuple elts x1 tpos) (.Call (.Name "enumerate" p) [e] [] pos) (iEnT K t) := ⟨pi_enT S g hm hK ha.h hg⟩
theorem q_iEnT {K : Frag} {ta : TA} {σ : St} {H : Hp} {R : It -> Hp -> Prop} : iEnT K ta σ H R = ta σ H fun vs H1 => ∃ a, vs = [.ref a] /\ (∃ xs, SqT K H1 a xs) /\ R (Ite K a) H1 := rfl
end
end L2
namespace L2
open PySem PySem.Spec PyProof.Rows KM
def rIsN : R2 := fun x y H Q => y = .non /\ Q (.bl (decide (x = .non))) H
def rNotN : R2 := fun x y H Q => y = .non /\ Q (.bl (!decide (x = .non))) H
section
variable {X : Cx} {H : Hp} {Q : VK}
theorem op_isNK : OpR X (compareOp .Is) rIsN := op_isN
theorem op_notNK : OpR X (compareOp .IsNot) rNotN := op_notN
theorem q_isNn : rIsN .non .non H Q = Q (.bl true) H := by unfold rIsN; simp
theorem q_isNi {i : Int} : rIsN (.int i) .non H Q = Q (.bl false) H := by unfold rIsN; simp
theorem q_ntNn : rNotN .non .non H Q = Q (.bl false) H := by unfold rNotN; simp
theorem q_ntNi {i : Int} : rNotN (.int i) .non H Q = Q (.bl true) H := by unfold rNotN; simp
def rLenSet : List V -> Hp -> VK -> Prop := fun xs H Q => ∃ p S n, xs = [.ref p] /\ H p = some (.set S n) /\ Q (.int n) H
theorem call_lenSet : CallR X (.builtin "len") rLenSet := by
  intro pins s σ H xs us Q I r h
  obtain ⟨p, S, n, rfl, hp, q⟩ := h
  obtain ⟨u, rfl, rx⟩ := vals1 r
  cases rx
  obtain ⟨o, es, ep, t, e0, ex, ed, _, _, hb, hf, hn⟩ := I.hok p _ hp
  have hbig : scanBound < 2 ^ 62 := by decide
  refine PySem.call_len_set e0 ex ed hf (by omega) ⟨.int n, H, I.tok _, ⟨_, by rw [hn]⟩, q⟩
end
theorem q_p2 {k : Nat} : (1 : Int) * 2 ^ ((k : Nat) : Int).toNat = ((2 ^ k : Nat) : Int) := by rw [Int.toNat_natCast, Int.one_mul, Int.natCast_pow]; rfl
theorem q_sh {m k : Nat} : ((m : Nat) : Int) / 2 ^ ((k : Nat) : Int).toNat = ((m / 2 ^ k : Nat) : Int) := by rw [Int.toNat_natCast, Int.natCast_ediv, Int.natCast_pow]; rfl
theorem cpow1 {k : Nat} (h : k <= 1000) : CPow 1 (k : Int) := ⟨by omega, by omega, by decide⟩
theorem q_b1 {m k : Nat} : decide (((m / 2 ^ k : Nat) : Int) % 2 = 1) = m.testBit k := by
  rw [Nat.testBit_eq_decide_div_mod_eq]
  congr 1
  apply propext
  omega
def asI (ws : List Nat) : List Int := ws.map fun m => ((m : Nat) : Int)
theorem zq6 (ws : List Nat) : (asI ws).length = ws.length := List.length_map _
theorem zz2 (ws : List Nat) (i : Nat) : (asI ws).getD i 0 = ((ws.getD i 0 : Nat) : Int) := by
  unfold asI
  rw [List.getD_eq_getElem?_getD, List.getElem?_map, List.getD_eq_getElem?_getD]
  cases ws[i]? <;> rfl
theorem asI_append (a b : List Nat) : asI (a ++ b) = asI a ++ asI b := List.map_append
theorem asI_take (a : List Nat) (n : Nat) : (asI a).take n = asI (a.take n) := List.map_take.symm
theorem asI_drop (a : List Nat) (n : Nat) : (asI a).drop n = asI (a.drop n) := List.map_drop.symm
theorem mem_asI {a : List Nat} {k : Nat} : (k : Int) ∈ asI a ↔ k ∈ a := by
  unfold asI
  rw [List.mem_map]
  constructor
  · rintro ⟨m, h, e⟩
    rwa [show k = m by omega]
  · exact fun h => ⟨k, h, rfl⟩
theorem asI_idx {a : List Nat} {k : Nat} : (asI a).idxOf (k : Int) = a.idxOf k := by
  unfold asI
  induction a with
  | nil => rfl
  | cons m r ih =>
    rw [List.map_cons, List.idxOf_cons, List.idxOf_cons, ih]
    by_cases e : m = k
    · have e' : ((m : Int) == (k : Int)) = true := by rw [e]; exact beq_self_eq_true _
      have e2 : (m == k) = true := by rw [e]; exact beq_self_eq_true _
      rw [e', e2]
    · have e' : ((m : Int) == (k : Int)) = false := beq_eq_false_iff_ne.mpr (by omega)
      have e2 : (m == k) = false := beq_eq_false_iff_ne.mpr e
      rw [e', e2]
theorem inV_ints (k : Int) (ns : List Int) : inV (.int k) (ns.map V.int) = decide (k ∈ ns) := by
  induction ns with
  | nil => simp [inV]
  | cons a r ih =>
    unfold inV at ih ⊢
    rw [List.map_cons, List.any_cons, ih]
    by_cases e : a = k
    · subst e; simp [eqV]
    · have : ¬ k = a := fun z => e z.symm
      simp [eqV, e, this]
theorem to_in {K : Frag} {neg : Bool} {H : Hp} {Q : VK} {p : Addr} {k : Nat} {a : List Nat} (h : SqL K H p ((asI a).map V.int) ∨ SqT K H p ((asI a).map V.int)) (q : Q (.bl (if neg then !decide (k ∈ a) else decide (k ∈ a))) H) : rIn K neg (.int k) (.ref p) H Q := by
  refine ⟨p, _, rfl, h, rfl, ?_, ?_⟩
  · rw [List.all_map]; exact List.all_eq_true.mpr fun _ _ => rfl
  · rw [inV_ints, show decide ((k : Int) ∈ asI a) = decide (k ∈ a) by congr 1; exact propext mem_asI]
    exact q
theorem setF_nodup {ns : List Int} : ∀ n, n <= ns.length -> ns.Nodup -> setF ns n = ns.take n
  | 0, _, _ => by unfold setF; rw [firstMet_zero, List.take_zero]
  | n + 1, hn, hd => by
    have ih := setF_nodup n (by omega) hd
    unfold setF at ih ⊢
    rw [firstMet_succ, ih, take_snoc 0 (by omega)]
    unfold step_dedup
    rw [if_neg]
    intro z
    obtain ⟨y, hy, e⟩ := List.any_eq_true.mp z
    have e : y = ns.getD n 0 := by simpa using e
    subst e
    have h1 := hd.sublist (List.take_sublist (n + 1) _)
    rw [take_snoc 0 (by omega), List.nodup_append] at h1
    exact h1.2.2 _ hy _ (List.mem_singleton.mpr rfl) rfl
theorem unlike_eq {ns : List Int} (h : ns.Nodup) : unlike ns = ns.length := by
  unfold unlike
  rw [setF_nodup _ (Nat.le_refl _) h, List.take_length]
theorem setF_mem {ns : List Int} : ∀ n, n <= ns.length -> (setF ns n).Nodup /\ ∀ x, x ∈ setF ns n ↔ x ∈ ns.take n
  | 0, _ => by unfold setF; rw [firstMet_zero, List.take_zero]; exact ⟨List.nodup_nil, fun _ => Iff.rfl⟩
  | n + 1, hn => by
    obtain ⟨i1, i2⟩ := setF_mem (ns := ns) n (by omega)
    unfold setF at i1 i2 ⊢
    rw [firstMet_succ, take_snoc 0 (by omega)]
    unfold step_dedup
    by_cases c : ((firstMet (fun i => ns.getD i 0) n).any fun x => x == ns.getD n 0) = true
    · rw [if_pos c]
      obtain ⟨y, hy, e⟩ := List.any_eq_true.mp c
      have e : y = ns.getD n 0 := by simpa using e
      refine ⟨i1, fun x => ?_⟩
      rw [List.mem_append, List.mem_singleton, i2]
      constructor
      · exact .inl
      · rintro (z | z)
        · exact z
        · rw [z, <- e]; exact (i2 y).mp hy
    · rw [if_neg c]
      refine ⟨?_, fun x => by rw [List.mem_append, List.mem_append, i2]⟩
      rw [List.nodup_append]
      refine ⟨i1, by simp, fun a ha b hb e => c ?_⟩
      rw [List.mem_singleton] at hb
      subst hb; subst e
      exact List.any_eq_true.mpr ⟨_, ha, by simp⟩
def spSees (K : Frag) : Sp := fun vs H Q _ => ∃ (w : Addr) (ws : List Nat) (i j : Nat), vs = [.ref w, .int i, .int j] /\ SqT K H w ((asI ws).map V.int) /\ i < ws.length /\ Q (.bl (see ws i j)) H
end L2
namespace KM
theorem add_or_and : ∀ m n : Nat, m + n = (m ||| n) + (m &&& n) := by
  intro m
  induction m using Nat.strongRecOn with
  | _ m ih =>
    intro n
    by_cases h0 : m = 0
    · subst h0; simp
    have ih' := ih (m / 2) (by omega) (n / 2)
    rw [<- Nat.and_div_two, <- Nat.or_div_two] at ih'
    have a := Nat.and_mod_two_pow (a := m) (b := n) (n := 1)
    have b := Nat.or_mod_two_pow (a := m) (b := n) (n := 1)
    have key : m % 2 ^ 1 + n % 2 ^ 1 = (m % 2 ^ 1 ||| n % 2 ^ 1) + (m % 2 ^ 1 &&& n % 2 ^ 1) := by
      have hm : m % 2 ^ 1 = 0 ∨ m % 2 ^ 1 = 1 := by omega
      have hn : n % 2 ^ 1 = 0 ∨ n % 2 ^ 1 = 1 := by omega
      rcases hm with hm | hm <;> rcases hn with hn | hn <;> rw [hm, hn] <;> decide
    rw [<- a, <- b] at key
    omega
theorem add_pow {a k : Nat} (h : a.testBit k = false) : a + 2 ^ k = a ||| 2 ^ k := by
  have z : a &&& 2 ^ k = 0 := by
    apply Nat.eq_of_testBit_eq
    intro j
    rw [Nat.testBit_and, Nat.testBit_two_pow, Nat.zero_testBit]
    by_cases e : k = j
    · subst e; rw [h]; rfl
    · rw [decide_eq_false e, Bool.and_false]
  have := add_or_and a (2 ^ k)
  omega
theorem and_sub_bit (m n j : Nat) : (m - (m &&& n)).testBit j = (m.testBit j && !n.testBit j) := by
  have h : m ^^^ (m &&& n) = m - (m &&& n) := by
    have e1 : ∀ a b : Nat, (a ^^^ b) + (a &&& b) = a ||| b := by
      intro a
      induction a using Nat.strongRecOn with
      | _ m ih =>
        intro n
        by_cases h0 : m = 0
        · subst h0; simp
        have ih' := ih (m / 2) (by omega) (n / 2)
        rw [<- Nat.and_div_two, <- Nat.or_div_two, <- Nat.xor_div_two] at ih'
        have a := Nat.and_mod_two_pow (a := m) (b := n) (n := 1)
        have b := Nat.or_mod_two_pow (a := m) (b := n) (n := 1)
        have c := Nat.xor_mod_two_pow (a := m) (b := n) (n := 1)
        have key : (m % 2 ^ 1 ^^^ n % 2 ^ 1) + (m % 2 ^ 1 &&& n % 2 ^ 1) = (m % 2 ^ 1 ||| n % 2 ^ 1) := by
          have hm : m % 2 ^ 1 = 0 ∨ m % 2 ^ 1 = 1 := by omega
          have hn : n % 2 ^ 1 = 0 ∨ n % 2 ^ 1 = 1 := by omega
          rcases hm with hm | hm <;> rcases hn with hn | hn <;> rw [hm, hn] <;> decide
        rw [<- a, <- b, <- c] at key
        omega
    have e2 := e1 m (m &&& n)
    have e3 : m &&& (m &&& n) = m &&& n := by rw [<- Nat.and_assoc, Nat.and_self]
    have e4 : m ||| (m &&& n) = m := by
      apply Nat.eq_of_testBit_eq
      intro j
      rw [Nat.testBit_or, Nat.testBit_and]
      cases m.testBit j <;> rfl
    rw [e3, e4] at e2
    omega
  rw [<- h, Nat.testBit_xor, Nat.testBit_and]
  cases m.testBit j <;> cases n.testBit j <;> rfl
theorem sub_zero {m a : Nat} (h : ∀ j, m.testBit j = true -> a.testBit j = true) : m - (m &&& a) = 0 := by
  apply Nat.eq_of_testBit_eq
  intro j
  rw [and_sub_bit, Nat.zero_testBit]
  cases e : m.testBit j with
  | false => rfl
  | true => rw [h j e]; rfl
theorem lt_of_bits {m n : Nat} (h : ∀ j, n <= j -> m.testBit j = false) : m < 2 ^ n := by
  apply Nat.lt_pow_two_of_testBit
  exact fun j hj => h j hj
theorem getD_set {ws : List Nat} {i k : Nat} {v : Nat} : (ws.set i v).getD k 0 = if i = k /\ i < ws.length then v else ws.getD k 0 := by
  rw [List.getD_eq_getElem?_getD, List.getElem?_set, List.getD_eq_getElem?_getD]
  by_cases e : i = k
  · subst e
    by_cases h : i < ws.length
    · simp [h]
    · simp [h, List.getElem?_eq_none (show ws.length <= i by omega)]
  · simp [e]
theorem WebOk.set {ws : List Nat} (h : WebOk ws) {i v : Nat} (hi : i < ws.length) (hv : ∀ j, v.testBit j = true -> j < ws.length /\ j ≠ i) : WebOk (ws.set i v) := by
  refine ⟨fun k hk => ?_, fun k hk => ?_⟩
  · rw [List.length_set] at hk ⊢
    rw [getD_set]
    split
    · exact lt_of_bits fun j hj => by
        cases e : v.testBit j with
        | false => rfl
        | true => exact absurd (hv j e).1 (by omega)
    · exact h.lt k hk
  · rw [List.length_set] at hk
    unfold see
    rw [getD_set]
    split
    · rename_i e
      rw [<- e.1]
      cases e : v.testBit i with
      | false => rfl
      | true => exact absurd rfl (hv i e).2
    · exact h.self k hk
theorem WebOk.bit {ws : List Nat} (h : WebOk ws) {i j : Nat} (hi : i < ws.length) (hs : (ws.getD i 0).testBit j = true) : j < ws.length /\ j ≠ i := by
  refine ⟨h.inside hi hs, fun e => ?_⟩
  subst e
  have := h.self j hi
  unfold see at this
  rw [hs] at this; cases this
end KM
namespace L2
open PySem PySem.Spec PyProof.Rows KM
theorem seqIx {n k : Nat} (h : k < n) : seqIndex? (k : Int) n = some k := (ixN_seq (ixN_nat h)).1
theorem eraseMap {a : List Nat} {k : Nat} : ((asI a).map V.int).eraseIdx k = (asI (a.eraseIdx k)).map V.int := by
  have key : ∀ (f : Nat -> V) (l : List Nat) (k : Nat), (l.map f).eraseIdx k = (l.eraseIdx k).map f := by
    intro f l
    induction l with
    | nil => intro k; simp
    | cons x r ih =>
      intro k
      cases k with
      | zero => rfl
      | succ k => rw [List.map_cons, List.eraseIdx_cons_succ, List.eraseIdx_cons_succ, List.map_cons, ih]
  unfold asI
  rw [List.map_map, List.map_map]
  exact key _ _ _
theorem perm_pop {order rest : List Nat} {k n : Nat} (hk : k < rest.length) (h : (order ++ rest).Perm (List.range n)) : ((order ++ [rest.getD k 0]) ++ rest.eraseIdx k).Perm (List.range n) := by
  refine List.Perm.trans ?_ h
  rw [List.append_assoc]
  refine List.Perm.append_left order ?_
  rw [List.getD_eq_getElem?_getD, List.getElem?_eq_getElem hk]
  have key : ∀ (l : List Nat) (k : Nat) (h : k < l.length), (l[k] :: l.eraseIdx k).Perm l := by
    intro l
    induction l with
    | nil => intro k h; exact absurd h (Nat.not_lt_zero k)
    | cons x r ih =>
      intro k h
      cases k with
      | zero => exact List.Perm.refl _
      | succ k =>
        rw [List.eraseIdx_cons_succ, List.getElem_cons_succ]
        exact (List.Perm.swap _ _ _).trans (List.Perm.cons _ (ih k (by simpa using h)))
  exact key _ _ hk
theorem asI_item {a : List Nat} {k : Nat} (h : k < a.length) : ((asI a).map V.int)[k]? = some (.int ((a.getD k 0 : Nat) : Int)) := by
  unfold asI
  rw [List.map_map, List.getElem?_map, List.getElem?_eq_getElem h, List.getD_eq_getElem?_getD, List.getElem?_eq_getElem h]; rfl
theorem sum_asI (l : List Nat) : (asI l).sum = ((l.sum : Nat) : Int) := by
  unfold asI
  induction l with
  | nil => rfl
  | cons a r ih => rw [List.map_cons, List.sum_cons, ih, List.sum_cons, Int.natCast_add]
def ahead (n k : Nat) : Nat := if k = 0 then n - 1 else k - 1
theorem asI_nodup {r : List Nat} (h : r.Nodup) : (asI r).Nodup := by
  unfold asI
  rw [List.nodup_iff_pairwise_ne, List.pairwise_map]
  exact (List.nodup_iff_pairwise_ne.mp h).imp fun h => by omega
theorem set_asI {ws : List Nat} {k v : Nat} : ((asI ws).map V.int).set k (.int (v : Int)) = (asI (ws.set k v)).map V.int := by
  unfold asI
  rw [List.map_set, List.map_set]
end L2
namespace L2
open PySem PySem.Spec PyProof.Rows KM
section
variable {prog : Program} {w : World} {A : Around} {E : Value -> Shared -> Prop} {s : Shared}
theorem zipT_next {z TI TO i1 i2 l1 l2 : Addr} {n1 n2 : Nat} {xs ys : Array Value} {x y a b : Value} {Q : Value -> Shared -> Prop} (D : ZipApart z TI TO i1 i2 l1 l2) (kz : IsZip s.heap z TI TO .none) (kI : IsPair s.heap TI (.ref i1) (.ref i2)) (kO : IsPair s.heap TO a b)
    (t1 : s.heap.IsTupleIter i1 l1 n1) (t2 : s.heap.IsTupleIter i2 l2 n2) (p1 : s.heap.IsTuple l1 xs) (p2 : s.heap.IsTuple l2 ys) (ex : xs[n1]? = some x) (ey : ys[n2]? = some y)
    (q : ∀ h', IsZip h' z TI TO (rawInt s.heap.objs.size) -> IsPair h' TO x y -> h'.IsTupleIter i1 l1 (n1 + 1) -> h'.IsTupleIter i2 l2 (n2 + 1) -> IsPair h' s.heap.objs.size x y -> h'.objs.size = s.heap.objs.size + 1 ->
      (∀ c o, c ≠ z -> c ≠ TO -> c ≠ i1 -> c ≠ i2 -> s.heap.get? c = some o -> h'.get? c = some o) -> Q (.ref s.heap.objs.size) { s with heap := h' }) :
    wpAny (model prog w) A (Builtin.«zip.__next__» ⟨[.ref z], []⟩) (fun f s' => ∃ v, f = .done (.ret v) /\ Q v s') E s := by
  refine wpAny_bind (m := field (.ref z) 2) (wpAny_field kz rfl (x := .bool false) rfl (wpAny_bind (m := field (.ref z) 3) (wpAny_field kz rfl (x := .ref TI) rfl (wpAny_bind (wpAny_seqItems kI rfl (wpAny_bind (m := Builtin.SmallTypes.ownedTupleIsFree (.ref z)) ?_))))))
  unfold Builtin.SmallTypes.ownedTupleIsFree
  refine wpAny_bind (wpAny_field kz rfl (x := .none) rfl (wpAny_pure ?_))
  simp only [if_true]
  refine wpAny_bind (wpAny_rule (wpAny_bind (wpAny_field kz rfl (x := .ref TO) rfl (wpAny_bind (wpAny_setField_rec kz (by simp) fun u1 z1 b1 => ?_)))))
  have z1 : IsZip u1 z TI TO .ellipsis := z1
  refine wpAny_bind ?_
  simp only [List.zipIdx_cons, List.zipIdx_nil, List.forIn_cons, List.forIn_nil]
  refine wpAny_bind (wpAny_bind (wpAny_onRaise (wpAny_bind (m := Builtin.SmallTypes.nextOf (.ref i1)) (next_tup (t1.at fun o e => (b1.2 _ D.i1z).trans e) (p1.at fun o e => (b1.2 _ D.l1z).trans e) ex fun u2 s1 b2 => wpAny_pure ?_))))
  have o2 : IsPair u2 TO a b := (b2.2 _ D.TOi1).trans ((b1.2 _ D.TOz).trans kO)
  refine wpAny_bind (wpAny_seqItems o2 rfl (wpAny_bind (wpAny_updateSeq_pair o2 fun u3 o3 b3 => ?_)))
  have o3 : IsPair u3 TO x b := o3
  have k3 : ∀ c o, c ≠ z -> c ≠ i1 -> c ≠ TO -> s.heap.get? c = some o -> u3.get? c = some o := fun c o c1 c2 c3 e => (b3.2 c c3).trans ((b2.2 c c2).trans ((b1.2 c c1).trans e))
  refine wpAny_bind (wpAny_letGo (wpAny_pure ?_))
  refine wpAny_bind (wpAny_bind (wpAny_onRaise (wpAny_bind (m := Builtin.SmallTypes.nextOf (.ref i2)) (next_tup (t2.at fun o e => k3 _ o D.i2z D.i12.symm D.TOi2.symm e) (p2.at fun o e => k3 _ o D.l2z D.l2i1 D.l2TO e) ey fun u4 s2 b4 => wpAny_pure ?_))))
  have o4 : IsPair u4 TO x b := (b4.2 _ D.TOi2).trans o3
  refine wpAny_bind (wpAny_seqItems o4 rfl (wpAny_bind (wpAny_updateSeq_pair o4 fun u5 o5 b5 => ?_)))
  have o5 : IsPair u5 TO x y := o5
  refine wpAny_bind (wpAny_letGo (wpAny_pure (wpAny_pure (wpAny_bind (wpAny_seqItems o5 rfl (wpAny_bind (wpAny_newTuple ?_)))))))
  have n5 : u5.objs.size = s.heap.objs.size := by rw [b5.1, b4.1, b3.1, b2.1, b1.1]
  have k5 : ∀ c o, c ≠ z -> c ≠ TO -> c ≠ i1 -> c ≠ i2 -> s.heap.get? c = some o -> u5.get? c = some o := fun c o c1 c2 c3 c4 e => (b5.2 c c2).trans ((b4.2 c c4).trans (k3 c o c1 c3 c2 e))
  have z5 : IsZip u5 z TI TO .ellipsis := (b5.2 _ D.TOz.symm).trans ((b4.2 _ D.i2z.symm).trans ((b3.2 _ D.TOz.symm).trans ((b2.2 _ D.i1z.symm).trans z1)))
  have r1 : u5.IsTupleIter i1 l1 (n1 + 1) := s1.at fun o e => (b5.2 _ D.TOi1.symm).trans ((b4.2 _ D.i12).trans ((b3.2 _ D.TOi1.symm).trans e))
  have r2 : u5.IsTupleIter i2 l2 (n2 + 1) := s2.at fun o e => (b5.2 _ D.TOi2.symm).trans e
  have lz : z < u5.objs.size := Heap.lt_size z5
  refine wpAny_bind (m := Builtin.SmallTypes.ownedTupleHandOut (.ref z) (.ref u5.objs.size)) ?_
  unfold Builtin.SmallTypes.ownedTupleHandOut
  have z6 : IsZip (u5.push { cls := .type "tuple", data := .seq #[x, y] }) z TI TO .ellipsis := Heap.get?_push_of_some _ z5
  refine wpAny_bind (wpAny_setField_rec z6 (by simp) fun u7 z7 b7 => ?_)
  have z7 : IsZip u7 z TI TO (rawInt u5.objs.size) := z7
  refine wpAny_setField_rec z7 (by simp) fun u8 z8 b8 => ?_
  have z8 : IsZip u8 z TI TO (rawInt u5.objs.size) := z8
  have up : ∀ c o, c ≠ z -> u5.get? c = some o -> u8.get? c = some o := fun c o c1 e => (b8.2 c c1).trans ((b7.2 c c1).trans (Heap.get?_push_of_some _ e))
  have new : IsPair u8 u5.objs.size x y := (b8.2 _ (Nat.ne_of_gt lz)).trans ((b7.2 _ (Nat.ne_of_gt lz)).trans (Heap.get?_push_size _ rfl))
  have n8 : u8.objs.size = u5.objs.size + 1 := by rw [b8.1, b7.1, Heap.size_push]
  rw [n5] at z8 new n8
  refine wpAny_pure ⟨_, rfl, (show ∀ n : Nat, n = s.heap.objs.size -> Q (.ref n) _ from fun n en => ?_) u5.objs.size n5⟩
  subst en
  exact q u8 z8 (up _ _ D.TOz o5) (r1.at fun o e => up _ o D.i1z e) (r2.at fun o e => up _ o D.i2z e) new n8 fun c o c1 c2 c3 c4 e => up c o c1 (k5 c o c1 c2 c3 c4 e)
theorem zipT_end {z TI TO i1 i2 l1 l2 : Addr} {n1 : Nat} {xs : Array Value} {a b : Value} {Q : Fin -> Shared -> Prop} (hA : A.handled = none) (D : ZipApart z TI TO i1 i2 l1 l2) (kz : IsZip s.heap z TI TO .none) (kI : IsPair s.heap TI (.ref i1) (.ref i2)) (kO : IsPair s.heap TO a b)
    (t1 : s.heap.IsTupleIter i1 l1 n1) (p1 : s.heap.IsTuple l1 xs) (ex : xs[n1]? = none)
    (q : ∀ h' e, (∀ c o, c ≠ z -> c ≠ TO -> c ≠ i1 -> c ≠ i2 -> s.heap.get? c = some o -> h'.get? c = some o) -> (∃ o, h'.get? e = some o /\ o.cls = .type "StopIteration") -> E (.ref e) { s with heap := h' }) :
    wpAny (model prog w) A (Builtin.«zip.__next__» ⟨[.ref z], []⟩) Q E s := by
  refine wpAny_bind (m := field (.ref z) 2) (wpAny_field kz rfl (x := .bool false) rfl (wpAny_bind (m := field (.ref z) 3) (wpAny_field kz rfl (x := .ref TI) rfl (wpAny_bind (wpAny_seqItems kI rfl (wpAny_bind (m := Builtin.SmallTypes.ownedTupleIsFree (.ref z)) ?_))))))
  unfold Builtin.SmallTypes.ownedTupleIsFree
  refine wpAny_bind (wpAny_field kz rfl (x := .none) rfl (wpAny_pure ?_))
  simp only [if_true]
  refine wpAny_bind (wpAny_rule (wpAny_bind (wpAny_field kz rfl (x := .ref TO) rfl (wpAny_bind (wpAny_setField_rec kz (by simp) fun u1 z1 b1 => ?_)))))
  have z1 : IsZip u1 z TI TO .ellipsis := z1
  refine wpAny_bind ?_
  simp only [List.zipIdx_cons, List.zipIdx_nil, List.forIn_cons, List.forIn_nil]
  refine wpAny_bind (wpAny_bind (wpAny_onRaise (wpAny_bind (m := Builtin.SmallTypes.nextOf (.ref i1)) (next_tup_end hA (t1.at fun o e => (b1.2 _ D.i1z).trans e) (p1.at fun o e => (b1.2 _ D.l1z).trans e) ex fun u2 e b2 he => ?_))))
  obtain ⟨oe, ge, ce⟩ := he
  have z2 : IsZip u2 z TI TO .ellipsis := b2 _ _ D.i1z.symm z1
  have ne : e ≠ z := fun x => by
    subst x
    have z2 : u2.get? e = some _ := z2
    rw [z2] at ge; cases ge
    exact absurd (show Value.type "zip" = Value.type "StopIteration" from ce) (by decide)
  exact wpAny_setField_rec z2 (by simp) fun u3 _ b3 => q u3 e (fun c o c1 _ c3 _ x => (b3.2 c c1).trans (b2 c o c3 ((b1.2 c c1).trans x))) ⟨oe, (b3.2 e ne).trans ge, ce⟩
end
end L2
namespace L2
open PySem PySem.Spec PyProof.Rows KM
abbrev itO (p : Addr) : Obj := { cls := .type "tuple_iterator", data := .fields #[.ref p, .int 0 0] }
abbrev prO (a b : Value) : Obj := { cls := .type "tuple", data := .seq #[a, b] }
def zp2 (h : Heap) (p1 p2 : Addr) : Heap := (h.push (itO p1)).push (itO p2)
def zp5 (h : Heap) (p1 p2 : Addr) : Heap :=
  (((zp2 h p1 p2).push (prO (.ref h.objs.size) (.ref (h.push (itO p1)).objs.size))).push (prO .none .none)).push { cls := .type "zip", data := .fields #[.none, .bool false, .bool false, .ref (zp2 h p1 p2).objs.size, .ref ((zp2 h p1 p2).push (prO (.ref h.objs.size) (.ref (h.push (itO p1)).objs.size))).objs.size] }
theorem zip_newT (p1 p2 : Addr) (xs ys : Array Value) :
    Meets (Builtin.«zip.__new__» ⟨[.type "zip", .ref p1, .ref p2], []⟩) (fun _ R s => s.heap.IsTuple p1 xs /\ s.heap.IsTuple p2 ys /\ R (.ok (.ret (.ref (((zp2 s.heap p1 p2).push (prO (.ref s.heap.objs.size) (.ref (s.heap.push (itO p1)).objs.size))).push (prO .none .none)).objs.size))) { s with heap := zp5 s.heap p1 p2 }) :=
  .of_wp fun prog w A R s h => by
    obtain ⟨hp, g, d, tk, os⟩ := s
    obtain ⟨e1, e2, h⟩ := h
    have z := sub_zip
    have k1 : Heap.IsTuple (Shared.heap ⟨hp, g, d, tk, os⟩) p1 xs := e1
    have k2 : Heap.IsTuple (Shared.heap ⟨hp.push (itO p1), g, d, tk, os⟩) p2 ys := Heap.IsTuple.push e2 _
    wp_walk using wpAny_pyIter_tuple k1, wpAny_pyIter_tuple k2
    exact ⟨_, rfl, h⟩
section
variable {prog : Program} {w : World} {A : Around} {E : Value -> Shared -> Prop} {s : Shared}
theorem call_zipT {p1 p2 : Addr} {xs ys : Array Value} {Q : Value -> Shared -> Prop} (e1 : s.heap.IsTuple p1 xs) (e2 : s.heap.IsTuple p2 ys)
    (q : ∀ h', IsZip h' (s.heap.objs.size + 4) (s.heap.objs.size + 2) (s.heap.objs.size + 3) .none -> IsPair h' (s.heap.objs.size + 2) (.ref s.heap.objs.size) (.ref (s.heap.objs.size + 1)) -> IsPair h' (s.heap.objs.size + 3) .none .none ->
      h'.IsTupleIter s.heap.objs.size p1 0 -> h'.IsTupleIter (s.heap.objs.size + 1) p2 0 -> (∀ c o, s.heap.get? c = some o -> h'.get? c = some o) -> Q (.ref (s.heap.objs.size + 4)) { s with heap := h' }) :
    wpAny (model prog w) A (call (.type "zip") [.ref p1, .ref p2]) Q E s := by
  refine callType_new F.called_zip (by decide) (F.typeCall_zip_2 _ _) (F.newCall_zip_2 _ _) (fun obj => F.args_object_init_3 obj _ _) F.entry_zip_new (zip_newT p1 p2 xs ys) ⟨e1, e2, ?_⟩
  generalize ha : s.heap.push (itO p1) = a
  have na : a.objs.size = s.heap.objs.size + 1 := by rw [<- ha]; exact Heap.size_push ..
  have ga : a.get? s.heap.objs.size = some (itO p1) := by rw [<- ha]; exact Heap.get?_push_size _ rfl
  have ka : ∀ c o, s.heap.get? c = some o -> a.get? c = some o := fun c o e => by rw [<- ha]; exact Heap.get?_push_of_some _ e
  have hb : zp2 s.heap p1 p2 = a.push (itO p2) := by unfold zp2; rw [ha]
  have nb : (a.push (itO p2)).objs.size = s.heap.objs.size + 2 := by rw [Heap.size_push, na]
  have gb : (a.push (itO p2)).get? (s.heap.objs.size + 1) = some (itO p2) := by rw [<- na]; exact Heap.get?_push_size _ rfl
  have kb : ∀ c o, a.get? c = some o -> (a.push (itO p2)).get? c = some o := fun c o e => Heap.get?_push_of_some _ e
  have e5 : zp5 s.heap p1 p2 = (((a.push (itO p2)).push (prO (.ref s.heap.objs.size) (.ref a.objs.size))).push (prO .none .none)).push { cls := .type "zip", data := .fields #[.none, .bool false, .bool false, .ref (a.push (itO p2)).objs.size, .ref ((a.push (itO p2)).push (prO (.ref s.heap.objs.size) (.ref a.objs.size))).objs.size] } := by
    unfold zp5
    rw [hb, ha]
  rw [e5, hb]
  generalize a.push (itO p2) = b at nb gb kb
  generalize hc : b.push (prO (.ref s.heap.objs.size) (.ref a.objs.size)) = c
  have nc : c.objs.size = s.heap.objs.size + 3 := by rw [<- hc, Heap.size_push, nb]
  have gc : c.get? (s.heap.objs.size + 2) = some (prO (.ref s.heap.objs.size) (.ref a.objs.size)) := by rw [<- hc, <- nb]; exact Heap.get?_push_size _ rfl
  have kc : ∀ x o, b.get? x = some o -> c.get? x = some o := fun x o e => by rw [<- hc]; exact Heap.get?_push_of_some _ e
  generalize hd : c.push (prO .none .none) = d
  have nd : d.objs.size = s.heap.objs.size + 4 := by rw [<- hd, Heap.size_push, nc]
  have gd : d.get? (s.heap.objs.size + 3) = some (prO .none .none) := by rw [<- hd, <- nc]; exact Heap.get?_push_size _ rfl
  have kd : ∀ x o, c.get? x = some o -> d.get? x = some o := fun x o e => by rw [<- hd]; exact Heap.get?_push_of_some _ e
  have kf : ∀ x o u, d.get? x = some o -> (d.push u).get? x = some o := fun x o u e => Heap.get?_push_of_some _ e
  rw [na] at gc
  rw [nb, nc]
  have gz := Heap.get?_push_size d (o := { cls := .type "zip", data := .fields #[.none, .bool false, .bool false, .ref (s.heap.objs.size + 2), .ref (s.heap.objs.size + 3)] }) rfl
  rw [nd] at gz
  show _ /\ _
  rw [nd]
  exact ⟨⟨_, gz, rfl⟩, q _ gz (kf _ _ _ (kd _ _ gc)) (kf _ _ _ gd) ⟨_, kf _ _ _ (kd _ _ (kc _ _ (kb _ _ ga))), rfl, rfl⟩ ⟨_, kf _ _ _ (kd _ _ (kc _ _ gb)), rfl, rfl⟩ fun x o e => kf _ _ _ (kd _ _ (kc _ _ (kb _ _ (ka _ _ e))))⟩
end
def Itz (K : Frag) (a b : Addr) : It :=
  ⟨fun i H => ∃ xs ys x y, SqT K H a xs /\ SqT K H b ys /\ xs[i]? = some x /\ ys[i]? = some y, fun i H v H' => ∃ p x y, H p = none /\ v = .ref p /\ H' = upd H p (.tup [x, y]) /\ ∀ xs ys, SqT K H a xs -> SqT K H b ys -> xs[i]? = some x /\ ys[i]? = some y, fun i H => ∃ xs, SqT K H a xs /\ xs.length <= i⟩
structure ZSt (z TI TO i1 i2 a b : Addr) (i : Nat) (h : Heap) : Prop where
  zz : IsZip h z TI TO .none
  ti : IsPair h TI (.ref i1) (.ref i2)
  to : ∃ u v, IsPair h TO u v
  t1 : h.IsTupleIter i1 a i
  t2 : h.IsTupleIter i2 b i
end L2
namespace L2
open PySem PySem.Spec PyProof.Rows KM
theorem sqT_ne {X : Cx} {pins : List (Addr × Obj)} {σ : St} {H : Hp} {s : Shared} {a b : Addr} {xs : List V} (I : Inv X pins σ H s) (h : SqT X.K H a xs) (f : FpOk X pins H b) : a ≠ b := fun z => by
  subst z
  rcases h with (h | ⟨o, h⟩) | ⟨o, its, n, hk, _⟩
  · rw [f.1] at h; cases h
  · rw [f.1] at h; cases h
  · have e := I.mod.kin a o hk
    rcases f.2.2.2.1 with z | z
    · exact I.ok.noex a o e z
    · exact absurd (Nat.lt_of_lt_of_le (Heap.lt_size (I.ok.bs a o e).1) z) (Nat.lt_irrefl _)
theorem obj_ne {h : Heap} {a b : Addr} {o u : Obj} {n m : String} (ha : h.get? a = some o) (hn : o.cls = .type n) (hb : h.get? b = some u) (hm : u.cls = .type m) (hc : n ≠ m) : a ≠ b := fun z => by
  subst z
  rw [ha] at hb; cases hb
  rw [hn] at hm
  exact hc (by injection hm)
theorem ZSt.apart {X : Cx} {pins : List (Addr × Obj)} {σ : St} {H : Hp} {s : Shared} {z TI TO i1 i2 a b : Addr} {i : Nat} {xs ys : List V} (I : Inv X pins σ H s) (hTT : TI ≠ TO) (hii : i1 ≠ i2) (st : ZSt z TI TO i1 i2 a b i s.heap) (ha : SqT X.K H a xs) (hb : SqT X.K H b ys)
    (fz : FpOk X pins H z) (fO : FpOk X pins H TO) (f1 : FpOk X pins H i1) (f2 : FpOk X pins H i2) : ZipApart z TI TO i1 i2 a b := by
  obtain ⟨zz, ti, ⟨u, v, to⟩, ⟨o1, e1, c1, _⟩, ⟨o2, e2, c2, _⟩⟩ := st
  exact ⟨obj_ne ti rfl zz rfl (by decide), obj_ne to rfl zz rfl (by decide), obj_ne e1 c1 zz rfl (by decide), obj_ne e2 c2 zz rfl (by decide), hTT, obj_ne ti rfl e1 c1 (by decide), obj_ne ti rfl e2 c2 (by decide), obj_ne to rfl e1 c1 (by decide), obj_ne to rfl e2 c2 (by decide), hii,
    sqT_ne I ha fz, sqT_ne I ha fO, sqT_ne I ha f1, sqT_ne I ha f2, sqT_ne I hb fz, sqT_ne I hb fO, sqT_ne I hb f1, sqT_ne I hb f2⟩
theorem turn_zip {P : Program} {w : World} {K : Frag} {elts : List Expr} {x1 : Nat} {pos : Pos} (z TI TO i1 i2 a b : Addr) (hTT : TI ≠ TO) (hii : i1 ≠ i2) : Turn P w K (.Tuple elts x1 pos) (Itz K a b) [z, TI, TO, i1, i2] z (ZSt z TI TO i1 i2 a b) where
  mem := by simp
  obj := fun i h st c hc => by
    obtain ⟨zz, ti, ⟨u, v, to⟩, ⟨o1, e1, _, d1⟩, ⟨o2, e2, _, d2⟩⟩ := st
    simp only [List.mem_cons, List.not_mem_nil, or_false] at hc
    rcases hc with rfl | rfl | rfl | rfl | rfl
    · exact ⟨_, zz, fun v q => by cases q⟩
    · exact ⟨_, ti, fun v q => by cases q⟩
    · exact ⟨_, to, fun v q => by cases q⟩
    · exact ⟨_, e1, fun v q => by rw [d1] at q; cases q⟩
    · exact ⟨_, e2, fun v q => by rw [d2] at q; cases q⟩
  keep := fun i h h' st k => by
    obtain ⟨zz, ti, ⟨u, v, to⟩, t1, t2⟩ := st
    exact ⟨k z (by simp) _ zz, k TI (by simp) _ ti, ⟨u, v, k TO (by simp) _ to⟩, t1.at fun o q => k i1 (by simp) o q, t2.at fun o q => k i2 (by simp) o q⟩
  item := by
    intro X hP hw hK hc i pins s σ H E I hf st hg
    subst hP hw hK
    obtain ⟨xs, ys, x, y, hq, hq2, hx, hy⟩ := hg
    obtain ⟨its, rv, p, hz⟩ := I.tuple hq
    obtain ⟨its2, rv2, p2, hz2⟩ := I.tuple hq2
    obtain ⟨u, hu, ru⟩ := rv.get hx
    obtain ⟨v, hv, ru2⟩ := rv2.get hy
    have D := st.apart I hTT hii hq hq2 (hf z (by simp)) (hf TO (by simp)) (hf i1 (by simp)) (hf i2 (by simp))
    obtain ⟨zz, ti, ⟨c, d, to⟩, t1, t2⟩ := st
    have hT : s.TypeIs (.ref z) "zip" := ⟨_, zz, rfl⟩
    unfold pyNext
    refine wpAny_bind (wpAny_attempt (wpAny_callSpecial?_slot (name := Str.ofString "__next__") hT F.slot_zip_next (wpAny_call_entry F.slot_zip_next hT F.entry_zip_next
      (zipT_next D zz ti to t1 t2 (show s.heap.IsTuple a its.toArray from p) (show s.heap.IsTuple b its2.toArray from p2) (x := u) (y := v) (by simpa using hu) (by simpa using hv) fun h1 z1 to1 r1 r2 new n1 k1 => wpAny_pure ?_) (F.args_zip_next_1 _))))
    refine ⟨_, rfl, wpAny_letOwnedTupleGo_zip z1 fun h2 z2 b2 => ?_⟩
    have lz : z < s.heap.objs.size := Heap.lt_size zz
    have old : ∀ c o, c ≠ z -> c ≠ TO -> c ≠ i1 -> c ≠ i2 -> s.heap.get? c = some o -> h2.get? c = some o := fun c o a1 a2 a3 a4 e => (b2.2 c a1).trans (k1 c o a1 a2 a3 a4 e)
    refine ⟨.ref s.heap.objs.size, upd H s.heap.objs.size (.tup [x, y]), I.turnedNew (ch := [z, TI, TO, i1, i2]) (fun c o hc q => ?_) hf (Nat.le_refl _) (show ObjOk X.prog X.w _ h2 _ (.tup _) from ⟨by show 2 <= sizeLine; decide, [u, v], .cons ru (.cons ru2 .nil), ?_⟩), rfl, ⟨_, x, y, I.fresh, rfl, rfl, fun xs' ys' h1 h2 => by rw [I.tuple_inj h1 hq, I.tuple_inj h2 hq2]; exact ⟨hx, hy⟩⟩, ⟨z2, ?_, ⟨u, v, ?_⟩, ?_, ?_⟩, fun c hc => ?_⟩
    · simp only [List.mem_cons, List.not_mem_nil, or_false, not_or] at hc
      exact old c o hc.1 hc.2.2.1 hc.2.2.2.1 hc.2.2.2.2 q
    · exact ⟨_, (b2.2 _ (Nat.ne_of_gt lz)).trans new, rfl, _, rfl⟩
    · exact old _ _ D.TIz hTT D.TIi1 D.TIi2 ti
    · exact (b2.2 _ D.TOz).trans to1
    · exact r1.at fun o q => (b2.2 _ D.i1z).trans q
    · exact r2.at fun o q => (b2.2 _ D.i2z).trans q
    · rw [zj4 (fun q => ?_)]
      · exact (hf c hc).1
      · obtain ⟨o1, e1, _⟩ := t1
        obtain ⟨o2, e2, _⟩ := t2
        simp only [List.mem_cons, List.not_mem_nil, or_false] at hc
        rcases hc with rfl | rfl | rfl | rfl | rfl
        · exact absurd q (Nat.ne_of_lt lz)
        · exact absurd q (Nat.ne_of_lt (Heap.lt_size (show s.heap.get? c = some _ from ti)))
        · exact absurd q (Nat.ne_of_lt (Heap.lt_size (show s.heap.get? c = some _ from to)))
        · exact absurd q (Nat.ne_of_lt (Heap.lt_size e1))
        · exact absurd q (Nat.ne_of_lt (Heap.lt_size e2))
  done := by
    intro X hP hw hK hc i pins s σ H E I hf st hg
    subst hP hw hK
    obtain ⟨xs, hq, hx⟩ := hg
    obtain ⟨its, rv, p, hz⟩ := I.tuple hq
    have hl := rv.length
    obtain ⟨zz, ti, ⟨c, d, to⟩, t1, t2⟩ := st
    obtain ⟨o1, e1, c1, _⟩ := id t1
    obtain ⟨o2, e2, c2, _⟩ := id t2
    have D : ZipApart z TI TO i1 i2 a a := ⟨obj_ne ti rfl zz rfl (by decide), obj_ne to rfl zz rfl (by decide), obj_ne e1 c1 zz rfl (by decide), obj_ne e2 c2 zz rfl (by decide), hTT, obj_ne ti rfl e1 c1 (by decide), obj_ne ti rfl e2 c2 (by decide), obj_ne to rfl e1 c1 (by decide), obj_ne to rfl e2 c2 (by decide), hii,
      sqT_ne I hq (hf z (by simp)), sqT_ne I hq (hf TO (by simp)), sqT_ne I hq (hf i1 (by simp)), sqT_ne I hq (hf i2 (by simp)), sqT_ne I hq (hf z (by simp)), sqT_ne I hq (hf TO (by simp)), sqT_ne I hq (hf i1 (by simp)), sqT_ne I hq (hf i2 (by simp))⟩
    have hT : s.TypeIs (.ref z) "zip" := ⟨_, zz, rfl⟩
    unfold pyNext
    refine wpAny_bind (wpAny_attempt (wpAny_callSpecial?_slot (name := Str.ofString "__next__") hT F.slot_zip_next (wpAny_call_entry F.slot_zip_next hT F.entry_zip_next
      (zipT_end (by simpa using I.ok.hd hc) D zz ti to t1 (show s.heap.IsTuple a its.toArray from p) (by simp; omega) fun h' e k he => ?_) (F.args_zip_next_1 _))))
    obtain ⟨o, g, ce⟩ := he
    refine wpAny_bind (wpAny_isInstance (T := "StopIteration") (b := true) ⟨o, g, ce⟩ isSubtype_stop (wpAny_pure ⟨rfl, I.turnedL (t' := s.toks) (ch := [z, TI, TO, i1, i2]) (fun c o hc q => ?_) hf⟩))
    simp only [List.mem_cons, List.not_mem_nil, or_false, not_or] at hc
    exact k c o hc.1 hc.2.2.1 hc.2.2.2.1 hc.2.2.2.2 q
  self := fun _ _ _ _ _ st h => wpAny_pyIter_zip st.zz h
def iZpT (K : Frag) (ta : TA) : TI := fun σ H R => ta σ H fun vs H1 => ∃ a b, vs = [.ref a, .ref b] /\ (∃ xs, SqT K H1 a xs) /\ (∃ ys, SqT K H1 b ys) /\ R (Itz K a b) H1
section
variable {X : Cx} {N W G : List Str} {K : Frag} {e f : Expr} {t : TA} {p pos tpos : Pos} {elts : List Expr} {x1 : Nat}
theorem pi_zpT (S : Sc X N W G) (g : Nat) (hm : X.mg "zip" = none) (hK : X.K = K) (ha : PB X [e, f] t) (hg : G[g]? = some "zip" := by rfl) : PI X (.Tuple elts x1 tpos) (.Call (.Name "zip" p) [e, f] [] pos) (iZpT K t) := by
  subst hK
  intro pins s σ H R I h
  have q := S.gl _ (List.mem_of_getElem? hg)
  have h2 : nst f = true := by have := ha.hes; rw [List.all_cons, Bool.and_eq_true] at this; exact this.1
  refine Call_ (ld_blt I q.1 hm boot_zip (PyProof.Rows.callWith_type1 (thn (ha.pa pos pins s σ H _ I h) fun us s1 ⟨vs, H1, I1, r1, q1⟩ => ?_) (by rw [zj8 ha.he, zj8 h2]) (by rw [zj8 h2]; rfl)))
  obtain ⟨a, b, rfl, ⟨xs, hq⟩, ⟨ys, hq2⟩, q⟩ := q1
  obtain ⟨u, v, rfl, rx, ry⟩ := r1.two
  cases rx
  cases ry
  obtain ⟨its, rv, pl, hz⟩ := I1.tuple hq
  obtain ⟨its2, rv2, pl2, hz2⟩ := I1.tuple hq2
  refine call_zipT (show s1.heap.IsTuple a its.toArray from pl) (show s1.heap.IsTuple b its2.toArray from pl2) fun h' k1 k2 k3 k4 k5 k6 => wpAny_pyIter_zip k1 ?_
  refine ⟨s1.heap.objs.size + 4, [s1.heap.objs.size + 4, s1.heap.objs.size + 2, s1.heap.objs.size + 3, s1.heap.objs.size, s1.heap.objs.size + 1], _, _, H1, rfl, I1.kept (t' := s1.toks) k6, turn_zip _ _ _ _ _ a b (fun z => by have z : s1.heap.objs.size + 2 = s1.heap.objs.size + 3 := z; omega) (fun z => by have z : s1.heap.objs.size = s1.heap.objs.size + 1 := z; omega), ⟨k1, k2, ⟨_, _, k3⟩, k4, k5⟩, fun c hc => ?_, q⟩
  have hc2 : s1.heap.objs.size <= c := by
    simp only [List.mem_cons, List.not_mem_nil, or_false] at hc
    rcases hc with rfl | rfl | rfl | rfl | rfl
    · exact Nat.le_add_right _ _
    · exact Nat.le_add_right _ _
    · exact Nat.le_add_right _ _
    · exact Nat.le_refl _
    · exact Nat.le_add_right _ _
  exact I1.fpOk hc2 (I1.hok.fresh hc2)
theorem izpT (S : Sc X N W G) (g : Nat) (hm : X.mg "zip" = none) (hK : X.K = K) (ha : QB X [e, f] t) (hg : G[g]? = some "zip" := by rfl) : QI X (.Tuple elts x1 tpos) (.Call (.Name "zip" p) [e, f] [] pos) (iZpT K t) := ⟨pi_zpT S g hm hK ha.h hg⟩
theorem q_iZpT {K : Frag} {ta : TA} {σ : St} {H : Hp} {R : It -> Hp -> Prop} : iZpT K ta σ H R = ta σ H fun vs H1 => ∃ a b, vs = [.ref a, .ref b] /\ (∃ xs, SqT K H1 a xs) /\ (∃ ys, SqT K H1 b ys) /\ R (Itz K a b) H1 := rfl
end
end L2
namespace L2
open PySem PySem.Spec PyProof.Rows KM
def rAll (K : Frag) : List V -> Hp -> VK -> Prop := fun xs H Q => ∃ (p : Addr) (bs : List Bool), xs = [.ref p] /\ SqL K H p (bs.map V.bl) /\ Q (.bl (bs.all id)) H
theorem vals_bl : ∀ {bs : List Bool} {its : List Value}, Vals (bs.map V.bl) its -> its = bs.map Value.bool
  | [], _, .nil => rfl
  | b :: r, _, .cons h t => by rw [vals_bl t, show _ = Value.bool b from h]; rfl
section
variable {X : Cx}
theorem call_allK {K : Frag} (hc : X.calm = true) (hK : X.K = K) : CallR X (.builtin "all") (rAll K) := by
  subst hK
  intro pins s σ H xs us Q I r h
  obtain ⟨p, bs, rfl, hq, q⟩ := h
  obtain ⟨u, rfl, rx⟩ := vals1 r
  cases rx
  obtain ⟨its, r', pl, hz⟩ := I.list hq
  have ei := vals_bl r'
  have hp : p < s.heap.objs.size := by obtain ⟨o, e, _⟩ := pl.isList; exact Heap.lt_size e
  refine PySem.call_all_walk (wpAny_pyIter_list pl.isList ?_)
  refine ⟨s.heap.objs.size, _, _, _, _, _, fun i => bs.getD i false, rfl, Walks.list (by simpa using I.ok.hd hc) s.heap.objs.size p (Nat.ne_of_lt hp) its.toArray, ⟨⟨_, Heap.get?_push_size _ rfl, rfl, rfl⟩, pl.isList.push _⟩, ?_, fun h' tk hk => ?_⟩
  · intro i v s' Q' E' hv hQ
    have hv : its[i]? = some v := by simpa using hv
    rw [ei, List.getElem?_map] at hv
    cases e : bs[i]? with
    | none => rw [e] at hv; cases hv
    | some b =>
      rw [e] at hv
      cases hv
      have hQ : Q' (bs.getD i false) s' := hQ
      rw [List.getD_eq_getElem?_getD, e] at hQ
      exact wpAny_truthy_bool hQ
  · have hl : its.toArray.size = bs.length := by rw [List.size_toArray, ei, List.length_map]
    have ea : (List.range its.toArray.size).all (fun i => bs.getD i false) = bs.all id := by
      rw [hl]
      apply Bool.eq_iff_iff.mpr
      simp only [List.all_eq_true, List.mem_range, id_eq]
      constructor
      · intro h b hb
        obtain ⟨k, hk, e⟩ := List.getElem_of_mem hb
        have := h k hk
        rw [List.getD_eq_getElem?_getD, List.getElem?_eq_getElem hk] at this
        rw [<- e]; exact this
      · intro h k hk
        rw [List.getD_eq_getElem?_getD, List.getElem?_eq_getElem hk]
        exact h _ (List.getElem_mem hk)
    rw [ea]
    refine ⟨.bl _, H, I.kept fun b o e => hk b o ?_ (Heap.get?_push_of_some _ e), rfl, q⟩
    have := Heap.lt_size e
    intro z
    have : b = s.heap.objs.size := by simpa using z
    subst this
    exact Nat.lt_irrefl _ (Heap.lt_size e)
end
theorem lcZ {K : Frag} {a b : Addr} {ns ms : List Int} {te : TE} {rest : St} {Q : VK} {H1 : Hp} (val : Nat -> V) (h : SqT K H1 a (ns.map V.int)) (h' : SqT K H1 b (ms.map V.int)) (hl : ns.length = ms.length) (hn : ns.length < sizeLine)
    (step : ∀ i H (A : V -> Hp -> Prop), i < ns.length -> Same H1 H -> (∀ H', Same H H' -> A (val i) H') -> te (some (.int (ns.getD i 0)) :: some (.int (ms.getD i 0)) :: rest) H A)
    (fin : ∀ acc H, H1 acc = none -> Same H1 H -> H acc = some (.lst ((List.range ns.length).map val)) -> Q (.ref acc) H) :
    ∃ c d, [V.ref a, V.ref b] = [.ref c, .ref d] /\ (∃ xs, SqT K H1 c xs) /\ (∃ ys, SqT K H1 d ys) /\ rLC (gTup K 2 (gCons (gName 0) (gCons (gName 1) gNil))) tTrue te (none :: none :: rest) Q (Itz K c d) H1 := by
  refine ⟨a, b, rfl, ⟨_, h⟩, ⟨_, h'⟩, fun acc hacc => ?_⟩
  refine ⟨fun i m τ H => m = ns.length - i /\ i <= ns.length /\ (∃ y z, τ = y :: z :: rest) /\ Same H1 H /\ H acc = some (.lst ((List.range i).map val)), ⟨ns.length, by simp, Nat.zero_le _, ⟨_, _, rfl⟩, Same.new hacc _, zq1⟩, ?_⟩
  rintro i m τ H ⟨rfl, hi, ⟨y, z, rfl⟩, hS, hF⟩
  have q1 := hS.seqT h
  have q2 := hS.seqT h'
  by_cases hlt : i < ns.length
  · have ex : (ns.map V.int)[i]? = some (.int (ns.getD i 0)) := by
      rw [List.getElem?_map, List.getElem?_eq_getElem hlt, List.getD_eq_getElem?_getD, List.getElem?_eq_getElem hlt]; rfl
    have hlt2 : i < ms.length := by omega
    have ey : (ms.map V.int)[i]? = some (.int (ms.getD i 0)) := by
      rw [List.getElem?_map, List.getElem?_eq_getElem hlt2, List.getD_eq_getElem?_getD, List.getElem?_eq_getElem hlt2]; rfl
    refine .inr ⟨⟨_, _, _, _, q1, q2, ex, ey⟩, fun τ' H' => (∃ y z, τ' = y :: z :: rest) /\ Same H1 H' /\ H' acc = some (.lst ((List.range (i + 1)).map val)), fun τ' H' ⟨u, v, w⟩ => ⟨ns.length - (i + 1), by omega, rfl, hlt, u, v, w⟩, fun x H' y => ?_⟩
    obtain ⟨p, x1, y1, hp, rfl, rfl, hxy⟩ := y
    obtain ⟨g1, g2⟩ := hxy _ _ q1 q2
    rw [ex] at g1; cases g1
    rw [ey] at g2; cases g2
    have sp := Same.new hp (.tup [.int (ns.getD i 0), .int (ms.getD i 0)])
    refine ⟨p, _, rfl, SqT.of zq1, rfl, _, _, rfl, _, _, rfl, rfl, ?_⟩
    simp only [q_True, q_iT, q_ifT, List.set_cons_zero, List.set_cons_succ]
    refine step i _ _ hlt (hS.trans sp) fun H2 hS2 => ?_
    have hF2 := hS2 _ _ (sp _ _ hF)
    refine ⟨_, hF2, ?_, ⟨_, _, rfl⟩, ((hS.trans sp).trans hS2).set hacc _, ?_⟩
    · rw [List.length_map, List.length_range]; omega
    · rw [zq1, List.range_succ, List.map_append]; rfl
  · have e : i = ns.length := by omega
    subst e
    exact .inl ⟨⟨_, q1, by rw [List.length_map]; exact Nat.le_refl _⟩, fin acc H hacc hS hF⟩
end L2
namespace KM
def mask (l : List Nat) : Nat := (l.map fun j => 2 ^ j).sum
theorem mask_bit : ∀ {l : List Nat}, l.Nodup -> ∀ j, (mask l).testBit j = decide (j ∈ l)
  | [], _, j => by simp [mask]
  | a :: r, h, j => by
    have h' := List.nodup_cons.mp h
    have ih := mask_bit h'.2
    have ha : (mask r).testBit a = false := by rw [ih]; simp [h'.1]
    show (2 ^ a + mask r).testBit j = _
    rw [Nat.add_comm, add_pow ha, testBit_put, ih]
    by_cases e : a = j
    · subst e; simp
    · have : ¬ j = a := fun z => e z.symm
      simp [e, this]
def circleB (ws l : List Nat) : Bool := l.all fun i => l.all fun j => decide (j = i) || see ws i j
theorem and_sub {a b : Nat} : a &&& b = b ↔ ∀ j, b.testBit j = true -> a.testBit j = true := by
  constructor
  · intro h j hj
    have : (a &&& b).testBit j = true := by rw [h]; exact hj
    rw [Nat.testBit_and, Bool.and_eq_true] at this
    exact this.1
  · intro h
    apply Nat.eq_of_testBit_eq
    intro j
    rw [Nat.testBit_and]
    cases e : b.testBit j with
    | false => rw [Bool.and_false]
    | true => rw [h j e]; rfl
theorem mask_erase {l : List Nat} {i : Nat} (h : l.Nodup) (hi : i ∈ l) : ∀ j, (mask l - 2 ^ i).testBit j = decide (j ∈ l /\ j ≠ i) := by
  intro j
  have e : mask l &&& 2 ^ i = 2 ^ i := and_sub.mpr fun j hj => by
    rw [Nat.testBit_two_pow, decide_eq_true_eq] at hj
    subst hj
    rw [mask_bit h, decide_eq_true hi]
  have := and_sub_bit (mask l) (2 ^ i) j
  rw [e] at this
  rw [this, mask_bit h, Nat.testBit_two_pow]
  by_cases c : j ∈ l <;> by_cases c2 : i = j
  · subst c2; simp
  · have : ¬ j = i := fun z => c2 z.symm
    simp [c, c2, this]
  · simp [c]
  · simp [c]
theorem pow_le_mask {l : List Nat} {i : Nat} (hi : i ∈ l) : 2 ^ i <= mask l := by
  unfold mask
  induction l with
  | nil => cases hi
  | cons a r ih =>
    rw [List.map_cons, List.sum_cons]
    rcases List.mem_cons.mp hi with rfl | h
    · omega
    · exact Nat.le_trans (ih h) (Nat.le_add_left _ _)
theorem circle_one {ws l : List Nat} {i : Nat} (h : l.Nodup) (hi : i ∈ l) : decide (ws.getD i 0 &&& (mask l - 2 ^ i) = mask l - 2 ^ i) = l.all fun j => decide (j = i) || see ws i j := by
  apply Bool.eq_iff_iff.mpr
  rw [decide_eq_true_eq, and_sub, List.all_eq_true]
  constructor
  · intro z j hj
    by_cases e : j = i
    · rw [decide_eq_true e]; rfl
    · have := z j (by rw [mask_erase h hi, decide_eq_true ⟨hj, e⟩])
      unfold see
      rw [this, Bool.or_true]
  · intro z j hj
    rw [mask_erase h hi, decide_eq_true_eq] at hj
    have := z j hj.1
    rw [decide_eq_false hj.2, Bool.false_or] at this
    exact this
end KM
namespace L2
open PySem PySem.Spec PyProof.Rows KM
def spIC (K : Frag) : Sp := fun vs H Q _ => ∃ (w p : Addr) (ws l : List Nat), vs = [.ref w, .ref p] /\ SqT K H w ((asI ws).map V.int) /\ SqT K H p ((asI l).map V.int) /\ ws.length <= 8 /\ l.Nodup /\ (∀ i ∈ l, i < ws.length) /\ ∀ H', Same H H' -> Q (.bl (circleB ws l)) H'
def InvIC (H0 : Hp) (w p : Addr) (ws l : List Nat) (k : Nat) (σ : St) (H : Hp) : Prop := H = H0 /\ (∀ j, j < k -> (l.all fun x => decide (x = l.getD j 0) || see ws (l.getD j 0) x) = true) /\ ∃ y1 y2 : Option V, σ = [some (.ref w), some (.ref p), some (.int (mask l : Nat)), y1, y2]
theorem map_pow (l : List Nat) : ((List.range (asI l).length).map fun j => ((2 ^ l.getD j 0 : Nat) : Int)).sum = ((mask l : Nat) : Int) := by
  have e : (List.range (asI l).length).map (fun j => ((2 ^ l.getD j 0 : Nat) : Int)) = asI (l.map fun j => 2 ^ j) := by
    unfold asI
    apply List.ext_getElem?
    intro i
    rw [List.length_map, List.getElem?_map, List.getElem?_map, List.getElem?_map]
    by_cases h : i < l.length
    · rw [List.getElem?_range h, List.getElem?_eq_getElem h]
      show some (((2 ^ l.getD i 0 : Nat) : Int)) = some (((2 ^ l[i] : Nat) : Int))
      rw [List.getD_eq_getElem?_getD, List.getElem?_eq_getElem h]; rfl
    · rw [List.getElem?_eq_none (by rw [List.length_range]; omega), List.getElem?_eq_none (by omega)]; rfl
  rw [e, sum_asI]; rfl
theorem sub_pow {a i : Nat} (h : 2 ^ i <= a) : (a : Int) - ((2 ^ i : Nat) : Int) = ((a - 2 ^ i : Nat) : Int) := by omega
theorem q_eqN {a b : Nat} : (((a : Nat) : Int) = ((b : Nat) : Int)) = (a = b) := propext ⟨fun h => by omega, fun h => by rw [h]⟩
def ringB (ws r : List Nat) : Bool := decide (2 <= r.length) && (decide r.Nodup && (List.range r.length).all fun k => see ws (r.getD (ahead r.length k) 0) (r.getD k 0))
def foll (r : List Nat) : List Nat := r.drop 1 ++ r.take 1
theorem foll_len {r : List Nat} (h : 1 <= r.length) : (foll r).length = r.length := by unfold foll; rw [List.length_append, List.length_drop, List.length_take]; omega
theorem foll_get {r : List Nat} {k : Nat} (hk : k < r.length) : (foll r).getD k 0 = r.getD (if k + 1 < r.length then k + 1 else 0) 0 := by
  unfold foll
  rw [List.getD_eq_getElem?_getD, List.getD_eq_getElem?_getD]
  by_cases c : k + 1 < r.length
  · rw [if_pos c, List.getElem?_append_left (by rw [List.length_drop]; omega), List.getElem?_drop, Nat.add_comm]
  · rw [if_neg c, List.getElem?_append_right (by rw [List.length_drop]; omega), List.length_drop, show k - (r.length - 1) = 0 by omega, List.getElem?_take_of_lt (by decide)]
theorem ring_turn {ws r : List Nat} : ((List.range r.length).map fun k => see ws (r.getD k 0) ((foll r).getD k 0)).all id = (List.range r.length).all fun k => see ws (r.getD (ahead r.length k) 0) (r.getD k 0) := by
  apply Bool.eq_iff_iff.mpr
  rw [List.all_map]
  simp only [List.all_eq_true, List.mem_range, Function.comp, id_eq]
  constructor
  · intro h k hk
    unfold ahead
    by_cases c : k = 0
    · subst c
      rw [if_pos rfl]
      have := h (r.length - 1) (by omega)
      rw [foll_get (by omega), if_neg (by omega)] at this
      exact this
    · rw [if_neg c]
      have := h (k - 1) (by omega)
      rw [foll_get (by omega), if_pos (by omega), show k - 1 + 1 = k by omega] at this
      exact this
  · intro h k hk
    rw [foll_get hk]
    by_cases c : k + 1 < r.length
    · rw [if_pos c]
      have := h (k + 1) c
      unfold ahead at this
      rw [if_neg (by omega), Nat.add_sub_cancel] at this
      exact this
    · rw [if_neg c]
      have := h 0 (by omega)
      unfold ahead at this
      rw [if_pos rfl, show r.length - 1 = k by omega] at this
      exact this
theorem asI_nodup_iff {r : List Nat} : (asI r).Nodup ↔ r.Nodup := by
  constructor
  · intro h
    unfold asI at h
    rw [List.nodup_iff_pairwise_ne, List.pairwise_map] at h
    rw [List.nodup_iff_pairwise_ne]
    exact h.imp fun h => by omega
  · exact asI_nodup
theorem dup_erase : ∀ {ns : List Int}, ¬ ns.Nodup -> ∃ x ∈ ns, x ∈ ns.erase x
  | [], h => absurd List.nodup_nil h
  | a :: r, h => by
    by_cases c : a ∈ r
    · exact ⟨a, List.mem_cons_self .., by rw [List.erase_cons_head]; exact c⟩
    · have hr : ¬ r.Nodup := fun z => h (List.nodup_cons.mpr ⟨c, z⟩)
      obtain ⟨x, h1, h2⟩ := dup_erase hr
      refine ⟨x, List.mem_cons_of_mem _ h1, ?_⟩
      have hne : a ≠ x := fun z => c (z ▸ h1)
      rw [List.erase_cons_tail (by simpa using hne)]
      exact List.mem_cons_of_mem _ h2
theorem nodup_subI : ∀ {xs ys : List Int}, xs.Nodup -> (∀ i ∈ xs, i ∈ ys) -> xs.length <= ys.length
  | [], _, _, _ => Nat.zero_le _
  | a :: r, ys, hd, h => by
    have hd' := List.nodup_cons.mp hd
    have h1 := nodup_subI (xs := r) (ys := ys.erase a) hd'.2 fun i hi => by
      have : i ≠ a := fun z => hd'.1 (z ▸ hi)
      exact (List.mem_erase_of_ne this).mpr (h i (List.mem_cons_of_mem _ hi))
    have h2 := List.length_erase (a := a) (l := ys)
    rw [if_pos (h a (List.mem_cons_self ..))] at h2
    have : 0 < ys.length := List.length_pos_of_mem (h a (List.mem_cons_self ..))
    rw [List.length_cons]; omega
theorem unlike_lt {ns : List Int} (h : ¬ ns.Nodup) : unlike ns < ns.length := by
  obtain ⟨x, h1, h2⟩ := dup_erase h
  obtain ⟨s1, s2⟩ := setF_mem (ns := ns) ns.length (Nat.le_refl _)
  have h3 := nodup_subI (ys := ns.erase x) s1 fun i hi => by
    have hi := (s2 i).mp hi
    rw [List.take_length] at hi
    by_cases e : i = x
    · rw [e]; exact h2
    · exact (List.mem_erase_of_ne e).mpr hi
  have h4 := List.length_erase (a := x) (l := ns)
  rw [if_pos h1] at h4
  have : 0 < ns.length := List.length_pos_of_mem h1
  unfold unlike
  omega
def spIR (K : Frag) : Sp := fun vs H Q _ => ∃ (w p : Addr) (ws r : List Nat), vs = [.ref w, .ref p] /\ SqT K H w ((asI ws).map V.int) /\ SqT K H p ((asI r).map V.int) /\ ws.length <= 8 /\ r.length <= 90 /\ (∀ i ∈ r, i < ws.length) /\ ∀ H', Same H H' -> Q (.bl (ringB ws r)) H'
def Off (wb : Addr) (H H' : Hp) : Prop := ∀ b o, b ≠ wb -> H b = some o -> H' b = some o
theorem Off.trans {wb : Addr} {H H1 H2 : Hp} (a : Off wb H H1) (b : Off wb H1 H2) : Off wb H H2 := fun c o n h => b c o n (a c o n h)
theorem Same.offTo {wb : Addr} {H H' : Hp} (s : Same H H') : Off wb H H' := fun b o _ h => s b o h
theorem Off.upd {wb : Addr} {H : Hp} {o : HO} : Off wb H (L2.upd H wb o) := fun b u n h => by rw [zj4 n]; exact h
theorem zj1 {K : Frag} {H : Hp} {Q : VK} {p : Addr} {xs : List V} {i : Int} {v : V} (h : SqL K H p xs) (e : atI xs i = some v) (q : Q v H) : rIxL K (.ref p) (.int i) H Q := ⟨p, _, i, _, rfl, rfl, h, e, q⟩
theorem eqv_nil {ds : List PyData} : PyData.eqv (.list ds) (.list []) = decide (ds = []) := by
  cases ds with
  | nil => rfl
  | cons a r => simp [PyData.eqv, PyData.eqvAll]
def RL (wb : Addr) (H : Hp) : List V -> List (List Nat) -> Prop
  | [], [] => True
  | v :: vs, r :: rs => (∃ a, v = .ref a /\ a ≠ wb /\ H a = some (.lst ((asI r).map V.int))) /\ RL wb H vs rs
  | _, _ => False
theorem RL.off {wb : Addr} {H H' : Hp} (s : Off wb H H') : ∀ {vs : List V} {rs : List (List Nat)}, RL wb H vs rs -> RL wb H' vs rs
  | [], [], h => h
  | _ :: _, _ :: _, ⟨⟨a, e, n, h⟩, t⟩ => ⟨⟨a, e, n, s _ _ n h⟩, RL.off s t⟩
  | [], _ :: _, h => h.elim
  | _ :: _, [], h => h.elim
theorem RL.append {wb : Addr} {H : Hp} : ∀ {vs ws : List V} {L M : List (List Nat)}, RL wb H vs L -> RL wb H ws M -> RL wb H (vs ++ ws) (L ++ M)
  | [], _, [], _, _, h => h
  | _ :: _, _, _ :: _, _, ⟨a, t⟩, h => ⟨a, RL.append t h⟩
  | [], _, _ :: _, _, h, _ => h.elim
  | _ :: _, _, [], _, h, _ => h.elim
theorem RL.length {wb : Addr} {H : Hp} : ∀ {vs : List V} {L : List (List Nat)}, RL wb H vs L -> vs.length = L.length
  | [], [], _ => rfl
  | _ :: _, _ :: _, ⟨_, t⟩ => by rw [List.length_cons, List.length_cons, RL.length t]
  | [], _ :: _, h => h.elim
  | _ :: _, [], h => h.elim
theorem RL.get {wb : Addr} {H : Hp} : ∀ {vs : List V} {L : List (List Nat)} {i : Nat}, RL wb H vs L -> i < L.length -> ∃ a, vs[i]? = some (.ref a) /\ a ≠ wb /\ H a = some (.lst ((asI (L.getD i [])).map V.int))
  | _ :: _, _ :: _, 0, ⟨⟨a, e, n, h⟩, _⟩, _ => ⟨a, by rw [e]; rfl, n, h⟩
  | _ :: _, _ :: _, i + 1, ⟨_, t⟩, hi => by
    obtain ⟨a, h1, h2, h3⟩ := RL.get (i := i) t (by simpa using hi)
    exact ⟨a, by simpa using h1, h2, by simpa using h3⟩
  | [], [], _, _, hi => absurd hi (Nat.not_lt_zero _)
  | [], _ :: _, _, h, _ => h.elim
  | _ :: _, [], _, h, _ => h.elim
def rowD (r : List Nat) : PyData := .list ((asI r).map PyData.int)
theorem RL.dt {K : Frag} {wb : Addr} {H : Hp} : ∀ {vs : List V} {L : List (List Nat)}, RL wb H vs L -> DtAll K H vs (L.map rowD)
  | [], [], _ => .nil
  | _ :: _, r :: _, ⟨⟨a, e, _, h⟩, t⟩ => by rw [e]; exact .cons (.lst (SqL.of h) (DtAll.ints _)) (RL.dt t)
  | [], _ :: _, h => h.elim
  | _ :: _, [], h => h.elim
theorem lay_rows : ∀ L : List (List Nat), PyData.canLayAll0 (L.map rowD) = true /\ PyData.depthAll (L.map rowD) <= 10
  | [] => ⟨by simp [PyData.canLayAll0], by simp [PyData.depthAll]⟩
  | r :: q => by
    obtain ⟨h1, h2⟩ := lay_rows q
    have h3 := PySem.W.shaped_ints (asI r)
    have h4 : (rowD r).canLay0 = true := (Bool.and_eq_true_iff.mp h3).1
    have h5 : (rowD r).depth <= 10 := by
      have := PySem.W.depthAll_ints (asI r)
      unfold rowD
      simp only [PyData.depth]
      omega
    rw [List.map_cons]
    refine ⟨?_, ?_⟩
    · simp only [PyData.canLayAll0, h4, h1]; rfl
    · simp only [PyData.depthAll]; omega
theorem shaped_rows (L : List (List Nat)) : PySem.SeqAt.shaped (.list (L.map rowD)) = true := by
  obtain ⟨h1, h2⟩ := lay_rows L
  show (PyData.canLay0 (.list (L.map rowD)) && decide (PyData.depth (.list (L.map rowD)) <= 64)) = true
  rw [Bool.and_eq_true, decide_eq_true_eq]
  refine ⟨by simp only [PyData.canLay0]; exact h1, by simp only [PyData.depth]; omega⟩
theorem natmod {a b : Nat} : ((a : Nat) : Int) % ((b : Nat) : Int) = ((a % b : Nat) : Int) := (Int.natCast_emod _ _).symm
theorem cut_ints {ns : List Int} {lo hi : Option Int} : ∃ ms : List Int, cutV (ns.map V.int) lo hi = ms.map V.int /\ ms.length <= ns.length := by
  refine ⟨(ns.drop (HT.sIx ns.length 0 lo)).take (HT.sIx ns.length ns.length hi - HT.sIx ns.length 0 lo), ?_, by rw [List.length_take, List.length_drop]; omega⟩
  unfold cutV
  rw [List.length_map, List.map_take, List.map_drop]
theorem RL.offR {wb rs : Addr} {H H' : Hp} (s : Off rs H H') : ∀ {vs : List V} {L : List (List Nat)}, RL wb H vs L -> (∀ v ∈ vs, v ≠ .ref rs) -> RL wb H' vs L
  | [], [], h, _ => h
  | _ :: _, _ :: _, ⟨⟨a, e, n, h⟩, t⟩, hn => ⟨⟨a, e, n, s _ _ (fun z => hn _ (List.mem_cons_self ..) (by rw [e, z])) h⟩, RL.offR s t fun v hv => hn v (List.mem_cons_of_mem _ hv)⟩
  | [], _ :: _, h, _ => h.elim
  | _ :: _, [], h, _ => h.elim
theorem atI_lastV {us : List V} {v : V} : atI (us ++ [v]) (-1) = some v := by
  unfold atI
  have : ixN (us ++ [v]).length (-1) = some us.length := by
    unfold ixN
    rw [List.length_append, if_neg (by decide), if_pos (by show -((us.length + 1 : Nat) : Int) <= -1; omega)]
    congr 1
    show ((-1 : Int) + ((us.length + 1 : Nat) : Int)).toNat = us.length
    omega
  rw [this]
  show (us ++ [v])[us.length]? = some v
  rw [List.getElem?_append_right (Nat.le_refl _), Nat.sub_self]; rfl
end L2
namespace KM
end KM
namespace L2
open PySem PySem.Spec PyProof.Rows KM
end L2
namespace KM
theorem natSum_cast : ∀ L : List Nat, ((L.sum : Nat) : Int) = (L.map fun (x : Nat) => (x : Int)).sum
  | [] => rfl
  | a :: L => by rw [List.sum_cons, List.map_cons, List.sum_cons, Int.natCast_add, natSum_cast L]
end KM
namespace L2
open PySem PySem.Spec PyProof.Rows KM
section
variable {X : Cx} {N W G : List Str} {K : Frag} {e tg : Expr} {t : TA} {p pos : Pos}
end
end L2
namespace L2
open PySem PySem.Spec PyProof.Rows KM
theorem getD_setI {ms : List Int} {j k : Nat} {v : Int} : (ms.set j v).getD k 0 = if j = k /\ j < ms.length then v else ms.getD k 0 := by
  rw [List.getD_eq_getElem?_getD, List.getElem?_set, List.getD_eq_getElem?_getD]
  by_cases e : j = k
  · by_cases h : j < ms.length
    · rw [if_pos e, if_pos h, if_pos ⟨e, h⟩]; rfl
    · rw [if_pos e, if_neg h, if_neg (fun z => h z.2), List.getElem?_eq_none (by omega)]
  · rw [if_neg e, if_neg (fun z => e z.1)]
theorem HN.set {cs ms : List Int} {n j : Nat} {v : Int} (h : HN cs ms n) (h0 : 0 <= v) (h1 : v < cs.getD j 0) : HN cs (ms.set j v) n := by
  refine ⟨by rw [List.length_set, h.1], fun i hi => ?_⟩
  rw [getD_setI]
  by_cases e : j = i /\ j < ms.length
  · rw [if_pos e, <- e.1]; exact ⟨h0, h1⟩
  · rw [if_neg e]; exact h.2 i hi
theorem lcAnyI {j : Int} {te : TE} {rest : St} {Q : VK} {H1 : Hp} (n : Nat) (e : j = (n : Int)) (hn : n <= 1000000) (Ok : Nat -> Int -> Prop)
    (step : ∀ i H (A : V -> Hp -> Prop), i < n -> Same H1 H -> (∀ (x : Int) H', Same H H' -> Ok i x -> A (.int x) H') -> te (some (.int (i : Int)) :: rest) H A)
    (fin : ∀ acc (row : List Int) H, H1 acc = none -> Same H1 H -> H acc = some (.lst (row.map V.int)) -> row.length = n -> (∀ i, i < n -> Ok i (row.getD i 0)) -> Q (.ref acc) H) :
    ∃ k : Int, [V.int j] = [.int k] /\ -(2 ^ 62) <= k /\ k < 2 ^ 62 /\ rLC (gName 0) tTrue te (none :: rest) Q (Itr 0 k.toNat) H1 := by
  subst e
  refine ⟨_, rfl, by omega, by omega, ?_⟩
  rw [Int.toNat_natCast]
  intro acc hacc
  refine ⟨fun i m τ H => m = n - i /\ i <= n /\ (∃ y, τ = y :: rest) /\ Same H1 H /\ ∃ row : List Int, H acc = some (.lst (row.map V.int)) /\ row.length = i /\ ∀ k, k < i -> Ok k (row.getD k 0), ⟨n, by simp, Nat.zero_le _, ⟨_, rfl⟩, Same.new hacc _, [], zq1, rfl, fun k hk => absurd hk (Nat.not_lt_zero k)⟩, ?_⟩
  rintro i m τ H ⟨rfl, hi, ⟨y, rfl⟩, hS, row, hF, hl, hO⟩
  by_cases hlt : i < n
  · refine .inr ⟨hlt, fun τ' H' => (∃ y, τ' = y :: rest) /\ Same H1 H' /\ ∃ row : List Int, H' acc = some (.lst (row.map V.int)) /\ row.length = i + 1 /\ ∀ k, k < i + 1 -> Ok k (row.getD k 0), fun τ' H' ⟨a, b, c⟩ => ⟨n - (i + 1), by omega, rfl, hlt, a, b, c⟩, fun x H' y => ?_⟩
    obtain ⟨rfl, rfl⟩ := y
    rw [Int.zero_add]
    simp only [q_name, q_True, List.set_cons_zero, q_iT, q_ifT]
    refine step i H' _ hlt hS fun x H2 hS2 hx => ?_
    have hF2 := hS2 _ _ hF
    refine ⟨_, hF2, ?_, ⟨_, rfl⟩, (hS.trans hS2).set hacc _, row ++ [x], ?_, by rw [List.length_append, hl]; rfl, fun k hk => ?_⟩
    · rw [List.length_map, hl]
      exact Nat.lt_of_lt_of_le (Nat.lt_of_lt_of_le hlt hn) (by decide)
    · rw [zq1, List.map_append]; rfl
    · by_cases e : k = i
      · subst e
        rw [<- hl, getD_snoc_eq, hl]; exact hx
      · rw [getD_snoc_lt (by omega)]; exact hO k (by omega)
  · have e : i = n := by omega
    subst e
    exact .inl ⟨Nat.le_refl _, fin acc row H hacc hS hF hl hO⟩
end L2
namespace L2
open PySem PySem.Spec PyProof.Rows KM
theorem atI_at {us : List V} {i : Nat} {v : V} (h : us[i]? = some v) : atI us (i : Int) = some v := by
  have hl := (List.getElem?_eq_some_iff.mp h).1
  have := atI_getD (xs := us) (i := (i : Int)) (k := i) rfl .non hl
  rw [this, List.getD_eq_getElem?_getD, h]; rfl
end L2
namespace L2
open PySem PySem.Spec PyProof.Rows KM
def rAny (K : Frag) : List V -> Hp -> VK -> Prop := fun xs H Q => ∃ (p : Addr) (bs : List Bool), xs = [.ref p] /\ SqL K H p (bs.map V.bl) /\ Q (.bl (bs.any id)) H
theorem vals_rev : ∀ {xs : List V} {its : List Value}, Vals xs its -> Vals xs.reverse its.reverse
  | [], _, .nil => .nil
  | _ :: _, _, .cons h t => by rw [List.reverse_cons, List.reverse_cons]; exact (vals_rev t).append (.cons h .nil)
section
variable {X : Cx} {K : Frag}
theorem call_anyK (hc : X.calm = true) (hK : X.K = K) : CallR X (.builtin "any") (rAny K) := by
  subst hK
  intro pins s σ H xs us Q I r h
  obtain ⟨p, bs, rfl, hq, q⟩ := h
  obtain ⟨u, rfl, rx⟩ := vals1 r
  cases rx
  obtain ⟨its, r', pl, hz⟩ := I.list hq
  have ei := vals_bl r'
  have hp : p < s.heap.objs.size := by obtain ⟨o, e, _⟩ := pl.isList; exact Heap.lt_size e
  refine PySem.call_any_walk (wpAny_pyIter_list pl.isList ?_)
  refine ⟨s.heap.objs.size, _, _, _, _, _, fun i => bs.getD i false, rfl, Walks.list (by simpa using I.ok.hd hc) s.heap.objs.size p (Nat.ne_of_lt hp) its.toArray, ⟨⟨_, Heap.get?_push_size _ rfl, rfl, rfl⟩, pl.isList.push _⟩, ?_, fun h' tk hk => ?_⟩
  · intro i v s' Q' E' hv hQ
    have hv : its[i]? = some v := by simpa using hv
    rw [ei, List.getElem?_map] at hv
    cases e : bs[i]? with
    | none => rw [e] at hv; cases hv
    | some b =>
      rw [e] at hv
      cases hv
      have hQ : Q' (bs.getD i false) s' := hQ
      rw [List.getD_eq_getElem?_getD, e] at hQ
      exact wpAny_truthy_bool hQ
  · have hl : its.toArray.size = bs.length := by rw [List.size_toArray, ei, List.length_map]
    have ea : (List.range its.toArray.size).any (fun i => bs.getD i false) = bs.any id := by
      rw [hl]
      apply Bool.eq_iff_iff.mpr
      simp only [List.any_eq_true, List.mem_range, id_eq]
      constructor
      · rintro ⟨k, hk, h⟩
        rw [List.getD_eq_getElem?_getD, List.getElem?_eq_getElem hk] at h
        exact ⟨_, List.getElem_mem hk, h⟩
      · rintro ⟨b, hb, h⟩
        obtain ⟨k, hk, e⟩ := List.getElem_of_mem hb
        refine ⟨k, hk, ?_⟩
        rw [List.getD_eq_getElem?_getD, List.getElem?_eq_getElem hk]
        show bs[k] = true
        rw [e]; exact h
    rw [ea]
    refine ⟨.bl _, H, I.kept fun b o e => hk b o ?_ (Heap.get?_push_of_some _ e), rfl, q⟩
    intro z
    have : b = s.heap.objs.size := by simpa using z
    subst this
    exact Nat.lt_irrefl _ (Heap.lt_size e)
variable {e st : Expr} {te ts : TE} {pos p2 : Pos}
end
end L2
namespace KM
def rg (n i : Nat) (s : Int) : Int := if i = n - 1 then s else 1 - s
end KM
namespace L2
open PySem PySem.Spec PyProof.Rows KM
section
variable {prog : Program} {w : World} {A : Around} {E : Value -> Shared -> Prop} {s : Shared}
end
section
variable {X : Cx} {N W G : List Str} {e a b tg : Expr} {t : TA} {p pos : Pos}
end
def spRG : Sp := fun vs H Q _ => ∃ (n i : Nat) (s : Int), vs = [.int n, .int i, .int s] /\ 1 <= n /\ Q (.int (rg n i s)) H
end L2
namespace L2
open PySem PySem.Spec PyProof.Rows KM
theorem lcEn {K : Frag} {a : Addr} {ns : List Int} {tc : TT} {te : TE} {rest : St} {Q : VK} {H1 : Hp} (keep : Nat -> Bool) (val : Nat -> Int) (h : SqT K H1 a (ns.map V.int)) (hn : ns.length < sizeLine)
    (step : ∀ i H (A : V -> Hp -> Prop) (B : Hp -> Prop), i < ns.length -> Same H1 H -> (keep i = true -> ∀ H', Same H H' -> A (.int (val i)) H') -> (keep i = false -> ∀ H', Same H H' -> B H') ->
      tc (some (.int (i : Int)) :: some (.int (ns.getD i 0)) :: rest) H fun b H3 => if b = true then te (some (.int (i : Int)) :: some (.int (ns.getD i 0)) :: rest) H3 A else B H3)
    (fin : ∀ acc H, H1 acc = none -> Same H1 H -> H acc = some (.lst ((((List.range ns.length).filter keep).map val).map V.int)) -> Q (.ref acc) H) :
    ∃ b, [V.ref a] = [.ref b] /\ (∃ xs, SqT K H1 b xs) /\ rLC (gTup K 2 (gCons (gName 0) (gCons (gName 1) gNil))) tc te (none :: none :: rest) Q (Ite K b) H1 := by
  refine ⟨a, rfl, ⟨_, h⟩, fun acc hacc => ?_⟩
  refine ⟨fun i m τ H => m = ns.length - i /\ i <= ns.length /\ (∃ y z, τ = y :: z :: rest) /\ Same H1 H /\ H acc = some (.lst ((((List.range i).filter keep).map val).map V.int)), ⟨ns.length, by simp, Nat.zero_le _, ⟨_, _, rfl⟩, Same.new hacc _, zq1⟩, ?_⟩
  rintro i m τ H ⟨rfl, hi, ⟨y, z, rfl⟩, hS, hF⟩
  have q1 := hS.seqT h
  by_cases hlt : i < ns.length
  · have hx : (ns.map V.int)[i]? = some (.int (ns.getD i 0)) := by
      rw [List.getElem?_map, List.getElem?_eq_getElem hlt, List.getD_eq_getElem?_getD, List.getElem?_eq_getElem hlt]; rfl
    refine .inr ⟨⟨_, _, q1, hx⟩, fun τ' H' => (∃ y z, τ' = y :: z :: rest) /\ Same H1 H' /\ H' acc = some (.lst ((((List.range (i + 1)).filter keep).map val).map V.int)), fun τ' H' ⟨u, v, w⟩ => ⟨ns.length - (i + 1), by omega, rfl, hlt, u, v, w⟩, fun x H' y => ?_⟩
    obtain ⟨t, v, hn', rfl, rfl, hv⟩ := y
    have := hv _ q1
    rw [hx] at this; cases this
    have sp := Same.new hn' (.tup [.int (i : Int), .int (ns.getD i 0)])
    refine ⟨t, _, rfl, SqT.of zq1, rfl, _, _, rfl, _, _, rfl, rfl, ?_⟩
    simp only [List.set_cons_zero, List.set_cons_succ]
    have hlen : (((List.range i).filter keep).map val).length <= i := by
      have := List.length_filter_le keep (List.range i)
      rw [List.length_range] at this
      rw [List.length_map]; exact this
    refine step i _ _ _ hlt (hS.trans sp) (fun hk H2 hS2 => ?_) fun hk H2 hS2 => ?_
    · have hF2 := hS2 _ _ (sp _ _ hF)
      refine ⟨_, hF2, ?_, ⟨_, _, rfl⟩, ((hS.trans sp).trans hS2).set hacc _, ?_⟩
      · rw [List.length_map]; omega
      · rw [zq1, List.range_succ, List.filter_append, List.map_append, List.map_append]
        simp [hk]
    · refine ⟨⟨_, _, rfl⟩, (hS.trans sp).trans hS2, ?_⟩
      rw [hS2 _ _ (sp _ _ hF), List.range_succ, List.filter_append, List.map_append, List.map_append]
      simp [hk]
  · have e : i = ns.length := by omega
    subst e
    exact .inl ⟨⟨_, q1, by rw [List.length_map]; exact Nat.le_refl _⟩, fin acc H hacc hS hF⟩
section
variable {ex : Addr} {H H' : Hp}
end
end L2
namespace L2
open PySem PySem.Spec PyProof.Rows KM
def kd (b : Bool) : Str := if b then "ring" else "circle"
theorem kd_ring (b : Bool) : decide (kd b = "ring") = b := by cases b <;> decide
def GL (K : Frag) (H : Hp) : List V -> List (Bool × List Nat) -> Prop
  | [], [] => True
  | v :: vs, g :: L => (∃ r p, v = .ref r /\ SqT K H r [.str (kd g.1), .ref p] /\ SqT K H p ((asI g.2).map V.int)) /\ GL K H vs L
  | _, _ => False
section
variable {K : Frag} {H H' : Hp}
theorem GL.append : ∀ {vs ws : List V} {L M : List (Bool × List Nat)}, GL K H vs L -> GL K H ws M -> GL K H (vs ++ ws) (L ++ M)
  | [], _, [], _, _, h => h
  | _ :: _, _, _ :: _, _, ⟨a, t⟩, h => ⟨a, GL.append t h⟩
  | [], _, _ :: _, _, h, _ => h.elim
  | _ :: _, _, [], _, h, _ => h.elim
theorem GL.length : ∀ {vs : List V} {L : List (Bool × List Nat)}, GL K H vs L -> vs.length = L.length
  | [], [], _ => rfl
  | _ :: _, _ :: _, ⟨_, t⟩ => by rw [List.length_cons, List.length_cons, GL.length t]
  | [], _ :: _, h => h.elim
  | _ :: _, [], h => h.elim
theorem GL.take : ∀ {vs : List V} {L : List (Bool × List Nat)} (k : Nat), GL K H vs L -> GL K H (vs.take k) (L.take k)
  | [], [], k, _ => by rw [List.take_nil, List.take_nil]; trivial
  | _ :: _, _ :: _, 0, _ => trivial
  | _ :: _, _ :: _, k + 1, ⟨a, t⟩ => ⟨a, GL.take k t⟩
  | [], _ :: _, _, h => h.elim
  | _ :: _, [], _, h => h.elim
end
def pk (cs : List Int) (l : List Nat) : List Int := l.map fun i => cs.getD i 0
structure GrOk (n : Nat) (g : Bool × List Nat) : Prop where
  lt : ∀ i ∈ g.2, i < n
  len : g.2.length <= 8
theorem pk_ok {cs : List Int} (h : CsOk cs) {g : Bool × List Nat} (hg : GrOk cs.length g) : CsOk (pk cs g.2) := by
  refine ⟨fun c hc => ?_, by unfold pk; rw [List.length_map]; exact hg.len⟩
  obtain ⟨i, hi, e⟩ := List.mem_map.mp hc
  rw [<- e]; exact h.get (hg.lt i hi)
theorem pk_len {cs : List Int} {l : List Nat} : (pk cs l).length = l.length := by unfold pk; rw [List.length_map]
theorem pk_get {cs : List Int} {l : List Nat} {k : Nat} (h : k < l.length) : (pk cs l).getD k 0 = cs.getD (l.getD k 0) 0 := by
  unfold pk
  rw [List.getD_eq_getElem?_getD, List.getElem?_map, List.getElem?_eq_getElem h, List.getD_eq_getElem?_getD (l := l), List.getElem?_eq_getElem h]; rfl
def spPicked (K : Frag) : Sp := fun vs H Q _ => ∃ (c p : Addr) (cs : List Int) (l : List Nat), vs = [.ref c, .ref p] /\ SqT K H c (cs.map V.int) /\ SqT K H p ((asI l).map V.int) /\ (∀ i ∈ l, i < cs.length) /\ l.length <= 8 /\ ∀ (t : Addr) (H' : Hp), Same H H' -> H' t = some (.tup ((pk cs l).map V.int)) -> Q (.ref t) H'
def spDraw : Sp := fun vs H Q _ => ∃ a b : Int, vs = [.int a, .int b] /\ 0 <= b /\ b <= 1000000 /\ ∀ r : Nat, r < 2147483648 -> Q (.int r) H
theorem zj6 {a b : Int} {H : Hp} {Q : VK} {E : XK} (hb : 0 <= b /\ b <= 1000000) (h : ∀ r : Nat, r < 2147483648 -> Q (.int r) H) : spDraw [.int a, .int b] H Q E := ⟨a, b, rfl, hb.1, hb.2, h⟩
theorem perm_asI {ms : List Int} {row : List Nat} (h : ms.Perm (asI row)) : ∃ so : List Nat, ms = asI so /\ so.Perm row := by
  refine ⟨ms.map Int.toNat, ?_, ?_⟩
  · have key : ∀ x ∈ ms, ((x.toNat : Nat) : Int) = x := fun x hx => by
      obtain ⟨n, _, e⟩ := List.mem_map.mp (h.mem_iff.mp hx)
      rw [<- e]; rfl
    unfold asI
    rw [List.map_map]
    exact ((List.map_congr_left (f := (fun (m : Nat) => (m : Int)) ∘ Int.toNat) (g := id) (fun x hx => key x hx)).trans (List.map_id ms)).symm
  · have := h.map Int.toNat
    have e : (asI row).map Int.toNat = row := by
      unfold asI
      rw [List.map_map]
      exact (List.map_congr_left (f := Int.toNat ∘ fun (m : Nat) => (m : Int)) (g := id) (fun x _ => Int.toNat_natCast x)).trans (List.map_id row)
    rw [e] at this
    exact this
section
variable {prog : Program} {w : World} {A : Around} {E : Value -> Shared -> Prop} {s : Shared}
end
end L2
namespace L2
open PySem PySem.Spec PyProof.Rows KM
section
variable {prog : Program} {w : World} {A : Around} {E : Value -> Shared -> Prop} {s : Shared}
end
theorem GrOk.all (n : Nat) (h : n <= 8) : GrOk n (false, List.range n) := ⟨fun i hi => List.mem_range.mp hi, by show (List.range n).length <= 8; rw [List.length_range]; exact h⟩
end L2
namespace KM
end KM
namespace KM
def pkN (cs : List Int) (l : List Nat) : List Int := l.map fun i => cs.getD i 0
def gin (cs hs : List Int) (g : Bool × List Nat) (i : Nat) : Int := if g.1 then rg g.2.length (g.2.idxOf i) (hs.getD (g.2.getD ((g.2.idxOf i + 1) % g.2.length) 0) 0) else cg (pkN cs g.2) (pkN hs g.2) (g.2.idxOf i)
def ggu (cs : List Int) (L : List (Bool × List Nat)) (hs : List Int) (i : Nat) : Int := match L.find? (fun g => decide (i ∈ g.2)) with
  | none => 0
  | some g => gin cs hs g i
structure GOk (cs : List Int) (ws : List Nat) (g : Bool × List Nat) : Prop where
  lt : ∀ x ∈ g.2, x < cs.length
  nd : g.2.Nodup
  ring : g.1 = true -> 2 <= g.2.length /\ (∀ x ∈ g.2, cs.getD x 0 = 2) /\ ∀ k, k < g.2.length -> see ws (g.2.getD k 0) (g.2.getD ((k + 1) % g.2.length) 0) = true
  circ : g.1 = false -> ∀ x ∈ g.2, ∀ y ∈ g.2, x ≠ y -> see ws x y = true
structure GsOk (cs : List Int) (ws : List Nat) (L : List (Bool × List Nat)) : Prop where
  each : ∀ g ∈ L, GOk cs ws g
  disj : L.Pairwise fun g h => ∀ x ∈ g.2, x ∉ h.2
theorem idxN {l : List Nat} {k : Nat} (hd : l.Nodup) (h : k < l.length) : l.idxOf (l.getD k 0) = k := by
  rw [List.getD_eq_getElem?_getD, List.getElem?_eq_getElem h]; exact hd.idxOf_getElem k h
theorem getIdx {l : List Nat} {x : Nat} (h : x ∈ l) : l.getD (l.idxOf x) 0 = x := by
  have hlt := List.idxOf_lt_length_of_mem h
  rw [List.getD_eq_getElem?_getD, List.getElem?_eq_getElem hlt]; exact List.getElem_idxOf hlt
end KM
namespace L2
open PySem PySem.Spec PyProof.Rows KM
section
variable {prog : Program} {w : World} {A : Around} {E : Value -> Shared -> Prop} {s : Shared}
end
section
variable {prog : Program} {w : World} {A : Around} {R : Result -> Shared -> Prop} {I S : Addr} {fp wr : List Addr} {n : Nat} {P : Nat -> Value -> Prop} {St : Nat -> Heap -> Prop} {B : Heap -> Prop} {bt : Nat -> Nat -> Bool}
end
section
variable {K : Frag} {H H' : Hp}
end
end L2
namespace L2
open PySem PySem.Spec PyProof.Rows KM
theorem intsAre_get : ∀ {vs : List Value} {ns : List Int}, IntsAre vs ns -> ∀ i, i < ns.length -> ∃ u, vs[i]? = some (.int (ns.getD i 0) u)
  | _, _, .nil, i, h => absurd h (Nat.not_lt_zero i)
  | _, _, .cons n t _, 0, _ => ⟨t, rfl⟩
  | _, _, .cons n t r, i + 1, h => by
    obtain ⟨u, e⟩ := intsAre_get r i (by simpa using h)
    exact ⟨u, by simpa using e⟩
section
variable {prog : Program} {w : World} {A : Around} {E : Value -> Shared -> Prop} {s : Shared}
theorem call_tuple_index {p : Addr} {vs : List Value} {ns : List Int} {k : Int} {t : Tok} {Q : Value -> Shared -> Prop} (hp : s.heap.IsTuple p vs.toArray) (hi : IntsAre vs ns) (hk : k ∈ ns) (q : ∀ tk, Q (.int (ns.idxOf k : Nat) tk) { s with toks := s.toks + 1 }) :
    wpAny (model prog w) A (call (.builtin "tuple.index") [.ref p, .int k t]) Q E s := by
  obtain ⟨o, e0, ec, n, ed⟩ := id hp
  refine wpAny_call_entry F.slot_tuple_index hp.typeIs F.entry_tuple_index ?_ (F.args_tuple_index_2 _ _)
  unfold Builtin.«tuple.index»
  refine wpAny_bind (wpAny_of_eq (a := (Value.ref p, [Value.int k t])) rfl ?_)
  dsimp only
  have hlen := hi.length
  have hlt : ns.idxOf k < ns.length := List.idxOf_lt_length_iff.mpr hk
  have hat := intsAre_get hi
  unfold Builtin.Tuple.tupleItemsOf
  refine wpAny_bind (wpAny_bind (wpAny_seqItems e0 ed (wpAny_pure (wpAny_bind (wpAny_pure (wpAny_bind (wpAny_pure (wpAny_bind ?_))))))))
  rw [Std.Legacy.Range.forIn_eq_forIn_range']
  have loop : ∀ (m i : Nat) (R : Option Fin × Unit -> Shared -> Prop), i + m = vs.length -> i <= ns.idxOf k -> R (some (.done (.ret (.int (ns.idxOf k : Nat) s.toks))), ()) { s with toks := s.toks + 1 } ->
      wpAny (model prog w) A.in1 (forIn (List.range' i m) ((none, ()) : Option Fin × Unit) fun (i : Nat) __s =>
        match vs.toArray[i]? with
        | some y => do
          let __do_lift <- eqBool y (Value.int k t)
          if __do_lift = true then do
              let __do_lift <- retInt ((i : Nat) : Int)
              pure (ForInStep.done (some __do_lift, ()))
            else pure (ForInStep.yield (none, ()))
        | x => pure (ForInStep.yield (none, ()))) R E s := by
    intro m
    induction m with
    | zero => intro i R h1 h2 _; omega
    | succ m ih =>
      intro i R h1 h2 hR
      obtain ⟨u, hu⟩ := hat i (by omega)
      rw [List.range'_succ, List.forIn_cons]
      have hu' : vs.toArray[i]? = some (.int (ns.getD i 0) u) := by simpa using hu
      simp only [hu']
      refine wpAny_bind (wpAny_bind (wpAny_eqBool_int ?_))
      by_cases e : i = ns.idxOf k
      · have ev : (ns.getD i 0 == k) = true := by
          rw [e, List.getD_eq_getElem?_getD, List.getElem?_eq_getElem hlt]
          show (ns[ns.idxOf k] == k) = true
          rw [List.getElem_idxOf hlt, beq_self_eq_true]
        rw [ev, if_pos rfl]
        unfold retInt
        refine wpAny_bind (wpAny_bind (wpAny_mkInt (wpAny_pure (wpAny_pure (wpAny_pure ?_)))))
        rw [e]
        exact hR
      · have ev : (ns.getD i 0 == k) = false := by
          rw [List.getD_eq_getElem?_getD, List.getElem?_eq_getElem (by omega)]
          exact ne_of_lt_idxOf (show i < ns.idxOf k by omega) (by omega)
        rw [ev, if_neg (by decide)]
        exact wpAny_pure (ih (i + 1) R (by omega) (by omega) hR)
  have hsz : (([: min vs.toArray.size vs.toArray.size] : Std.Legacy.Range)).size = vs.length := by simp [Std.Legacy.Range.size]
  rw [hsz]
  exact loop vs.length 0 _ (by omega) (Nat.zero_le _) (wpAny_pure ⟨_, rfl, q _⟩)
end
def rIndexT (K : Frag) : V -> List V -> Hp -> VK -> Prop := fun x vs H Q => ∃ (l : Addr) (ns : List Int) (k : Int), x = .ref l /\ vs = [.int k] /\ SqT K H l (ns.map V.int) /\ k ∈ ns /\ Q (.int (ns.idxOf k : Nat)) H
theorem mt_tindexK {X : Cx} {K : Frag} (hK : X.K = K) : MtR X "tuple.index" (rIndexT K) := by
  subst hK
  intro pins s σ H x vs v us Q I rx rv h
  obtain ⟨l, ns, k, rfl, rfl, hl, hk, q⟩ := h
  cases rx
  obtain ⟨u, rfl, ru⟩ := rv.one
  obtain ⟨t, rfl⟩ := ru
  obtain ⟨its, r, pl, hz⟩ := I.tuple hl
  exact call_tuple_index (show s.heap.IsTuple l its.toArray from pl) (intsAre_of r) hk (Q := EP X pins σ Q) fun tk => ⟨.int _, H, I.tok _, ⟨_, rfl⟩, q⟩
def InvGg (K : Frag) (H0 : Hp) (c g h : Addr) (L : List (Bool × List Nat)) (i : Nat) (k : Nat) (σ : St) (H : Hp) : Prop := Same H0 H /\ (∀ t, t < k -> ∀ x, L[t]? = some x -> i ∉ x.2) /\ ∃ y1 y2 y3 : Option V, σ = [some (.ref c), some (.ref g), some (.ref h), some (.int (i : Int)), y1, y2, y3]
theorem find_noneG {L : List (Bool × List Nat)} {i : Nat} (h : ∀ t, t < L.length -> ∀ x, L[t]? = some x -> i ∉ x.2) : L.find? (fun g => decide (i ∈ g.2)) = none := by
  rw [List.find?_eq_none]
  intro g hg
  obtain ⟨t, ht, e⟩ := List.getElem_of_mem hg
  rw [decide_eq_true_eq]
  exact h t ht g (by rw [List.getElem?_eq_getElem ht, e])
theorem find_first {L : List (Bool × List Nat)} {i k : Nat} {g : Bool × List Nat} (h : ∀ t, t < k -> ∀ x, L[t]? = some x -> i ∉ x.2) (hk : L[k]? = some g) (hi : i ∈ g.2) : L.find? (fun g => decide (i ∈ g.2)) = some g := by
  induction L generalizing k with
  | nil => simp at hk
  | cons a r ih =>
    cases k with
    | zero =>
      simp at hk
      subst hk
      rw [List.find?_cons, decide_eq_true hi]
    | succ k =>
      have h0 := h 0 (Nat.succ_pos k) a rfl
      rw [List.find?_cons, decide_eq_false h0]
      exact ih (k := k) (fun t ht x hx => h (t + 1) (by omega) x (by simpa using hx)) (by simpa using hk)
theorem hsOk_pk {cs hs : List Int} {l : List Nat} (hcs : CsOk cs) (hn : HN cs hs cs.length) (hl : ∀ x ∈ l, x < cs.length) : HsOk (pk cs l) (pk hs l) := by
  refine ⟨by rw [pk_len, pk_len], fun j hj => ?_⟩
  rw [pk_len] at hj
  rw [pk_get hj]
  have hx := hl _ (getD_memN hj)
  have hv := hn.2 _ hx
  exact (hcs.get hx).bt.of_le hv.1 (by omega)
end L2
namespace L2
open PySem PySem.Spec PyProof.Rows KM
def TyT (K : Frag) (H : Hp) (p : Addr) : Prop := (∃ o, K.lookup p = some o /\ o.cls = .type "tuple" /\ o.dict = none) ∨ ∃ o u, H p = some (.frz o u) /\ o.cls = .type "tuple" /\ o.dict = none
theorem TyT.mono {K : Frag} {H H' : Hp} {p : Addr} (s : Same H H') : TyT K H p -> TyT K H' p
  | .inl h => .inl h
  | .inr ⟨o, u, h, c⟩ => .inr ⟨o, u, s _ _ h, c⟩
theorem TyT.updL {K : Frag} {H : Hp} {p acc : Addr} {ys : List V} {o : HO} (ha : H acc = some (.lst ys)) : TyT K H p -> TyT K (upd H acc o) p
  | .inl h => .inl h
  | .inr ⟨ob, u, h, c⟩ => .inr ⟨ob, u, by rw [zj4 (ne_of h ha fun z => nomatch z)]; exact h, c⟩
section
variable {X : Cx} {K : Frag}
theorem tyT_is {pins : List (Addr × Obj)} {σ : St} {H : Hp} {s : Shared} {p : Addr} (I : Inv X pins σ H s) (ty : TyT X.K H p) : s.TypeIs (.ref p) "tuple" /\ ∀ a, Value.ref p = .ref a -> ∃ ob, s.heap.get? a = some ob /\ ob.dict = none := by
  rcases ty with ⟨o, hk, hc, hd⟩ | ⟨o, u, hk, hc, hd⟩
  · refine ⟨⟨o, I.kIn p o hk, hc⟩, fun a e => ?_⟩
    cases e
    exact ⟨o, I.kIn _ o hk, hd⟩
  · obtain ⟨e0, _⟩ := I.hok p _ hk
    refine ⟨⟨o, e0, hc⟩, fun a e => ?_⟩
    cases e
    exact ⟨o, e0, hd⟩
def tBMT (K : Frag) (r : V -> List V -> Hp -> VK -> Prop) (to : TE) (t : TA) : TE := fun σ H Q => to σ H fun x H1 => (∃ p, x = .ref p /\ TyT K H1 p) /\ t σ H1 fun xs H2 => r x xs H2 Q
theorem q_BMT {r : V -> List V -> Hp -> VK -> Prop} {to : TE} {t : TA} {σ : St} {H : Hp} {Q : VK} : tBMT K r to t σ H Q = to σ H fun x H1 => (∃ p, x = .ref p /\ TyT K H1 p) /\ t σ H1 fun xs H2 => r x xs H2 Q := rfl
variable {o e : Expr} {es : List Expr} {to : TE} {t : TA} {name : Str} {apos cpos : Pos} {id : String} {r : V -> List V -> Hp -> VK -> Prop}
theorem pe_bmT (pa : PlainAttrs "tuple") (slot : Slot "tuple" name id) (hty : typeOf (.builtin id) = pure (.type "method_descriptor")) (hm : MtR X id r) (ho : PE X o to) (ha : PA X (e :: es) t)
    (hbase : attributeBase o name X.env (eval o X.env) = eval o X.env := by rfl)
    (hfew : ((backTo cpos (starEach (e :: es) X.env)).all (fun x => !x.1) && (backToKw cpos (keywordEach [] X.env)).all (fun x => x.1.isSome)
      && decide ((e :: es).length + ([] : List Keyword).length + (if ([] : List Keyword).isEmpty then 0 else 1) < 30)) = true := by rfl)
    (hline : (apos.endLine == cpos.line) = true := by rfl) (hs : starEach (e :: es) X.env = (false, eval e X.env) :: starEach es X.env := by rfl) (hplain : (backTo cpos (starEach es X.env)).any (·.1) = false := by rfl) :
    PE X (.Call (.Attribute o name apos) (e :: es) [] cpos) (tBMT X.K r to t) := by
  intro pins s σ H Q I h
  refine wpAny_Call_method_late hbase hfew hline rfl (thn (ho pins s σ H _ I h) fun v s1 ⟨x, H1, I1, r1, ⟨p, ep, ty⟩, q1⟩ => ?_)
  subst ep
  cases r1
  obtain ⟨h1, h2⟩ := tyT_is I1 ty
  refine ⟨"tuple", id, pa, slot, hty, h1, h2, ?_⟩
  have hA := ha cpos pins s1 σ H1 _ I1 q1
  rw [hs] at hA ⊢
  refine Calls.callWith_builtin (by show (false || (backTo cpos (starEach es X.env)).any (·.1)) = false; rw [hplain] <;> rfl) (Calls.evalArgs_plain ?_)
  exact thn hA fun us s2 ⟨vs, H2, I2, r2, q2⟩ => hm pins s2 σ H2 (.ref p) vs (.ref p) us Q I2 rfl r2 q2
theorem kmT (pa : PlainAttrs "tuple") (slot : Slot "tuple" name id) (hty : typeOf (.builtin id) = pure (.type "method_descriptor")) (hm : MtR X id r) (h : X.K = K) (ho : QE X o to) (ha : QB X (e :: es) t)
    (hbase : attributeBase o name X.env (eval o X.env) = eval o X.env := by rfl) (hlen : decide ((e :: es).length < 30) = true := by rfl)
    (hline : (apos.endLine == cpos.line) = true := by rfl) : QE X (.Call (.Attribute o name apos) (e :: es) [] cpos) (tBMT K r to t) := by
  subst h
  exact ⟨pe_bmT pa slot hty hm ho.h ha.h.pa hbase (by rw [plainA_of ha.h.ns]; exact hlen) hline (zj8 ha.h.he) (plain_of ha.h.hes)⟩
end
def rTupF (K : Frag) : List V -> Hp -> VK -> Prop := fun xs H Q => ∃ p ys, xs = [.ref p] /\ SqL K H p ys /\ ∀ l o, H l = none -> o.cls = .type "tuple" -> o.dict = none -> Q (.ref l) (upd H l (.frz o (.tup ys)))
theorem call_tupFK {X : Cx} {K : Frag} (hK : X.K = K) : CallR X (.type "tuple") (rTupF K) := by
  subst hK
  intro pins s σ H xs us Q I r h
  obtain ⟨p, ys, rfl, hq, q⟩ := h
  obtain ⟨u, rfl, rx⟩ := vals1 r
  cases rx
  obtain ⟨its, r', pl, hz⟩ := I.list hq
  have hlen := r'.length
  refine call_tuple_list pl.isList (fun h' kp => ?_) (by simp only [List.size_toArray] <;> omega)
  have I1 : Inv X pins σ H { s with heap := h' } := I.kept (t' := s.toks) kp
  have I2 : Inv X pins σ (upd H h'.objs.size (.frz { cls := .type "tuple", data := .seq its.toArray } (.tup ys))) { s with heap := h'.push { cls := .type "tuple", data := .seq its.toArray } } :=
    I1.laid (t' := s.toks) (fun b o e => Heap.get?_push_of_some _ e) (Nat.le_refl _) (show ObjOk X.prog X.w _ _ _ (.frz _ (.tup ys)) from ⟨Heap.get?_push_size _ rfl, hz, its, r', IsTup.new _ _⟩)
  exact ⟨.ref h'.objs.size, _, I2, rfl, q _ _ (I1.hok.fresh (Nat.le_refl _)) rfl rfl⟩
theorem SqT.frz {K : Frag} {H : Hp} {a : Addr} {o : Obj} {xs : List V} (h : H a = some (.frz o (.tup xs))) : SqT K H a xs := .inl (.inr ⟨o, h⟩)
def GF (K : Frag) (H : Hp) : List V -> List (Bool × List Nat) -> Prop
  | [], [] => True
  | v :: vs, g :: L => (∃ r p, v = .ref r /\ SqT K H r [.str (kd g.1), .ref p] /\ SqT K H p ((asI g.2).map V.int) /\ TyT K H p) /\ GF K H vs L
  | _, _ => False
section
variable {K : Frag} {H H' : Hp}
theorem GF.gl : ∀ {vs : List V} {L : List (Bool × List Nat)}, GF K H vs L -> GL K H vs L
  | [], [], h => h
  | _ :: _, _ :: _, ⟨⟨r, p, e, h, h2, _⟩, t⟩ => ⟨⟨r, p, e, h, h2⟩, GF.gl t⟩
  | [], _ :: _, h => h.elim
  | _ :: _, [], h => h.elim
theorem GF.mono (s : Same H H') : ∀ {vs : List V} {L : List (Bool × List Nat)}, GF K H vs L -> GF K H' vs L
  | [], [], h => h
  | _ :: _, _ :: _, ⟨⟨r, p, e, h, h2, h3⟩, t⟩ => ⟨⟨r, p, e, s.seqT h, s.seqT h2, h3.mono s⟩, GF.mono s t⟩
  | [], _ :: _, h => h.elim
  | _ :: _, [], h => h.elim
theorem GF.updL {acc : Addr} {ys : List V} {o : HO} (ha : H acc = some (.lst ys)) : ∀ {vs : List V} {L : List (Bool × List Nat)}, GF K H vs L -> GF K (upd H acc o) vs L
  | [], [], h => h
  | _ :: _, _ :: _, ⟨⟨r, p, e, h, h2, h3⟩, t⟩ => ⟨⟨r, p, e, h.updL ha, h2.updL ha, h3.updL ha⟩, GF.updL ha t⟩
  | [], _ :: _, h => h.elim
  | _ :: _, [], h => h.elim
theorem GF.append : ∀ {vs ws : List V} {L M : List (Bool × List Nat)}, GF K H vs L -> GF K H ws M -> GF K H (vs ++ ws) (L ++ M)
  | [], _, [], _, _, h => h
  | _ :: _, _, _ :: _, _, ⟨a, t⟩, h => ⟨a, GF.append t h⟩
  | [], _, _ :: _, _, h, _ => h.elim
  | _ :: _, _, [], _, h, _ => h.elim
theorem GF.length {vs : List V} {L : List (Bool × List Nat)} (h : GF K H vs L) : vs.length = L.length := h.gl.length
theorem GF.get : ∀ {vs : List V} {L : List (Bool × List Nat)} {i : Nat} {v : V}, GF K H vs L -> vs[i]? = some v -> ∃ g r p, L[i]? = some g /\ v = .ref r /\ SqT K H r [.str (kd g.1), .ref p] /\ SqT K H p ((asI g.2).map V.int) /\ TyT K H p
  | [], [], i, v, _, e => by simp at e
  | _ :: _, g :: _, 0, v, ⟨⟨r, p, e, h, h2⟩, _⟩, e2 => by simp at e2; subst e2; exact ⟨g, r, p, rfl, e, h, h2⟩
  | _ :: _, _ :: _, i + 1, v, ⟨_, t⟩, e2 => by
    obtain ⟨g, r, p, a, b⟩ := GF.get (i := i) (v := v) t (by simpa using e2)
    exact ⟨g, r, p, by simpa using a, b⟩
  | [], _ :: _, _, _, h, _ => h.elim
  | _ :: _, [], _, _, h, _ => h.elim
end
theorem forPTF {K : Frag} {a : Addr} {us : List V} {L : List (Bool × List Nat)} {i0 j0 : Nat} {tb : TS} {D : Ends} {σ : St} {H : Hp} (I : Nat -> St -> Hp -> Prop) (h : SqT K H a us) (hL : GF K H us L) (h0 : I 0 σ H) (hl : ∀ i σ H, I i σ H -> SqT K H a us /\ GF K H us L)
    (step : ∀ (i : Nat) g p σ H, L[i]? = some g -> SqT K H p ((asI g.2).map V.int) -> TyT K H p -> I i σ H -> tb { D with nx := I (i + 1), ct := I (i + 1), bk := D.nx } ((σ.set i0 (some (.str (kd g.1)))).set j0 (some (.ref p))) H)
    (fin : ∀ σ H, I L.length σ H -> D.nx σ H) : ∃ b, V.ref a = .ref b /\ (∃ xs, SqT K H b xs) /\ rFor (gTup K 2 (gCons (gName i0) (gCons (gName j0) gNil))) tb D σ (Itt K b) H := by
  refine ⟨a, rfl, ⟨_, h⟩, for_tup (xs := us) I h0 (fun i σ H _ p => (hl i σ H p).1) (fun i x σ H e p => ?_) fun σ H p => fin σ H (by rw [hL.length] at p; exact p)⟩
  obtain ⟨g, r, pp, hgi, rfl, hr, hp, ht⟩ := (hl i σ H p).2.get e
  exact ⟨r, _, rfl, hr, rfl, _, _, rfl, _, _, rfl, rfl, step i g pp σ H hgi hp ht p⟩
def spGG (K : Frag) : Sp := fun vs H Q _ => ∃ (c g h : Addr) (cs hs : List Int) (ws : List Nat) (us : List V) (L : List (Bool × List Nat)) (i : Nat), vs = [.ref c, .ref g, .ref h, .int i] /\ SqT K H c (cs.map V.int) /\ SqT K H g us /\ GF K H us L /\ SqT K H h (hs.map V.int) /\ CsOk cs /\ HN cs hs cs.length /\ GsOk cs ws L /\ i < cs.length /\ ∀ (H' : Hp), Same H H' -> Q (.int (ggu cs L hs i)) H'
end L2
namespace L2
open PySem PySem.Spec PyProof.Rows KM
theorem getD_setN {l : List Nat} {x y v : Nat} (h : x < l.length) : (l.set x v).getD y 0 = if y = x then v else l.getD y 0 := by
  rw [List.getD_eq_getElem?_getD, List.getElem?_set]
  by_cases e : x = y
  · subst e
    rw [if_pos rfl, if_pos rfl, if_pos h]; rfl
  · rw [if_neg e, if_neg (Ne.symm e), List.getD_eq_getElem?_getD]
structure Grow (ws ws' : List Nat) : Prop where
  ok : WebOk ws'
  len : ws'.length = ws.length
  more : ∀ i j, see ws i j = true -> see ws' i j = true
theorem Grow.refl {ws : List Nat} (h : WebOk ws) : Grow ws ws := ⟨h, rfl, fun _ _ z => z⟩
theorem see_or {ws : List Nat} {x m : Nat} (hx : x < ws.length) (i j : Nat) : see (ws.set x (ws.getD x 0 ||| m)) i j = (see ws i j || (decide (i = x) && m.testBit j)) := by
  unfold see
  rw [getD_setN hx]
  by_cases e : i = x
  · subst e
    rw [if_pos rfl, Nat.testBit_or, decide_eq_true rfl, Bool.true_and]
  · rw [if_neg e, decide_eq_false e, Bool.false_and, Bool.or_false]
theorem Grow.put {ws0 ws : List Nat} {x m : Nat} (h : Grow ws0 ws) (hx : x < ws.length) (hm : ∀ j, m.testBit j = true -> j < ws.length /\ j ≠ x) : Grow ws0 (ws.set x (ws.getD x 0 ||| m)) := by
  have hlt : m < 2 ^ ws.length := Nat.lt_pow_two_of_testBit m fun i hi => by
    cases e : m.testBit i with
    | false => rfl
    | true => have := (hm i e).1; omega
  refine ⟨⟨fun i hi => ?_, fun i hi => ?_⟩, by rw [List.length_set, h.len], fun i j z => ?_⟩
  · rw [List.length_set] at hi ⊢
    rw [getD_setN hx]
    split
    · exact Nat.or_lt_two_pow (h.ok.lt x hx) hlt
    · exact h.ok.lt i hi
  · rw [List.length_set] at hi
    rw [see_or hx, h.ok.self i hi, Bool.false_or]
    cases e : (decide (i = x) && m.testBit i) with
    | false => rfl
    | true =>
      rw [Bool.and_eq_true, decide_eq_true_eq] at e
      exact absurd e.1 (hm i e.2).2
  · rw [see_or hx, h.more i j z, Bool.true_or]
theorem GOk.grow {cs : List Int} {ws ws' : List Nat} {g : Bool × List Nat} (h : GOk cs ws g) (w : Grow ws ws') : GOk cs ws' g :=
  ⟨h.lt, h.nd, fun e => ⟨(h.ring e).1, (h.ring e).2.1, fun k hk => w.more _ _ ((h.ring e).2.2 k hk)⟩, fun e x hx y hy n => w.more _ _ (h.circ e x hx y hy n)⟩
theorem SqT.off {K : Frag} {w r : Addr} {H H' : Hp} {xs ys : List V} (s : Off w H H') (hw : H w = some (.lst ys)) (h : SqT K H r xs) : SqT K H' r xs := by
  rcases h with (h | ⟨o, h⟩) | h
  · exact .inl (.inl (s _ _ (ne_of h hw fun z => nomatch z) h))
  · exact .inl (.inr ⟨o, s _ _ (ne_of h hw fun z => nomatch z) h⟩)
  · exact .inr h
theorem TyT.off {K : Frag} {w r : Addr} {H H' : Hp} {ys : List V} (s : Off w H H') (hw : H w = some (.lst ys)) (h : TyT K H r) : TyT K H' r := by
  rcases h with h | ⟨o, u, h, c⟩
  · exact .inl h
  · exact .inr ⟨o, u, s _ _ (ne_of h hw fun z => nomatch z) h, c⟩
theorem GF.off {K : Frag} {w : Addr} {H H' : Hp} {ys : List V} (s : Off w H H') (hw : H w = some (.lst ys)) : ∀ {vs : List V} {L : List (Bool × List Nat)}, GF K H vs L -> GF K H' vs L
  | [], [], h => h
  | _ :: _, _ :: _, ⟨⟨r, p, e, h, h2, h3⟩, t⟩ => ⟨⟨r, p, e, h.off s hw, h2.off s hw, h3.off s hw⟩, GF.off s hw t⟩
  | [], _ :: _, h => h.elim
  | _ :: _, [], h => h.elim
theorem Same.off {w : Addr} {H0 H H' : Hp} (a : Same H0 H) (hw : H0 w = none) (s : Off w H H') : Same H0 H' := fun b o h => s b o (zj0 h hw) (a b o h)
theorem row_sum {row : List Nat} (v : Nat) : (((List.range (asI row).length).filter fun j => !decide (row.getD j 0 = v)).map fun j => ((2 ^ row.getD j 0 : Nat) : Int)).sum = ((mask (row.filter fun x => !decide (x = v)) : Nat) : Int) := by
  have e : row = (List.range row.length).map fun k => row.getD k 0 := by
    apply List.ext_getElem
    · simp
    · intro i h1 h2; simp [h1]
  have f := List.filter_map (f := fun k => row.getD k 0) (p := fun x => !decide (x = v)) (l := List.range row.length)
  rw [<- e] at f
  rw [zq6, f]
  unfold mask
  rw [natSum_cast, List.map_map, List.map_map]
  rfl
theorem row_bits {row : List Nat} (hnd : row.Nodup) (v j : Nat) : (mask (row.filter fun x => !decide (x = v))).testBit j = decide (j ∈ row /\ j ≠ v) := by
  rw [mask_bit (hnd.sublist List.filter_sublist)]
  congr 1
  rw [List.mem_filter]
  simp
end L2
namespace L2
open PySem PySem.Spec PyProof.Rows KM
section
variable {X : Cx} {o i value : Expr} {pos pos' : Pos} {td ty tv : TE}
theorem kdnew : QE X (.Dict [] [] pos) tDNewK := ⟨pe_dnewK⟩
theorem kdin (hu : X.A.units + 1 < cLine) (hi : QE X i ty) (ho : QE X o td) (hm : behindInMarks .In o = false) : QE X (.Compare i [.In] [o] pos) (tDIn ty td) := ⟨pe_cmp (pc_din hu hi.h ho.h) hm⟩
theorem sdput (hu : X.A.units + 1 < cLine) (hv : QE X value tv) (ho : QE X o td) (hi : QE X i ty) (hs : swapsWith value (some (.Subscript o i pos')) pos.line X.env = pure false := by rfl) : QS X (.Assign [.Subscript o i pos'] value pos) (sDPut td ty tv) := ⟨ps_dput hu ho.h hi.h hv.h hs⟩
end
section
variable {σ : St} {H : Hp} {Q : VK} {D : Ends} {td ty tv : TE}
theorem q_dnew : tDNewK σ H Q = ∀ p, H p = none -> Q (.ref p) (upd H p (.dK [])) := rfl
theorem q_DIn : tDIn ty td σ H Q = ty σ H fun y H1 => td σ H1 fun x H2 => ∃ a o, x = .ref a /\ DGet H2 a y o /\ Q (.bl o.isSome) H2 := rfl
theorem q_DPut : sDPut td ty tv D σ H = tv σ H fun v H1 => td σ H1 fun x H2 => ty σ H2 fun y H3 => ∃ a H4, x = .ref a /\ DPut H3 a y v H4 /\ D.nx σ H4 := rfl
end
theorem u1 {X : Cx} (hu : X.A.units + 64 < cLine) : X.A.units + 1 < cLine := by omega
def DKs (H : Hp) (d : Addr) (ns : List Int) : Prop := ∃ kvs : List (Key × V), H d = some (.dK kvs) /\ kvs.length <= ns.length /\ ∀ k : Int, (valV kvs (Sum.inl k)).isSome = decide (k ∈ ns)
theorem DKs.nil {H : Hp} {d : Addr} (h : H d = some (.dK [])) : DKs H d [] := ⟨[], h, Nat.le_refl _, fun k => by rw [valV_nil]; rfl⟩
theorem DKs.same {H H' : Hp} {d : Addr} {ns : List Int} (s : Same H H') : DKs H d ns -> DKs H' d ns
  | ⟨kvs, h, l, v⟩ => ⟨kvs, s _ _ h, l, v⟩
theorem to_din {H : Hp} {Q : VK} {d : Addr} {ns : List Int} {k : Int} (h : DKs H d ns) (q : Q (.bl (decide (k ∈ ns))) H) : ∃ a o, V.ref d = .ref a /\ DGet H a (.int k) o /\ Q (.bl o.isSome) H := by
  obtain ⟨kvs, e, _, v⟩ := h
  exact ⟨d, _, rfl, DGet.k (k := Sum.inl k) e, by rw [v]; exact q⟩
theorem putK_len (kvs : List (Key × V)) (k : Key) (y : V) : (putK kvs k y).length <= kvs.length + 1 := by
  unfold putK
  split
  · rw [List.length_map]; omega
  · rw [List.length_append]; exact Nat.le_refl _
theorem to_dput {H : Hp} {d : Addr} {ns : List Int} {k : Int} {y : V} {Q : Hp -> Prop} (h : DKs H d ns) (hl : ns.length < sizeLine) (q : ∀ o, DKs (upd H d o) d (ns ++ [k]) -> Q (upd H d o)) : ∃ a H4, V.ref d = .ref a /\ DPut H a (.int k) y H4 /\ Q H4 := by
  obtain ⟨kvs, e, l, v⟩ := h
  refine ⟨d, _, rfl, DPut.k (k := Sum.inl k) e (Nat.lt_of_le_of_lt l hl), q _ ⟨_, zq1, ?_, fun j => ?_⟩⟩
  · rw [List.length_append]
    exact Nat.le_trans (putK_len _ _ _) (Nat.succ_le_succ l)
  · rw [valV_put]
    by_cases c : j = k
    · subst c
      rw [if_pos rfl]
      simp
    · rw [if_neg (fun z => c (Sum.inl.inj z)), v]
      congr 1
      simp [c]
theorem forEV {K : Frag} {a : Addr} {us : List V} {i j : Nat} {tb : TS} {D : Ends} {σ : St} {H : Hp} (I : Nat -> St -> Hp -> Prop) (h : SqT K H a us) (h0 : I 0 σ H) (hl : ∀ i σ H, I i σ H -> SqT K H a us)
    (step : ∀ k v σ H H2, us[k]? = some v -> I k σ H -> Same H H2 -> tb { D with nx := I (k + 1), ct := I (k + 1), bk := D.nx } ((σ.set i (some (.int k))).set j (some v)) H2)
    (fin : ∀ σ H, I us.length σ H -> D.nx σ H) : ∃ b, [V.ref a] = [.ref b] /\ (∃ xs, SqT K H b xs) /\ rFor (gTup K 2 (gCons (gName i) (gCons (gName j) gNil))) tb D σ (Ite K b) H := by
  refine ⟨a, rfl, ⟨_, h⟩, fun k m σ H => m = us.length - k /\ k <= us.length /\ I k σ H, ⟨us.length, by simp, Nat.zero_le _, h0⟩, ?_⟩
  rintro k m σ H ⟨rfl, hk, p⟩
  have q := hl k σ H p
  by_cases hlt : k < us.length
  · obtain ⟨v, hx⟩ : ∃ v, us[k]? = some v := ⟨_, List.getElem?_eq_getElem hlt⟩
    refine .inr ⟨⟨_, _, q, hx⟩, I (k + 1), fun σ' H' p' => ⟨us.length - (k + 1), by omega, rfl, hlt, p'⟩, fun x H' y => ?_⟩
    obtain ⟨t, v', hn, rfl, rfl, hv⟩ := y
    have := hv _ q
    rw [hx] at this; cases this
    refine ⟨t, [.int k, v], rfl, SqT.of zq1, rfl, ?_⟩
    exact ⟨_, _, rfl, _, _, rfl, rfl, step k v σ H _ hx p (Same.new hn _)⟩
  · have e : k = us.length := by omega
    subst e
    exact .inl ⟨⟨_, q, Nat.le_refl _⟩, fin σ H p⟩
end L2
namespace L2
open PySem PySem.Spec PyProof.Rows KM
section
variable {prog : Program} {w : World} {A : Around} {E : Value -> Shared -> Prop} {s : Shared}
theorem zipT_end2 {z TI TO i1 i2 l1 l2 : Addr} {n1 n2 : Nat} {xs ys : Array Value} {x a b : Value} {Q : Fin -> Shared -> Prop} (hA : A.handled = none) (D : ZipApart z TI TO i1 i2 l1 l2) (kz : IsZip s.heap z TI TO .none) (kI : IsPair s.heap TI (.ref i1) (.ref i2)) (kO : IsPair s.heap TO a b)
    (t1 : s.heap.IsTupleIter i1 l1 n1) (t2 : s.heap.IsTupleIter i2 l2 n2) (p1 : s.heap.IsTuple l1 xs) (p2 : s.heap.IsTuple l2 ys) (ex : xs[n1]? = some x) (ey : ys[n2]? = none)
    (q : ∀ h' e, (∀ c o, c ≠ z -> c ≠ TO -> c ≠ i1 -> c ≠ i2 -> s.heap.get? c = some o -> h'.get? c = some o) -> (∃ o, h'.get? e = some o /\ o.cls = .type "StopIteration") -> E (.ref e) { s with heap := h' }) :
    wpAny (model prog w) A (Builtin.«zip.__next__» ⟨[.ref z], []⟩) Q E s := by
  refine wpAny_bind (m := field (.ref z) 2) (wpAny_field kz rfl (x := .bool false) rfl (wpAny_bind (m := field (.ref z) 3) (wpAny_field kz rfl (x := .ref TI) rfl (wpAny_bind (wpAny_seqItems kI rfl (wpAny_bind (m := Builtin.SmallTypes.ownedTupleIsFree (.ref z)) ?_))))))
  unfold Builtin.SmallTypes.ownedTupleIsFree
  refine wpAny_bind (wpAny_field kz rfl (x := .none) rfl (wpAny_pure ?_))
  simp only [if_true]
  refine wpAny_bind (wpAny_rule (wpAny_bind (wpAny_field kz rfl (x := .ref TO) rfl (wpAny_bind (wpAny_setField_rec kz (by simp) fun u1 z1 b1 => ?_)))))
  have z1 : IsZip u1 z TI TO .ellipsis := z1
  refine wpAny_bind ?_
  simp only [List.zipIdx_cons, List.zipIdx_nil, List.forIn_cons, List.forIn_nil]
  refine wpAny_bind (wpAny_bind (wpAny_onRaise (wpAny_bind (m := Builtin.SmallTypes.nextOf (.ref i1)) (next_tup (t1.at fun o e => (b1.2 _ D.i1z).trans e) (p1.at fun o e => (b1.2 _ D.l1z).trans e) ex fun u2 s1 b2 => wpAny_pure ?_))))
  have o2 : IsPair u2 TO a b := (b2.2 _ D.TOi1).trans ((b1.2 _ D.TOz).trans kO)
  refine wpAny_bind (wpAny_seqItems o2 rfl (wpAny_bind (wpAny_updateSeq_pair o2 fun u3 o3 b3 => ?_)))
  have o3 : IsPair u3 TO x b := o3
  have k3 : ∀ c o, c ≠ z -> c ≠ i1 -> c ≠ TO -> s.heap.get? c = some o -> u3.get? c = some o := fun c o c1 c2 c3 e => (b3.2 c c3).trans ((b2.2 c c2).trans ((b1.2 c c1).trans e))
  refine wpAny_bind (wpAny_letGo (wpAny_pure ?_))
  refine wpAny_bind (wpAny_bind (wpAny_onRaise (wpAny_bind (m := Builtin.SmallTypes.nextOf (.ref i2)) (next_tup_end hA (t2.at fun o e => k3 _ o D.i2z D.i12.symm D.TOi2.symm e) (p2.at fun o e => k3 _ o D.l2z D.l2i1 D.l2TO e) ey fun u4 e b4 he => ?_))))
  obtain ⟨oe, ge, ce⟩ := he
  have z3 : IsZip u3 z TI TO .ellipsis := (b3.2 _ D.TOz.symm).trans ((b2.2 _ D.i1z.symm).trans z1)
  have z4 : IsZip u4 z TI TO .ellipsis := b4 _ _ D.i2z.symm z3
  have ne : e ≠ z := fun x => by
    subst x
    have z4 : u4.get? e = some _ := z4
    rw [z4] at ge; cases ge
    exact absurd (show Value.type "zip" = Value.type "StopIteration" from ce) (by decide)
  exact wpAny_setField_rec z4 (by simp) fun u5 _ b5 => q u5 e (fun c o c1 c2 c3 c4 x => (b5.2 c c1).trans (b4 c o c4 (k3 c o c1 c3 c2 x))) ⟨oe, (b5.2 e ne).trans ge, ce⟩
end
def ItzS (K : Frag) (a b : Addr) : It := { Itz K a b with stop := fun i H => ∃ xs ys, SqT K H a xs /\ SqT K H b ys /\ i < xs.length /\ ys.length <= i }
theorem turn_zipS {P : Program} {w : World} {K : Frag} {elts : List Expr} {x1 : Nat} {pos : Pos} (z TI TO i1 i2 a b : Addr) (hTT : TI ≠ TO) (hii : i1 ≠ i2) : Turn P w K (.Tuple elts x1 pos) (ItzS K a b) [z, TI, TO, i1, i2] z (ZSt z TI TO i1 i2 a b) where
  mem := (turn_zip (P := P) (w := w) (K := K) (elts := elts) (x1 := x1) (pos := pos) z TI TO i1 i2 a b hTT hii).mem
  obj := (turn_zip (P := P) (w := w) (K := K) (elts := elts) (x1 := x1) (pos := pos) z TI TO i1 i2 a b hTT hii).obj
  keep := (turn_zip (P := P) (w := w) (K := K) (elts := elts) (x1 := x1) (pos := pos) z TI TO i1 i2 a b hTT hii).keep
  item := (turn_zip (P := P) (w := w) (K := K) (elts := elts) (x1 := x1) (pos := pos) z TI TO i1 i2 a b hTT hii).item
  done := by
    intro X hP hw hK hc i pins s σ H E I hf st hg
    subst hP hw hK
    obtain ⟨xs, ys, hq, hq2, hx, hy⟩ := hg
    obtain ⟨its, rv, p, hz⟩ := I.tuple hq
    obtain ⟨its2, rv2, p2, hz2⟩ := I.tuple hq2
    have hl := rv.length
    have hl2 := rv2.length
    have D := st.apart I hTT hii hq hq2 (hf z (by simp)) (hf TO (by simp)) (hf i1 (by simp)) (hf i2 (by simp))
    obtain ⟨zz, ti, ⟨c, d, to⟩, t1, t2⟩ := st
    have hT : s.TypeIs (.ref z) "zip" := ⟨_, zz, rfl⟩
    obtain ⟨u, hu⟩ : ∃ u, its[i]? = some u := ⟨_, List.getElem?_eq_getElem (by omega)⟩
    unfold pyNext
    refine wpAny_bind (wpAny_attempt (wpAny_callSpecial?_slot (name := Str.ofString "__next__") hT F.slot_zip_next (wpAny_call_entry F.slot_zip_next hT F.entry_zip_next
      (zipT_end2 (by simpa using I.ok.hd hc) D zz ti to t1 t2 (show s.heap.IsTuple a its.toArray from p) (show s.heap.IsTuple b its2.toArray from p2) (x := u) (by simpa using hu) (by simp; omega) fun h' e k he => ?_) (F.args_zip_next_1 _))))
    obtain ⟨o, g, ce⟩ := he
    refine wpAny_bind (wpAny_isInstance (T := "StopIteration") (b := true) ⟨o, g, ce⟩ isSubtype_stop (wpAny_pure ⟨rfl, I.turnedL (t' := s.toks) (ch := [z, TI, TO, i1, i2]) (fun c o hc q => ?_) hf⟩))
    simp only [List.mem_cons, List.not_mem_nil, or_false, not_or] at hc
    exact k c o hc.1 hc.2.2.1 hc.2.2.2.1 hc.2.2.2.2 q
  self := (turn_zip (P := P) (w := w) (K := K) (elts := elts) (x1 := x1) (pos := pos) z TI TO i1 i2 a b hTT hii).self
def iZpS (K : Frag) (ta : TA) : TI := fun σ H R => ta σ H fun vs H1 => ∃ a b, vs = [.ref a, .ref b] /\ (∃ xs, SqT K H1 a xs) /\ (∃ ys, SqT K H1 b ys) /\ R (ItzS K a b) H1
section
variable {X : Cx} {N W G : List Str} {K : Frag} {e f : Expr} {t : TA} {p pos tpos : Pos} {elts : List Expr} {x1 : Nat}
theorem pi_zpS (S : Sc X N W G) (g : Nat) (hm : X.mg "zip" = none) (hK : X.K = K) (ha : PB X [e, f] t) (hg : G[g]? = some "zip" := by rfl) : PI X (.Tuple elts x1 tpos) (.Call (.Name "zip" p) [e, f] [] pos) (iZpS K t) := by
  subst hK
  intro pins s σ H R I h
  have q := S.gl _ (List.mem_of_getElem? hg)
  have h2 : nst f = true := by have := ha.hes; rw [List.all_cons, Bool.and_eq_true] at this; exact this.1
  refine Call_ (ld_blt I q.1 hm boot_zip (PyProof.Rows.callWith_type1 (thn (ha.pa pos pins s σ H _ I h) fun us s1 ⟨vs, H1, I1, r1, q1⟩ => ?_) (by rw [zj8 ha.he, zj8 h2]) (by rw [zj8 h2]; rfl)))
  obtain ⟨a, b, rfl, ⟨xs, hq⟩, ⟨ys, hq2⟩, q⟩ := q1
  obtain ⟨u, v, rfl, rx, ry⟩ := r1.two
  cases rx
  cases ry
  obtain ⟨its, rv, pl, hz⟩ := I1.tuple hq
  obtain ⟨its2, rv2, pl2, hz2⟩ := I1.tuple hq2
  refine call_zipT (show s1.heap.IsTuple a its.toArray from pl) (show s1.heap.IsTuple b its2.toArray from pl2) fun h' k1 k2 k3 k4 k5 k6 => wpAny_pyIter_zip k1 ?_
  refine ⟨s1.heap.objs.size + 4, [s1.heap.objs.size + 4, s1.heap.objs.size + 2, s1.heap.objs.size + 3, s1.heap.objs.size, s1.heap.objs.size + 1], _, _, H1, rfl, I1.kept (t' := s1.toks) k6, turn_zipS _ _ _ _ _ a b (fun z => by have z : s1.heap.objs.size + 2 = s1.heap.objs.size + 3 := z; omega) (fun z => by have z : s1.heap.objs.size = s1.heap.objs.size + 1 := z; omega), ⟨k1, k2, ⟨_, _, k3⟩, k4, k5⟩, fun c hc => ?_, q⟩
  have hc2 : s1.heap.objs.size <= c := by
    simp only [List.mem_cons, List.not_mem_nil, or_false] at hc
    rcases hc with rfl | rfl | rfl | rfl | rfl
    · exact Nat.le_add_right _ _
    · exact Nat.le_add_right _ _
    · exact Nat.le_add_right _ _
    · exact Nat.le_refl _
    · exact Nat.le_add_right _ _
  exact I1.fpOk hc2 (I1.hok.fresh hc2)
theorem izpS (S : Sc X N W G) (g : Nat) (hm : X.mg "zip" = none) (hK : X.K = K) (ha : QB X [e, f] t) (hg : G[g]? = some "zip" := by rfl) : QI X (.Tuple elts x1 tpos) (.Call (.Name "zip" p) [e, f] [] pos) (iZpS K t) := ⟨pi_zpS S g hm hK ha.h hg⟩
theorem q_iZpS {K : Frag} {ta : TA} {σ : St} {H : Hp} {R : It -> Hp -> Prop} : iZpS K ta σ H R = ta σ H fun vs H1 => ∃ a b, vs = [.ref a, .ref b] /\ (∃ xs, SqT K H1 a xs) /\ (∃ ys, SqT K H1 b ys) /\ R (ItzS K a b) H1 := rfl
end
theorem lcZS {K : Frag} {a b : Addr} {ns ms : List Int} {te : TE} {rest : St} {Q : VK} {H1 : Hp} (val : Nat -> V) (h : SqT K H1 a (ns.map V.int)) (h' : SqT K H1 b (ms.map V.int)) (hl : ms.length < ns.length) (hn : ms.length < sizeLine)
    (step : ∀ i H (A : V -> Hp -> Prop), i < ms.length -> Same H1 H -> (∀ H', Same H H' -> A (val i) H') -> te (some (.int (ns.getD i 0)) :: some (.int (ms.getD i 0)) :: rest) H A)
    (fin : ∀ acc H, H1 acc = none -> Same H1 H -> H acc = some (.lst ((List.range ms.length).map val)) -> Q (.ref acc) H) :
    ∃ c d, [V.ref a, V.ref b] = [.ref c, .ref d] /\ (∃ xs, SqT K H1 c xs) /\ (∃ ys, SqT K H1 d ys) /\ rLC (gTup K 2 (gCons (gName 0) (gCons (gName 1) gNil))) tTrue te (none :: none :: rest) Q (ItzS K c d) H1 := by
  refine ⟨a, b, rfl, ⟨_, h⟩, ⟨_, h'⟩, fun acc hacc => ?_⟩
  refine ⟨fun i m τ H => m = ms.length - i /\ i <= ms.length /\ (∃ y z, τ = y :: z :: rest) /\ Same H1 H /\ H acc = some (.lst ((List.range i).map val)), ⟨ms.length, by simp, Nat.zero_le _, ⟨_, _, rfl⟩, Same.new hacc _, zq1⟩, ?_⟩
  rintro i m τ H ⟨rfl, hi, ⟨y, z, rfl⟩, hS, hF⟩
  have q1 := hS.seqT h
  have q2 := hS.seqT h'
  by_cases hlt2 : i < ms.length
  · have hlt : i < ns.length := by omega
    have ex : (ns.map V.int)[i]? = some (.int (ns.getD i 0)) := by
      rw [List.getElem?_map, List.getElem?_eq_getElem hlt, List.getD_eq_getElem?_getD, List.getElem?_eq_getElem hlt]; rfl
    have ey : (ms.map V.int)[i]? = some (.int (ms.getD i 0)) := by
      rw [List.getElem?_map, List.getElem?_eq_getElem hlt2, List.getD_eq_getElem?_getD, List.getElem?_eq_getElem hlt2]; rfl
    refine .inr ⟨⟨_, _, _, _, q1, q2, ex, ey⟩, fun τ' H' => (∃ y z, τ' = y :: z :: rest) /\ Same H1 H' /\ H' acc = some (.lst ((List.range (i + 1)).map val)), fun τ' H' ⟨u, v, w⟩ => ⟨ms.length - (i + 1), by omega, rfl, hlt2, u, v, w⟩, fun x H' y => ?_⟩
    obtain ⟨p, x1, y1, hp, rfl, rfl, hxy⟩ := y
    obtain ⟨g1, g2⟩ := hxy _ _ q1 q2
    rw [ex] at g1; cases g1
    rw [ey] at g2; cases g2
    have sp := Same.new hp (.tup [.int (ns.getD i 0), .int (ms.getD i 0)])
    refine ⟨p, _, rfl, SqT.of zq1, rfl, _, _, rfl, _, _, rfl, rfl, ?_⟩
    simp only [q_True, q_iT, q_ifT, List.set_cons_zero, List.set_cons_succ]
    refine step i _ _ hlt2 (hS.trans sp) fun H2 hS2 => ?_
    have hF2 := hS2 _ _ (sp _ _ hF)
    refine ⟨_, hF2, ?_, ⟨_, _, rfl⟩, ((hS.trans sp).trans hS2).set hacc _, ?_⟩
    · rw [List.length_map, List.length_range]; omega
    · rw [zq1, List.range_succ, List.map_append]; rfl
  · have e : i = ms.length := by omega
    subst e
    exact .inl ⟨⟨_, _, q1, q2, by rw [List.length_map]; exact hl, by rw [List.length_map]; exact Nat.le_refl _⟩, fin acc H hacc hS hF⟩
end L2
namespace L2
open PySem PySem.Spec PyProof.Rows KM
def riseB (l : List Nat) : Bool := (List.range (l.length - 1)).all fun k => decide (l.getD k 0 < l.getD (k + 1) 0)
theorem riseB_nodup {l : List Nat} (h : riseB l = true) : l.Nodup := by
  have st : ∀ k, k + 1 < l.length -> l.getD k 0 < l.getD (k + 1) 0 := fun k hk => by
    have := List.all_eq_true.mp h k (List.mem_range.mpr (by omega))
    simpa using this
  have lt : ∀ d i, i + d + 1 < l.length -> l.getD i 0 < l.getD (i + d + 1) 0 := by
    intro d
    induction d with
    | zero => intro i hi; exact st i hi
    | succ d ih => intro i hi; exact Nat.lt_trans (ih i (by omega)) (st (i + d + 1) (by omega))
  rw [List.nodup_iff_pairwise_ne, List.pairwise_iff_getElem]
  intro i j hi hj hij e
  have := lt (j - i - 1) i (by omega)
  rw [show i + (j - i - 1) + 1 = j by omega, List.getD_eq_getElem?_getD, List.getD_eq_getElem?_getD, List.getElem?_eq_getElem hi, List.getElem?_eq_getElem hj] at this
  exact Nat.lt_irrefl _ (by have h2 : l[i] < l[j] := this; rw [e] at h2; exact h2)
def nats (ns : List Int) : List Nat := ns.map Int.toNat
def inB (n : Nat) (ns : List Int) : Bool := ns.all fun i => decide (0 <= i) && decide (i < (n : Int))
theorem inB_asI {n : Nat} {ns : List Int} (h : inB n ns = true) : ns = asI (nats ns) /\ ∀ x ∈ nats ns, x < n := by
  have hb : ∀ i ∈ ns, 0 <= i /\ i < (n : Int) := fun i hi => by
    have := List.all_eq_true.mp h i hi
    simpa using this
  refine ⟨?_, fun x hx => ?_⟩
  · unfold asI nats
    rw [List.map_map]
    apply List.ext_getElem
    · simp
    · intro i h1 h2
      have := hb _ (List.getElem_mem h1)
      simp
      omega
  · obtain ⟨i, hi, rfl⟩ := List.mem_map.mp hx
    have := hb i hi
    omega
def grpB (cs : List Int) (ws : List Nat) (b : Bool) (l : List Nat) : Bool := if b then ringB ws l && l.all (fun x => decide (cs.getD x 0 = 2)) else riseB l && circleB ws l
def isG (cs : List Int) (ws : List Nat) (g : Bool × List Int) : Bool := decide (1 <= g.2.length) && (inB cs.length g.2 && grpB cs ws g.1 (nats g.2))
def gfF (cs : List Int) (ws : List Nat) : List Int -> Nat -> List (Bool × List Int) -> Option Nat
  | _, _, [] => none
  | gone, k, g :: r => if (isG cs ws g && !(g.2.any fun i => decide (i ∈ gone))) = true then gfF cs ws (gone ++ g.2) (k + 1) r else some k
def oV : Option Nat -> V
  | none => .non
  | some k => .int (k : Int)
def GI (K : Frag) (H : Hp) : List V -> List (Bool × List Int) -> Prop
  | [], [] => True
  | v :: vs, g :: L => (∃ r p, v = .ref r /\ SqT K H r [.str (kd g.1), .ref p] /\ SqT K H p (g.2.map V.int)) /\ GI K H vs L
  | _, _ => False
section
variable {K : Frag} {H H' : Hp}
theorem GI.mono (s : Same H H') : ∀ {vs : List V} {L : List (Bool × List Int)}, GI K H vs L -> GI K H' vs L
  | [], [], h => h
  | _ :: _, _ :: _, ⟨⟨r, p, e, h, h2⟩, t⟩ => ⟨⟨r, p, e, s.seqT h, s.seqT h2⟩, GI.mono s t⟩
  | [], _ :: _, h => h.elim
  | _ :: _, [], h => h.elim
theorem GI.length : ∀ {vs : List V} {L : List (Bool × List Int)}, GI K H vs L -> vs.length = L.length
  | [], [], _ => rfl
  | _ :: _, _ :: _, ⟨_, t⟩ => by rw [List.length_cons, List.length_cons, GI.length t]
  | [], _ :: _, h => h.elim
  | _ :: _, [], h => h.elim
theorem GI.get : ∀ {vs : List V} {L : List (Bool × List Int)} {i : Nat} {v : V}, GI K H vs L -> vs[i]? = some v -> ∃ g r p, L[i]? = some g /\ v = .ref r /\ SqT K H r [.str (kd g.1), .ref p] /\ SqT K H p (g.2.map V.int)
  | [], [], i, v, _, e => by simp at e
  | _ :: _, g :: _, 0, v, ⟨⟨r, p, e, h, h2⟩, _⟩, e2 => by simp at e2; subst e2; exact ⟨g, r, p, rfl, e, h, h2⟩
  | _ :: _, _ :: _, i + 1, v, ⟨_, t⟩, e2 => by
    obtain ⟨g, r, p, a, b⟩ := GI.get (i := i) (v := v) t (by simpa using e2)
    exact ⟨g, r, p, by simpa using a, b⟩
  | [], _ :: _, _, _, h, _ => h.elim
  | _ :: _, [], _, _, h, _ => h.elim
end
def spRises (K : Frag) : Sp := fun vs H Q _ => ∃ (p : Addr) (l : List Nat), vs = [.ref p] /\ SqT K H p ((asI l).map V.int) /\ 1 <= l.length /\ l.length <= 90 /\ ∀ H', Same H H' -> Q (.bl (riseB l)) H'
def spIsG (K : Frag) : Sp := fun vs H Q _ => ∃ (c w p : Addr) (cs : List Int) (ws : List Nat) (g : Bool × List Int), vs = [.ref c, .ref w, .str (kd g.1), .ref p] /\ SqT K H c (cs.map V.int) /\ SqT K H w ((asI ws).map V.int) /\ SqT K H p (g.2.map V.int) /\ ws.length = cs.length /\ cs.length <= 8 /\ g.2.length <= 90 /\ ∀ H', Same H H' -> Q (.bl (isG cs ws g)) H'
def spGFault (K : Frag) : Sp := fun vs H Q _ => ∃ (c w g : Addr) (cs : List Int) (ws : List Nat) (us : List V) (L : List (Bool × List Int)), vs = [.ref c, .ref w, .ref g] /\ SqT K H c (cs.map V.int) /\ SqT K H w ((asI ws).map V.int) /\ SqT K H g us /\ GI K H us L /\ ws.length = cs.length /\ cs.length <= 8 /\ (∀ g ∈ L, g.2.length <= 30) /\ L.length <= 30 /\ ∀ H', Same H H' -> Q (oV (gfF cs ws [] 0 L)) H'
end L2
namespace L2
open PySem PySem.Spec PyProof.Rows KM
theorem nats_asI (l : List Nat) : nats (asI l) = l := by
  unfold nats asI
  rw [List.map_map]
  conv => rhs; rw [<- List.map_id l]
  apply List.map_congr_left
  intro x _
  exact Int.toNat_natCast x
end L2
namespace L2
open PySem PySem.Spec PyProof.Rows KM
theorem shaped_intsT (ns : List Int) : PySem.SeqAt.shaped (.tuple (ns.map .int)) = true := by
  have h1 := PySem.W.depthAll_ints ns
  have h2 : PyData.depth (.tuple (ns.map PyData.int)) <= 64 := by simp only [PyData.depth]; omega
  show (PyData.canLay0 (.tuple (ns.map PyData.int)) && decide (PyData.depth (.tuple (ns.map PyData.int)) <= 64)) = true
  rw [Bool.and_eq_true]
  exact ⟨by simp only [PyData.canLay0]; exact PySem.W.canLayAll0_ints ns, decide_eq_true h2⟩
theorem eqv_intsT (ns ms : List Int) : PyData.eqv (.tuple (ns.map PyData.int)) (.tuple (ms.map PyData.int)) = decide (ns = ms) := by
  simp only [PyData.eqv, eqvAll_ints]
end L2
namespace KM
theorem range_getD (L : List Nat) : (List.range L.length).map (fun k => L.getD k 0) = L := by
  apply List.ext_getElem?
  intro k
  by_cases hk : k < L.length
  · rw [List.getElem?_map, List.getElem?_range hk, List.getElem?_eq_getElem hk]
    show some (L.getD k 0) = _
    rw [List.getD_eq_getElem?_getD, List.getElem?_eq_getElem hk]; rfl
  · rw [List.getElem?_eq_none (by rw [List.length_map, List.length_range]; omega), List.getElem?_eq_none (by omega)]
end KM
namespace L2
open PySem PySem.Spec PyProof.Rows KM
section
variable {X : Cx} {N W G : List Str} {e a b tg : Expr} {t : TA} {p pos : Pos}
end
end L2
namespace KM
end KM
namespace L2
open PySem PySem.Spec PyProof.Rows KM
end L2
namespace KM
end KM
namespace L2
open PySem PySem.Spec PyProof.Rows KM
end L2
namespace L2
open PySem PySem.Spec PyProof.Rows KM
section
variable {prog : Program} {w : World} {A : Around} {E : Value -> Shared -> Prop} {s : Shared}
end
section
variable {X : Cx} {N W G : List Str} {K : Frag} {e : Expr} {t : TA} {p1 p2 pos pos2 : Pos}
end
end L2
namespace L2
open PySem PySem.Spec PyProof.Rows KM
section
variable {X : Cx}
end
section
variable {X : Cx} {e tg : Expr} {te : TE}
end
end L2
namespace L2
open PySem PySem.Spec PyProof.Rows KM
section
variable {prog : Program} {w : World} {A : Around} {R : Result -> Shared -> Prop} {I : Addr} {fp wr : List Addr} {G : Array GenState -> Array GenState -> Prop} {n : Nat} {P : Nat -> Value -> Prop} {St : Nat -> Shared -> Prop}
end
section
variable {prog : Program} {w : World} {A : Around} {E : Value -> Shared -> Prop} {s : Shared}
end
end L2
namespace L2
open PySem PySem.Spec PyProof.Rows KM
section
variable {X : Cx}
end
end L2
namespace L2
open PySem PySem.Spec PyProof.Rows KM
section
variable {X : Cx} {N W G : List Str} {x : Str} {pos : Pos}
end
section
variable {P : Program} {w : World} {K : Frag} {mg : Str -> Option Value} {base : Heap} {k : Nat} {x : Str} {N G : List Str} {p1 p2 : Str} {i : Int} {sp : Sp} {st : Stmt}
end
section
variable {X : Cx} {N W G : List Str} {k m : Nat} {x p1 p2 : Str} {i : Int} {sp : Sp} {p pos kpos : Pos} {e e2 : Expr} {t tk : TA}
end
end L2
namespace L2
open PySem PySem.Spec PyProof.Rows KM
end L2
namespace L2
open PySem PySem.Spec PyProof.Rows KM
end L2
namespace L2
open PySem PySem.Spec PyProof.Rows KM
end L2
namespace L2
open PySem PySem.Spec PyProof.Rows KM
section
variable {prog : Program} {w : World} {A : Around} {E : Value -> Shared -> Prop} {s : Shared} {κ : Type} [DecidableEq κ] {knd : KeyKind prog w κ}
end
section
variable {X : Cx} {o i value : Expr} {pos pos' : Pos} {td ty tv : TE}
end
section
variable {σ : St} {H : Hp} {Q : VK} {td ty : TE}
end
end L2
namespace L2
open PySem PySem.Spec PyProof.Rows KM
section
variable {X : Cx} {N W G : List Str} {K : Frag} {e : Expr} {t : TA} {p pos tpos : Pos} {elts : List Expr} {x1 : Nat}
end
end L2
namespace L2
open PySem PySem.Spec PyProof.Rows KM
end L2
namespace L2
open PySem PySem.Spec PyProof.Rows KM
section
variable {prog : Program} {w : World} {A : Around} {E : Value -> Shared -> Prop} {s : Shared}
end
section
variable {X : Cx} {K : Frag} {pos : Pos}
end
section
variable {X : Cx}
end
end L2
namespace L2
open PySem PySem.Spec PyProof.Rows KM
end L2
namespace L2
open PySem PySem.Spec PyProof.Rows KM
section
variable {ns : List Str} {cs ws : List Nat}
end
end L2
namespace L2
open PySem PySem.Spec PyProof.Rows KM
section
variable {ns : List Str} {cs ws : List Nat}
end
end L2
namespace L2
open PySem PySem.Spec PyProof.Rows KM
end L2
namespace L2
open PySem PySem.Spec PyProof.Rows KM
section
variable {X : Cx} {v : Expr} {tv : TE} {pos : Pos}
end
end L2
namespace L2
open PySem PySem.Spec PyProof.Rows KM
section
variable {X : Cx} {K : Frag} {e lo st : Expr} {te tl ts : TE} {pos p2 : Pos}
end
end L2
namespace L2
open PySem PySem.Spec PyProof.Rows KM
section
variable {ns : List Str} {cs ws : List Nat}
end
end L2
namespace L2
open PySem PySem.Spec PyProof.Rows KM
section
variable {M : Model} {A : Around} {E : Value -> Shared -> Prop}
variable {nm q : Str} {C N : Addr} {bs bm : List Value} {hdct : Bool} {sn : List Str} {sub : List Value} {ab : Bool} {col : Option Bool} {dd : Option Addr} {k0 k1 k2 k3 k5 : Option Value} {newId : String}
variable {nm' q' : Str} {D N' : Addr} {bs' bm' : List Value} {hdct' : Bool} {sn' : List Str} {sub' : List Value} {ab' : Bool} {col' : Option Bool} {dd' : Option Addr} {k0' k1' k2' k3' k5' : Option Value} {newId' : String}
end
end L2
namespace L2
open PySem PySem.Spec PyProof.Rows KM
def Fl (h : Heap) (a T C : Addr) (d : Option Addr) (fl : Value) : Prop :=
  ∃ oe vs oT ts, h.get? a = some oe /\ oe.cls = .ref C /\ oe.dict = d /\ oe.data = .fields vs /\ vs[1]? = some (.ref T) /\ T ≠ a /\ h.get? T = some oT /\ oT.data = .fields ts /\ ts[3]? = some fl
def FlyAt (h : Heap) (H : Hp) (a T C : Addr) (d : Option Addr) : Prop := Fl h a T C d .none /\ H a = none /\ H T = none
def CXE (P : Program) (w : World) : CXT := fun outer H s E e s' =>
  ∃ a T C d H', e = .ref a /\ s'.os = s.os /\ AllBare s'.gens /\ Un (frs outer) [] H H' s.heap s'.heap /\ HOk P w H' s'.heap /\ s.heap.get? a = none /\ s.heap.get? T = none /\ FlyAt s'.heap H' a T C d /\ E (.ref C) d H'
theorem passE {X : Cx} {P : Program} {w : World} : Passes (CXE P w) X E0 := fun _ _ _ _ _ _ _ h => by
  obtain ⟨_, _, _, _, _, _, _, _, _, _, _, _, _, q⟩ := h
  exact q.elim
section
variable {P : Program} {w : World} {fs bad : List Addr} {H0 H1 : Hp} {h0 h1 h2 : Heap}
theorem un_exc (u : Un fs [] H0 H1 h0 h1) (hb : ∀ b ∈ bad, h0.get? b = none) (k : ∀ b o, h1.get? b = some o -> b ∉ fs -> b ∉ bad -> h2.get? b = some o)
    (sl : ∀ b o, h1.get? b = some o -> b ∈ fs -> b ∉ bad -> ∃ s, h2.get? b = some { o with slots := s }) : Un fs [] H0 H1 h0 h2 := by
  have nb : ∀ b o, h0.get? b = some o -> b ∉ bad := fun b o e z => by rw [hb b z] at e; cases e
  refine ⟨fun b o e n hf hx => k b o (u.keep b o e n hf hx) hf (nb b o e), fun b o e n hf hx => ?_, u.free, fun b o e hx => ?_, u.tups, u.frzs, u.tbls⟩
  · obtain ⟨s1, e1⟩ := u.slot b o e n hf hx
    obtain ⟨s2, e2⟩ := sl b _ e1 hf (nb b o e)
    exact ⟨s2, e2⟩
  · obtain ⟨o1, e1⟩ := u.there b o e hx
    by_cases hf : b ∈ fs
    · obtain ⟨s2, e2⟩ := sl b _ e1 hf (nb b o e)
      exact ⟨_, e2⟩
    · exact ⟨_, k b _ e1 hf (nb b o e)⟩
theorem hok_exc (x : HOk P w H1 h1) (k : ∀ b o, h1.get? b = some o -> b ∉ fs -> b ∉ bad -> h2.get? b = some o) (nf : ∀ b ∈ fs, H1 b = none) (nb : ∀ b ∈ bad, H1 b = none) : HOk P w H1 h2 := fun a o e =>
  (x a o e).stay (fun b u hb q => k b u q (fun z => by
    rcases hb with rfl | hb
    · rw [nf b z] at e; cases e
    · rw [nf b z] at hb; cases hb) (fun z => by
    rcases hb with rfl | hb
    · rw [nb b z] at e; cases e
    · rw [nb b z] at hb; cases hb)) (fun _ q => q) fun _ _ q => q
end
theorem HOk.there {P : Program} {w : World} {H : Hp} {h : Heap} {a : Addr} {o : HO} (x : HOk P w H h) (e : H a = some o) : ∃ u, h.get? a = some u := by
  have z := x a o e
  cases o with
  | lst xs => obtain ⟨_, _, _, _, e⟩ := z; exact ⟨_, e⟩
  | tup xs => obtain ⟨_, _, _, o, e, _⟩ := z; exact ⟨_, e⟩
  | dK kvs => obtain ⟨_, _, _, _, o, _, _, e, _⟩ := z; exact ⟨_, e⟩
  | dT kvs => obtain ⟨_, _, _, _, o, _, _, e, _⟩ := z; exact ⟨_, e⟩
  | set S n => obtain ⟨o, _, _, _, e, _⟩ := z; exact ⟨_, e⟩
  | ins C dx fs => obtain ⟨_, _, _, e, _⟩ := z; exact ⟨_, e⟩
  | own y => exact z
  | xd fs => obtain ⟨_, ⟨_, _, _, e, _⟩, _⟩ := z; exact ⟨_, e⟩
  | rng lo hi => obtain ⟨_, _, _, e⟩ := z; exact ⟨_, e⟩
  | frz ob u => obtain ⟨e, _⟩ := z; exact ⟨_, e⟩
  | tbl ps => exact ⟨_, z⟩
  | met f y => exact ⟨_, z⟩
  | ext φ => obtain ⟨_, e, _⟩ := z; exact e
theorem HOk.fresh' {P : Program} {w : World} {H : Hp} {h : Heap} {a : Addr} (x : HOk P w H h) (e : h.get? a = none) : H a = none := by
  cases q : H a with
  | none => rfl
  | some o => obtain ⟨u, z⟩ := x.there q; rw [e] at z; cases z
section
variable {X : Cx} {pins : List (Addr × Obj)} {σ : St} {H : Hp} {s : Shared} {h h' : Heap}
end
theorem dict_mapF (o : Obj) (f) : (o.mapFields f).dict = o.dict := by
  cases o with
  | mk c d dt sl => cases dt <;> rfl
section
variable {M : Model} {A : Around} {E : Value -> Shared -> Prop} {s : Shared} {base : Heap} {env : Env} {outer : List Env} {L a C : Addr} {d : Option Addr} {Q : Unit -> Shared -> Prop}
def Kept (l : List Addr) (bad : List Addr) (h h' : Heap) : Prop := (∀ b o, h.get? b = some o -> b ∉ l -> b ∉ bad -> h'.get? b = some o) /\ ∀ b o, h.get? b = some o -> b ∉ bad -> ∃ sl, h'.get? b = some { o with slots := sl }
theorem Kept.trans {l bad bad' : List Addr} {h h1 h2 : Heap} (x : Kept l bad h h1) (y : Kept l bad' h1 h2) (hs : ∀ b o, h.get? b = some o -> b ∈ bad' -> b ∈ bad) : Kept l bad h h2 := by
  refine ⟨fun b o e n1 n2 => y.1 b o (x.1 b o e n1 n2) n1 fun z => n2 (hs b o e z), fun b o e n2 => ?_⟩
  obtain ⟨s1, e1⟩ := x.2 b o e n2
  obtain ⟨s2, e2⟩ := y.2 b _ e1 fun z => n2 (hs b o e z)
  exact ⟨s2, e2⟩
theorem entry_new {oe : Obj} {vs : Array Value} {head : Value} {nx : Bool} (hfr : A.frames = some (env :: outer)) (hl : s.heap.FunFrames base (env :: outer)) (hf : env.frame = some L)
    (he : s.heap.get? a = some oe) (hc : oe.cls = .ref C) (hdi : oe.dict = d) (hd : oe.data = .fields vs) (hsz : 1 < vs.size)
    (h : ∀ h' T, s.heap.get? T = none -> Fl h' a T C d (rawInt L) -> Kept (frs (env :: outer)) [a] s.heap h' -> Q () { s with heap := h' }) :
    wpAny M A (do let fr <- frameOf env; let pl <- entryPlaceOf L nx; let t <- EntryCells.newEntry head fr .none (rawInt L) .none pl; setField (.ref a) 1 t) Q E s := by
  have na : a ∉ (env :: outer).filterMap (·.frame) := fun hm => by
    obtain ⟨_, o, ho, hn⟩ := hl.mem hm
    rw [he] at ho; cases ho; exact hn vs hd
  refine wpAny_bind (wpAny_frameOf_fun hfr hl hf fun h1 s1 => ?_)
  refine wpAny_bind (wpAny_entryPlaceOf fun pl hpl => ?_)
  unfold EntryCells.newEntry newFields
  refine wpAny_bind (wpAny_newObj_type ?_ (hpl.sizeOk5 _ _ _ _ _))
  have e1 : h1.get? a = some oe := (s1.2.1 a na).trans he
  have lt : a < h1.objs.size := Heap.lt_size e1
  generalize hO : ({ cls := .type "traceback", dict := none, data := .fields ([head, .ref L, .none, rawInt L, .none] ++ (if pl.isEmpty then List.replicate 6 Value.none else pl)).toArray } : Obj) = oT
  have hOf : oT.isFreed = false := by rw [<- hO]; rfl
  have e2 : (h1.push oT).get? a = some oe := Heap.get?_push_of_some _ e1
  have eT : (h1.push oT).get? h1.objs.size = some oT := Heap.get?_push_size h1 hOf
  refine wpAny_setField e2 hd hsz (h _ h1.objs.size (Heap.get?_none_of_le (Nat.le_of_eq s1.1.symm)) ?_ ⟨fun b o eb n1 n2 => ?_, fun b o eb n2 => ?_⟩)
  · have ne : h1.objs.size ≠ a := Nat.ne_of_gt lt
    have hd3 := Obj.data_mapFields hd (·.setIfInBounds 1 (Value.ref h1.objs.size))
    refine ⟨_, _, oT, _, Heap.get?_update_self _ e2 (Obj.isFreed_of_fields hd3), (Obj.cls_mapFields _ _).trans hc, (dict_mapF _ _).trans hdi, hd3, by simp [hsz], ne, (Heap.get?_update_other _ _ ne.symm).trans eT, by rw [<- hO], ?_⟩
    first | (simp; done) | (rcases hpl with rfl | ⟨_, _, _, _, _, _, _, rfl⟩ <;> simp)
  · have hba : b ≠ a := fun z => n2 (by rw [z]; exact List.mem_cons_self)
    rw [Heap.get?_update_other _ _ hba.symm]
    exact Heap.get?_push_of_some _ ((s1.2.1 b n1).trans eb)
  · have hba : b ≠ a := fun z => n2 (by rw [z]; exact List.mem_cons_self)
    obtain ⟨sl, q⟩ := s1.2.2 b o eb
    refine ⟨sl, ?_⟩
    rw [Heap.get?_update_other _ _ hba.symm]
    exact Heap.get?_push_of_some _ q
theorem note_first {oe : Obj} {vs : Array Value} (hfr : A.frames = some (env :: outer)) (hl : s.heap.FunFrames base (env :: outer)) (hf : env.frame = some L)
    (he : s.heap.get? a = some oe) (hc : oe.cls = .ref C) (hdi : oe.dict = d) (hd : oe.data = .fields vs) (h1 : vs[1]? = some .none)
    (h : ∀ h' T, s.heap.get? T = none -> Fl h' a T C d (rawInt L) -> Kept (frs (env :: outer)) [a] s.heap h' -> Q () { s with heap := h' }) : wpAny M A (noteFrame (.ref a) env) Q E s := by
  unfold noteFrame
  simp only [hf]
  refine wpAny_bind (wpAny_field he hd h1 ?_)
  rw [if_neg (by decide)]
  exact entry_new hfr hl hf he hc hdi hd (Array.getElem?_eq_some_iff.mp h1).1 h
theorem note_on {T : Addr} (hfr : A.frames = some (env :: outer)) (hl : s.heap.FunFrames base (env :: outer)) (hf : env.frame = some L) (f : Fl s.heap a T C d .none)
    (h : ∀ h' T', s.heap.get? T' = none -> Fl h' a T' C d (rawInt L) -> Kept (frs (env :: outer)) [a, T] s.heap h' -> Q () { s with heap := h' }) : wpAny M A (noteFrame (.ref a) env) Q E s := by
  obtain ⟨oe, vs, oT, ts, he, hc, hdi, hd, h1, hTa, hT, hdT, h3⟩ := f
  unfold noteFrame
  simp only [hf]
  refine wpAny_bind (wpAny_field he hd h1 ?_)
  rw [if_pos (show (Value.ref T != Value.none) = true from by simp)]
  refine wpAny_bind (wpAny_field hT hdT h3 ?_)
  rw [if_neg (show ¬ ((Value.none == rawInt L) = true) from by simp [rawInt])]
  refine wpAny_bind (wpAny_setField hT hdT (Array.getElem?_eq_some_iff.mp h3).1 ?_)
  have oth : ∀ b, b ≠ T -> (s.heap.update T (Obj.mapFields (·.setIfInBounds 3 Value.none))).get? b = s.heap.get? b := fun b hb => Heap.get?_update_other _ _ hb.symm
  have k0 : Kept (frs (env :: outer)) [a, T] s.heap (s.heap.update T (Obj.mapFields (·.setIfInBounds 3 Value.none))) := by
    refine ⟨fun b o e _ n => (oth b fun z => n (by simp [z])).trans e, fun b o e n => ⟨o.slots, (oth b fun z => n (by simp [z])).trans e⟩⟩
  have noT : ∀ b o, s.heap.get? b = some o -> (∀ vs, o.data ≠ .fields vs) -> b ≠ T := fun b o hb hn q => by rw [q, hT] at hb; cases hb; exact hn ts hdT
  refine entry_new hfr (hl.of_keeps fun b o hb hn => ⟨o, (oth b (noT b o hb hn)).trans hb, rfl⟩) hf ((oth a hTa.symm).trans he) hc hdi hd (Array.getElem?_eq_some_iff.mp h1).1 fun h' T' n' f' k' => ?_
  refine h h' T' ?_ f' (k0.trans k' fun b _ _ z => by rw [List.mem_singleton.mp z]; exact List.mem_cons_self)
  have hne : T' ≠ T := fun z => by
    rw [z, Heap.get?_update_self _ hT (Obj.isFreed_of_fields (Obj.data_mapFields hdT _))] at n'
    cases n'
  rw [<- oth T' hne]; exact n'
theorem flight_none {T : Addr} {fl : Value} {l : List Addr} (f : Fl s.heap a T C d fl) (h : ∀ h', Fl h' a T C d .none -> Kept l [T] s.heap h' -> Q () { s with heap := h' }) : wpAny M A (setFlight (.ref a) none) Q E s := by
  obtain ⟨oe, vs, oT, ts, he, hc, hdi, hd, h1, hTa, hT, hdT, h3⟩ := f
  have hsz : 3 < ts.size := (Array.getElem?_eq_some_iff.mp h3).1
  unfold setFlight
  refine wpAny_bind (wpAny_field he hd h1 ?_)
  rw [if_pos (show (Value.ref T != Value.none) = true from by simp)]
  have oth : ∀ b, b ≠ T -> (s.heap.update T (Obj.mapFields (·.setIfInBounds 3 ((none : Option Addr).elim Value.none fun f => rawInt f)))).get? b = s.heap.get? b := fun b hb => Heap.get?_update_other _ _ hb.symm
  refine wpAny_setField hT hdT hsz (h _ ⟨oe, vs, _, _, (oth a hTa.symm).trans he, hc, hdi, hd, h1, hTa, Heap.get?_update_self _ hT (Obj.isFreed_of_fields (Obj.data_mapFields hdT _)), Obj.data_mapFields hdT _, by simp [hsz]⟩ ?_)
  exact ⟨fun b o e _ n => (oth b fun z => n (by simp [z])).trans e, fun b o e n => ⟨o.slots, (oth b fun z => n (by simp [z])).trans e⟩⟩
theorem leave_first {oe : Obj} {vs : Array Value} (hfr : A.frames = some (env :: outer)) (hl : s.heap.FunFrames base (env :: outer)) (hf : env.frame = some L)
    (he : s.heap.get? a = some oe) (hc : oe.cls = .ref C) (hdi : oe.dict = d) (hd : oe.data = .fields vs) (h1 : vs[1]? = some .none)
    (h : ∀ h' T, s.heap.get? T = none -> Fl h' a T C d .none -> Kept (frs (env :: outer)) [a] s.heap h' -> Q () { s with heap := h' }) : wpAny M A (leaving env (.ref a)) Q E s := by
  unfold leaving
  refine wpAny_bind (note_first hfr hl hf he hc hdi hd h1 fun h' T nT f k => ?_)
  refine flight_none (l := frs (env :: outer)) f fun h2 f2 k2 => h h2 T nT f2 (k.trans k2 fun b o e z => ?_)
  rw [List.mem_singleton.mp z, nT] at e; cases e
theorem leave_on {T : Addr} (hfr : A.frames = some (env :: outer)) (hl : s.heap.FunFrames base (env :: outer)) (hf : env.frame = some L) (f : Fl s.heap a T C d .none)
    (h : ∀ h' T', s.heap.get? T' = none -> Fl h' a T' C d .none -> Kept (frs (env :: outer)) [a, T] s.heap h' -> Q () { s with heap := h' }) : wpAny M A (leaving env (.ref a)) Q E s := by
  unfold leaving
  refine wpAny_bind (note_on hfr hl hf f fun h' T' nT f k => ?_)
  refine flight_none (l := frs (env :: outer)) f fun h2 f2 k2 => h h2 T' nT f2 (k.trans k2 fun b o e z => ?_)
  rw [List.mem_singleton.mp z, nT] at e; cases e
end
section
variable {P : Program} {w : World} {K : Frag} {mg : Str -> Option Value} {base : Heap} {N : List Str} {qual : Str} {scope : Scope} {f : Addr} {cd : Value} {A : Around} {outer : List Env} {s0 s : Shared} {H0 H : Hp} {E : XK} {pins : List (Addr × Obj)} {σ : St}
theorem left_ok {e T C : Addr} {d : Option Addr} {bad : List Addr} {h2 : Heap} (I : Inv (cxOf (CXE P w) P w K mg base N qual scope f cd A outer s0 H0 E) pins σ H s)
    (hb : ∀ b ∈ bad, s0.heap.get? b = none /\ H b = none) (k : Kept (frs (envOfC qual scope s0.heap.objs.size f cd :: outer)) bad s.heap h2) (he : s0.heap.get? e = none) (nT : s.heap.get? T = none) (hH : H e = none)
    (fl : Fl h2 e T C d .none) (q : E (.ref C) d H) : CXE P w outer H0 s0 E (.ref e) { s with heap := h2 } := by
  have mfs : ∀ b, b ∉ frs outer -> b ≠ (envOfC qual scope s0.heap.objs.size f cd).locals -> b ∉ frs (envOfC qual scope s0.heap.objs.size f cd :: outer) := fun b h1 h2 z => by
    rcases List.mem_cons.mp (I.stkSub b z) with z | z
    · exact h2 z
    · exact h1 z
  have bad' : ∀ b ∈ (envOfC qual scope s0.heap.objs.size f cd).locals :: bad, s0.heap.get? b = none /\ H b = none := fun b hm => by
    rcases List.mem_cons.mp hm with z | z
    · rw [z]; exact ⟨Heap.get?_none_of_le (Nat.le_refl _), I.free⟩
    · exact hb b z
  have k2 : ∀ b o, s.heap.get? b = some o -> b ∉ frs outer -> b ∉ (envOfC qual scope s0.heap.objs.size f cd).locals :: bad -> h2.get? b = some o := fun b o e1 n1 n2 =>
    k.1 b o e1 (mfs b n1 fun z => n2 (by rw [z]; exact List.mem_cons_self)) fun z => n2 (List.mem_cons_of_mem _ z)
  have nfs : ∀ b ∈ frs outer, H b = none := fun b hm => I.stkFree b (by
    show b ∈ frs (envOfC qual scope s0.heap.objs.size f cd :: outer)
    unfold frs
    rw [List.filterMap_cons]
    exact List.mem_cons_of_mem _ hm)
  refine ⟨e, T, C, d, H, rfl, I.os, I.bare, un_exc I.base (fun b hm => (bad' b hm).1) k2 (fun b o e1 _ n => k.2 b o e1 fun z => n (List.mem_cons_of_mem _ z)), hok_exc I.hok k2 nfs fun b hm => (bad' b hm).2, he, ?_, ⟨fl, hH, I.hok.fresh' nT⟩, q⟩
  cases z : s0.heap.get? T with
  | none => rfl
  | some o =>
    obtain ⟨o', e'⟩ := I.base.there T o z (by simp [cxOf])
    rw [nT] at e'; cases e'
theorem new_there {a : Addr} (I : Inv (cxOf (CXE P w) P w K mg base N qual scope f cd A outer s0 H0 E) pins σ H s) (n : s.heap.get? a = none) : s0.heap.get? a = none := by
  cases z : s0.heap.get? a with
  | none => rfl
  | some o =>
    obtain ⟨o', e'⟩ := I.base.there a o z (by simp [cxOf])
    rw [n] at e'; cases e'
theorem leave_obj {e C : Addr} {d : Option Addr} {oe : Obj} {vs : Array Value} (I : Inv (cxOf (CXE P w) P w K mg base N qual scope f cd A outer s0 H0 E) pins σ H s)
    (he : s.heap.get? e = some oe) (n0 : s0.heap.get? e = none) (hH : H e = none) (hc : oe.cls = .ref C) (hdi : oe.dict = d) (hd : oe.data = .fields vs) (h1 : vs[1]? = some .none) (q : E (.ref C) d H) :
    (cxOf (CXE P w) P w K mg base N qual scope f cd A outer s0 H0 E).xe (.ref e) s := by
  refine leave_first (L := s0.heap.objs.size) I.ok.frames I.stack rfl he hc hdi hd h1 fun h2 T nT fl k => ?_
  exact left_ok I (fun b hb => by rw [List.mem_singleton.mp hb]; exact ⟨n0, hH⟩) k n0 nT hH fl q
theorem leave_made {e C : Addr} {args : List Value} {h' : Heap} (I : Inv (cxOf (CXE P w) P w K mg base N qual scope f cd A outer s0 H0 E) pins σ H s) (M : Heap.MadeExcOf s.heap h' e (.ref C) args) (q : E (.ref C) none H) :
    (cxOf (CXE P w) P w K mg base N qual scope f cd A outer s0 H0 E).xe (.ref e) { s with heap := h' } := by
  obtain ⟨t, he, _, _⟩ := M.there
  have I' : Inv (cxOf (CXE P w) P w K mg base N qual scope f cd A outer s0 H0 E) pins σ H { s with heap := h' } := I.call' (ch := []) rfl (Un.kept M.keeps) (I.hok.kept M.keeps) I.bare fun b z => absurd z (by simp)
  exact leave_obj I' he (new_there I M.new) (I.hok.fresh' M.new) rfl rfl rfl rfl q
theorem leave_pass {s' : Shared} {e : Value} (I : Inv (cxOf (CXE P w) P w K mg base N qual scope f cd A outer s0 H0 E) pins σ H s) (h : CXE P w (envOfC qual scope s0.heap.objs.size f cd :: outer) H s E e s') :
    (cxOf (CXE P w) P w K mg base N qual scope f cd A outer s0 H0 E).xe e s' := by
  obtain ⟨a, T, C, d, H', rfl, os, bare, un, hok, na, nT, ⟨fl, ha, hT⟩, q⟩ := h
  have I' : Inv (cxOf (CXE P w) P w K mg base N qual scope f cd A outer s0 H0 E) pins σ H' s' := I.call' (ch := []) os un hok bare fun b z => absurd z (by simp)
  refine leave_on (L := s0.heap.objs.size) I'.ok.frames I'.stack rfl fl fun h2 T' nT' fl' k => ?_
  refine left_ok I' (fun b hb => ?_) k (new_there I na) nT' ha fl' q
  rcases List.mem_cons.mp hb with z | z
  · rw [z]; exact ⟨new_there I na, ha⟩
  · rw [List.mem_singleton.mp z]; exact ⟨new_there I nT, hT⟩
theorem passes_cx : Passes (CXE P w) (cxOf (CXE P w) P w K mg base N qual scope f cd A outer s0 H0 E) E := fun _ _ _ _ _ _ I h => leave_pass I h
end
end L2
namespace L2
open PySem PySem.Spec PyProof.Rows KM
section
variable {prog : Program} {w : World} {A : Around} {E : Value -> Shared -> Prop} {h : Heap} {g : Array GenState} {d : Drawn} {t : Nat} {os : OsState} {a C : Addr} {oe : Obj} {od : Option Obj} {K : Frag} {name : Str}
theorem exc_check {M : Model} {nv : Value} {Q : Unit -> Shared -> Prop} (X : K.In h) (I : PySem.W.InstAt h a oe C od) (hb : PySem.W.mroIn K C (.type "BaseException") = some true) (hq : Q () ⟨h, g, d, t, os⟩) :
    wpAny M A (checkBuiltinCall "BaseException.__getattribute__" ⟨[.ref a, nv], []⟩) Q E ⟨h, g, d, t, os⟩ := by
  have hk : builtinKind "BaseException.__getattribute__" = some .slot := by decide +kernel
  have hs : splitId "BaseException.__getattribute__" = some ("BaseException", "__getattribute__") := by decide +kernel
  have L0 := I.type (M := M)
  have L1 := PySem.W.looks_mroIn (M := M) X hb
  have LI : PySem.W.Looks M h (isInstance (.ref a) (.type "BaseException")) true := L0.andThen L1
  have ha := F.args_bexc_ga (.ref a) nv
  simp only [checkBuiltinCall, hk, hs]
  refine wpAny_bind (LI.at ?_)
  repeat (first | assumption | wp_step)
theorem exc_entry_bind {tk : Tok} {gt at' v : Value} {Q : Fin -> Shared -> Prop} (X : K.In h) (I : PySem.W.InstAt h a oe C od) (hf : PySem.W.findObj K C od name = some (.bind gt at'))
    (hc : ∀ (A : Around) (R : Result -> Shared -> Prop) (s : Shared), s.heap = h -> R (.ok (.ret v)) s -> codeAny (model prog w) A (.call gt ⟨[at', .ref a, .ref C], []⟩) R s) (hq : Q (.done (.ret v)) ⟨h, g, d, t, os⟩) :
    wpAny (model prog w) A (Builtin.«object.__getattribute__» ⟨[.ref a, .str name tk], []⟩) Q E ⟨h, g, d, t, os⟩ := by
  have L0 := I.type (M := model prog w)
  have L1 := PySem.W.looks_find (M := model prog w) X I hf
  unfold Builtin.«object.__getattribute__»
  repeat (first | with_reducible refine L0.at ?_ | with_reducible refine L1.at ?_ | wp_step)
  refine hc _ _ _ rfl ?_
  repeat (first | assumption | wp_step)
structure ExcGet (K : Frag) (C : Addr) : Prop where
  ga : PySem.W.findIn K (.ref C) "__getattribute__" = some (some (.builtin "BaseException.__getattribute__"))
  no : PySem.W.findIn K (.ref C) "__getattr__" = some none
  base : PySem.W.mroIn K C (.type "BaseException") = some true
theorem exc_by {tk : Tok} {fill expr : Bool} {v : Value} {Q : Value -> Shared -> Prop} (X : K.In h) (I : PySem.W.InstAt h a oe C od) (G : ExcGet K C)
    (hc : ∀ (A : Around) (Q : Fin -> Shared -> Prop) (E : Value -> Shared -> Prop), Q (.done (.ret v)) ⟨h, g, d, t, os⟩ -> wpAny (model prog w) A (Builtin.«object.__getattribute__» ⟨[.ref a, .str name tk], []⟩) Q E ⟨h, g, d, t, os⟩)
    (hv : PySem.W.handedIn v = true) (hq : Q v ⟨h, g, d, t, os⟩) : wpAny (model prog w) A (getAttrBy (.ref a) (.str name tk) fill expr) Q E ⟨h, g, d, t, os⟩ := by
  have L0 := I.type (M := model prog w)
  have L1 := PySem.W.looks_findIn (M := model prog w) X G.ga
  have L2 := PySem.W.looks_findIn (M := model prog w) X G.no
  have FB := F.excAttr_ValueError
  have f3 := FB.ga.bind (.ref a)
  have hx0 : (expr && onTheHeap (Value.builtin "BaseException.__getattribute__")) = false := by cases expr <;> rfl
  have hx2 : (Value.builtin "BaseException.__getattribute__" == Value.builtin "object.__getattribute__") = false := by decide +kernel
  have hx1 : (onTheHeap (Value.ref C) && Value.builtin "BaseException.__getattribute__" == Value.builtin "object.__getattribute__") = false := by rw [hx2]; rfl
  unfold getAttrBy getAttrByItsOwn hookBefore
  repeat (first | with_reducible refine L0.at ?_ | with_reducible refine L1.at ?_ | with_reducible refine L2.at ?_ | assumption | wp_step)
  refine codeAny_call_builtin FB.ga.plain F.entry_bexc_ga (exc_check X I G.base (hc _ _ _ ?_))
  exact PySem.W.handed_on hv hq
theorem exc_isType {K : Frag} {C : Addr} {M : Model} {h : Heap} (X : K.In h) {t : Value} (z : PySem.W.mroIn K C t = some true) : PySem.W.Looks M h (isType (.ref C)) true := by
  unfold PySem.W.mroIn PySem.W.clsIn at z
  split at z
  · rename_i c' d' cd' sl' ho
    intro A' Q' E' s' k q
    unfold isType loadHead
    exact wpAny_bind (wpAny_loadPart (k _ _ (X _ _ ho)) (wpAny_pure q))
  · cases z
structure ExcCls (K : Frag) (C : Addr) : Prop extends ExcGet K C where
  cl : PySem.W.findIn K (.ref C) "__class__" = some (some (.builtin "object.__class__"))
  gt : PySem.W.specialIn K (.builtin "object.__class__") "__get__" = some (some (.builtin "getset_descriptor.__get__"))
  tk : PySem.W.takesIn K (.builtin "object.__class__") = some true
  ob : PySem.W.mroIn K C (.type "object") = some true
theorem exc_class {Q : Option Value -> Shared -> Prop} (X : K.In h) (I : PySem.W.InstAt h a oe C od) (G : ExcCls K C) (hq : Q (some (.ref C)) ⟨h, g, d, t + 1, os⟩) :
    wpAny (model prog w) A (getAttr? (.ref a) "__class__") Q E ⟨h, g, d, t, os⟩ := by
  have hcl : (PySem.W.clsIn K C).isSome = true := by
    have z := G.ob
    unfold PySem.W.mroIn at z
    cases q : PySem.W.clsIn K C with
    | none => rw [q] at z; cases z
    | some _ => rfl
  have hf : PySem.W.findObj K C od "__class__" = some (.bind (.builtin "getset_descriptor.__get__") (.builtin "object.__class__")) := by
    obtain ⟨cd, hc⟩ := Option.isSome_iff_exists.mp hcl
    unfold PySem.W.findObj
    rw [hc, Option.bind_some, G.cl, Option.bind_some]
    simp [G.gt, G.tk]
  unfold getAttr? getAttrBy?
  refine wpAny_bind (wpAny_mkText (wpAny_bind (wpAny_attempt ?_)))
  refine exc_by (v := .ref C) X I G.toExcGet (fun A Q E q => exc_entry_bind X I hf (fun A R s e r => ?_) q) rfl ?_
  · obtain ⟨hh, gg, dd, tt, oo⟩ := s
    cases e
    exact PySem.W.class_get X I G.ob r
  · exact wpAny_pure hq
theorem kitx_exc (G : ExcCls K C) : PySem.W.KitX K (.ref a) (.ref C) (fun h => PySem.W.InstAt h a oe C od) where
  ty := fun _ _ _ I => I.type
  it := fun _ _ X _ => by
    have z := G.ob
    unfold PySem.W.mroIn PySem.W.clsIn at z
    split at z
    · rename_i c' d' cd' sl' ho
      intro A' Q' E' s' k q
      unfold isType loadHead
      exact wpAny_bind (wpAny_loadPart (k _ _ (X _ _ ho)) (wpAny_pure q))
    · cases z
  ne := fun h tp dd its n sl X htp => by
    have z := G.ob
    refine Bool.eq_false_iff.mpr fun q => ?_
    have e : C = tp := Value.ref.inj (beq_iff_eq.mp q)
    subst e
    unfold PySem.W.mroIn PySem.W.clsIn at z
    split at z
    · rename_i c' d' cd' sl' ho
      have z := (X _ _ ho).symm.trans htp
      cases z
    · cases z
  ca := fun {_ _ _ _ _ s} X I k => by
    obtain ⟨hh, gg, dd, tt, oo⟩ := s
    exact exc_class X I G k
end
end L2
namespace L2
open PySem PySem.Spec PyProof.Rows KM
def isaE (x y : Str) : Bool := x == y || y == "HatError" || (y == "LineError" && (x == "NoLine" || x == "Twice" || x == "Unknown" || x == "TooMany"))
def hasIn (x : Str) : Bool := x == "LineError" || x == "NoLine" || x == "Twice" || x == "Unknown" || x == "TooMany"
def vmro : List Value := [.type "ValueError", .type "Exception", .type "BaseException", .type "object"]
def errOne (K : Frag) (C : Addr) : Bool :=
  PySem.W.findIn K (.ref C) "__getattribute__" == some (some (.builtin "BaseException.__getattribute__")) && PySem.W.findIn K (.ref C) "__getattr__" == some none && PySem.W.mroIn K C (.type "BaseException") == some true &&
  PySem.W.findIn K (.ref C) "__class__" == some (some (.builtin "object.__class__")) && PySem.W.specialIn K (.builtin "object.__class__") "__get__" == some (some (.builtin "getset_descriptor.__get__")) &&
  PySem.W.takesIn K (.builtin "object.__class__") == some true && PySem.W.mroIn K C (.type "object") == some true && PySem.W.typeIn K (.ref C) == some (.type "type") && PySem.W.kitOne K (.ref C) (.type "ValueError") == some true
def errOk (K : Frag) (names : List Str) (er : Str -> Addr) : Bool :=
  names.all fun x => PySem.W.nsIn K mainGlobals x == some (some (.ref (er x))) && errOne K (er x) && (hasIn x || PySem.W.excIn K (er x) vmro "ValueError.__new__") &&
    names.all fun y => PySem.W.kitOne K (.ref (er x)) (.ref (er y)) == some (isaE x y) && PySem.W.mroIn K (er x) (.ref (er y)) == some (isaE x y)
structure ErrT (K : Frag) (mg : Str -> Option Value) (names : List Str) (er : Str -> Addr) : Prop where
  gl : ∀ x ∈ names, mg x = some (.ref (er x))
  cls : ∀ x ∈ names, ExcCls K (er x)
  ty : ∀ x ∈ names, PySem.W.typeIn K (.ref (er x)) = some (.type "type")
  val : ∀ x ∈ names, PySem.W.kitOne K (.ref (er x)) (.type "ValueError") = some true
  own : ∀ x ∈ names, hasIn x = false -> PySem.W.excIn K (er x) vmro "ValueError.__new__" = true
  isi : ∀ x ∈ names, ∀ y ∈ names, PySem.W.kitOne K (.ref (er x)) (.ref (er y)) = some (isaE x y)
  mat : ∀ x ∈ names, ∀ y ∈ names, PySem.W.mroIn K (er x) (.ref (er y)) = some (isaE x y)
theorem errT_of {K : Frag} {h : Heap} {mg : Str -> Option Value} {names : List Str} {er : Str -> Addr} (X : K.In h) (G : h.Ns mainGlobals mg) (e : errOk K names er = true) : ErrT K mg names er := by
  have z : ∀ x ∈ names, _ := List.all_eq_true.mp e
  simp only [Bool.and_eq_true, Bool.or_eq_true, beq_iff_eq, errOne, List.all_eq_true] at z
  refine ⟨fun x hx => PySem.W.mg_of X G (z x hx).1.1.1, fun x hx => ?_, fun x hx => (z x hx).1.1.2.1.2, fun x hx => (z x hx).1.1.2.2, fun x hx hn => ?_, fun x hx y hy => ((z x hx).2 y hy).1, fun x hx y hy => ((z x hx).2 y hy).2⟩
  · obtain ⟨⟨⟨_, ⟨⟨⟨⟨⟨⟨⟨⟨a, b⟩, c⟩, d⟩, e⟩, f⟩, g⟩, _⟩, _⟩⟩, _⟩, _⟩ := z x hx
    exact ⟨⟨a, b, c⟩, d, e, f, g⟩
  · rcases (z x hx).1.2 with q | q
    · rw [hn] at q; cases q
    · exact q
section
variable {K : Frag} {h : Heap} {C : Addr} {bmB : List Value} {newId : String}
theorem own_obj (X : K.In h) (q : PySem.W.excIn K C bmB newId = true) :
    ∃ bm N nm qn bs hdct sn sub ab col dd k0 k1 k2 k3 k5 mN, h.get? C = some (excClassObj nm qn C N bs bm hdct sn sub ab col dd k0 k1 k2 k3 k5 newId) /\ h.Ns N mN /\ mN "__init__" = none /\ OwnTail h bmB bm := by
  unfold PySem.W.excIn at q
  split at q
  next dd cd sl ho =>
    split at q
    next C' bm k0 k1 k2 k3 n k5 hm hs =>
      simp only [Bool.and_eq_true, beq_iff_eq, Bool.not_eq_true'] at q
      obtain ⟨⟨⟨⟨⟨q1, q2⟩, q3⟩, q4⟩, q5⟩, q6⟩ := q
      subst q1 q2
      obtain ⟨nm, bs, mro, ns, qn, hd, sn, sub, ab, col, del⟩ := cd
      dsimp only at hm q3 q5 q6
      subst hm q3
      have e : sl = #[k0, k1, k2, k3, some (.builtin n), k5] := by
        cases sl with
        | mk l => dsimp only at hs; subst hs; rfl
      subst e
      exact ⟨bm, ns, nm, qn, bs, hd, sn, sub, ab, col, dd, k0, k1, k2, k3, k5, _, X _ _ ho, Heap.Ns.of_isNs (PySem.W.isNs_of_in X q5), PySem.W.nsMap_none_of_in X q5 q6, PySem.W.tail_of_in X q4⟩
    next => cases q
  next => cases q
end
def Raises (X : Cx) (E : XK) : Prop := ∀ (pins : List (Addr × Obj)) (σ : St) (H : Hp) (s : Shared) (e C : Addr) (args : List Value) (h' : Heap), Inv X pins σ H s -> Heap.MadeExcOf s.heap h' e (.ref C) args -> E (.ref C) none H -> X.xe (.ref e) { s with heap := h' }
def tRaise (E : XK) (C : Addr) (t : TA) : TS := fun _ σ H => t σ H fun vs H1 => vs.length <= sizeLine /\ E (.ref C) none H1
section
variable {X : Cx} {E : XK} {x : Str} {C : Addr} {np cpos pos : Pos} {e : Expr} {es : List Expr} {t : TA}
theorem ps_raise (hc : X.calm = true) (hx : Raises X E) (hg : Gl X x) (hm : X.mg x = some (.ref C)) (ho : PySem.W.excIn X.K C vmro "ValueError.__new__" = true) (ha : PA X (e :: es) t)
    (hdb : (x == ("__debug__" : Str)) = false := by decide) (he : starEach (e :: es) X.env = (false, eval e X.env) :: starEach es X.env := by rfl) (hpl : (backTo cpos (starEach es X.env)).any (·.1) = false := by rfl) :
    PS X (.Raise (some (.Call (.Name x np) (e :: es) [] cpos)) none pos) (tRaise E C t) := by
  intro pins s σ H D I h
  have FB : ExcBaseFacts "ValueError" "ValueError.__new__" "ValueError.__init__" vmro := PySem.F.excBase_ValueError
  obtain ⟨bm, N, nm, qn, bs, hdct, sn, sub, ab, col, dd, k0, k1, k2, k3, k5, mN, hC, hN, hni, T⟩ := own_obj I.ok.mod.kin ho
  refine wpAny_Raise_call_subT (C := C) (nm := nm) (q := qn) (N := N) (bs := bs) (bm := bm) (hdct := hdct) (sn := sn) (sub := sub) (ab := ab) (col := col) (dd := dd) (k0 := k0) (k1 := k1) (k2 := k2) (k3 := k3) (k5 := k5)
    FB (mN := mN) (T.hasType FB.hasBase) (I.ok.hd hc) ?_ hni (ld_glob I hg hm ⟨rfl, ?_⟩ hdb)
  · rw [he]
    show (false || (backTo cpos (starEach es X.env)).any (·.1)) = false
    rw [hpl]; rfl
  · have z := ha cpos pins s σ H _ I h
    rw [he] at z ⊢
    refine Calls.evalArgs_plain (thn z fun us s1 ⟨vs, H1, I1, r, hl, q⟩ => ?_)
    exact ⟨rfl, by rw [<- r.length]; exact hl, I1.bk _ _ hC, hN.keeps I1.bk, T.keeps I1.bk, fun h' a M => hx _ _ _ _ _ _ _ _ I1 M q⟩
end
end L2
namespace L2
open PySem PySem.Spec PyProof.Rows KM
theorem exc_match {M : Model} {A : Around} {E : Value -> Shared -> Prop} {K : Frag} {h : Heap} {g : Array GenState} {d : Drawn} {t : Nat} {os : OsState} {a C D : Addr} {oe : Obj} {b : Bool} {Q : Bool -> Shared -> Prop} (X : K.In h)
    (he : h.get? a = some oe) (hc : oe.cls = .ref C) (hD : PySem.W.typeIn K (.ref D) = some (.type "type")) (GD : ExcCls K D) (hs : PySem.W.mroIn K C (.ref D) = some b) (hq : Q b ⟨h, g, d, t, os⟩) :
    wpAny M A (excMatches (.ref a) (.ref D)) Q E ⟨h, g, d, t, os⟩ := by
  have L0 : PySem.W.Looks M h (typeOf (.ref a)) (.ref C) := hc ▸ (PySem.W.Looks.ld he).andThen .now
  have L1 := PySem.W.looks_typeIn (M := M) X hD
  have L2 := PySem.W.looks_mroIn (M := M) X GD.base
  have L3 := PySem.W.looks_mroIn (M := M) X hs
  have L4 : PySem.W.Looks M h (isType (.ref D)) true := exc_isType X GD.base
  have f := tc_notTuple
  unfold excMatches isExcClass isInstance
  repeat (first | with_reducible refine L0.at ?_ | with_reducible refine L1.at ?_ | with_reducible refine L2.at ?_ | with_reducible refine L3.at ?_ | with_reducible refine L4.at ?_ | wp_step)
  all_goals (cases b <;> first | exact hq | (wp_walk; exact hq))
section
variable {P : Program} {w : World} {K : Frag} {mg : Str -> Option Value} {base : Heap} {k : Nat} {x : Str} {N ps G : List Str} {sp : Sp} {st : Stmt}
theorem DS.cxE {CX : CXT} {sc : Scope} {q : Str} {f : Addr} {cdv : Value} {A : Around} {outer : List Env} {s : Shared} {H : Hp} {E : XK} (D : DS sc N ps G) : Sc (cxOf CX P w K mg base N q sc f cdv A outer s H E) N N G :=
  ⟨rfl, D.fs.nd, fun x hx => visB_of (D.vis x hx), fun x hx => ⟨D.loc x hx, .inl rfl⟩, fun x hx => glB_of (D.gl x hx)⟩
def Own (X : Cx) : Prop := X.stack = X.env :: X.outer /\ X.env.frame = some X.env.locals
end
section
variable {X : Cx} {N W G : List Str} {k m : Nat} {x : Str} {ps : List Str} {sp : Sp} {p pos : Pos} {e : Expr} {es : List Expr} {t : TA} {E : XK}
theorem sraise {C : Addr} {np cpos : Pos} (S : Sc X N W G) (g : Nat) (hc : X.calm = true) (hx : Raises X E) (hm : X.mg x = some (.ref C)) (ho : PySem.W.excIn X.K C vmro "ValueError.__new__" = true) (ha : QB X (e :: es) t) (hg : G[g]? = some x := by rfl) :
    QS X (.Raise (some (.Call (.Name x np) (e :: es) [] cpos)) none pos) (tRaise E C t) := by
  have q := S.gl x (List.mem_of_getElem? hg)
  exact ⟨ps_raise hc hx q.1 hm ho ha.h.pa q.2.1 (zj8 ha.h.he) (plain_of ha.h.hes)⟩
end
abbrev TEx := St -> Hp -> VK -> XK -> Prop
abbrev TSx := Ends -> (St -> XK) -> St -> Hp -> Prop
def XP (X : Cx) (pins : List (Addr × Obj)) (W : St -> XK) (e : Value) (s' : Shared) : Prop := ∃ σ' H0 s0, Inv X pins σ' H0 s0 /\ CXE X.prog X.w X.stack H0 s0 (W σ') e s'
structure QEx (X : Cx) (e : Expr) (t : TEx) : Prop where
  h : ∀ (pins : List (Addr × Obj)) (s : Shared) (σ : St) (H : Hp) (Q : VK) (E : XK), Inv X pins σ H s -> t σ H Q E -> wpAny (model X.prog X.w) X.A (eval e X.env) (EP X pins σ Q) (fun x s' => ∃ H0 s0, Inv X pins σ H0 s0 /\ CXE X.prog X.w X.stack H0 s0 E x s') s
structure QSx (X : Cx) (st : Stmt) (t : TSx) : Prop where
  h : ∀ (pins : List (Addr × Obj)) (s : Shared) (σ : St) (H : Hp) (D : Ends) (W : St -> XK), Inv X pins σ H s -> t D W σ H -> wpAny (model X.prog X.w) X.A (exec st X.env) (SP X pins D) (XP X pins W) s
structure QSsx (X : Cx) (st : List Stmt) (t : TSx) : Prop where
  h : ∀ (pins : List (Addr × Obj)) (s : Shared) (σ : St) (H : Hp) (D : Ends) (W : St -> XK), Inv X pins σ H s -> t D W σ H -> wpAny (model X.prog X.w) X.A (execs st X.env) (SP X pins D) (XP X pins W) s
def tAsgX (te : TEx) (g : TG) : TSx := fun D W σ H => te σ H (fun x H1 => g x σ H1 D.nx) (W σ)
def tIfX (c : TT) (t u : TSx) : TSx := fun D W σ H => c σ H fun b H1 => if b = true then t D W σ H1 else u D W σ H1
def tSeqX (t u : TSx) : TSx := fun D W σ H => t { D with nx := u D W } W σ H
def tOfX (t : TS) : TSx := fun D _ σ H => t D σ H
section
variable {X : Cx} {N W G : List Str} {k m : Nat} {x : Str} {ps : List Str} {sp : Sp} {p pos pos' : Pos} {e c : Expr} {es : List Expr} {t : TA} {te : TEx} {tc : TT} {u v : TSx} {st : Stmt} {sts l l' : List Stmt}
theorem xset (S : Sc X N W G) (i : Nat) (he : QEx X e te) (h : N[i]? = some x := by rfl) (hw : W[i]? = some x := by rfl) (hs : swapsWith e (some (.Name x pos')) pos.line X.env = pure false := by rfl) :
    QSx X (.Assign [.Name x pos'] e pos) (tAsgX te (gName i)) := by
  have q := S.sto x (List.mem_of_getElem? hw)
  refine ⟨fun pins s σ H D W I z => wpAny_Assign_Name (wpAny_mono (he.h pins s σ H _ _ I z) (fun v s1 ⟨y, H1, I1, r1, q1⟩ => ?_) fun x s' ⟨H0, s0, I0, z⟩ => ⟨σ, H0, s0, I0, z⟩) hs⟩
  exact store_ok I1 (by rw [S.eN]; exact S.nd) (by rw [S.eN]; exact h) q.1 r1 (fun s2 I2 => ⟨_, H1, I2, q1⟩) q.2
theorem xif (hxe : X.xe = fun _ _ => False) (hc : QT X c tc) (ha : QSsx X l u) (hb : QSsx X l' v) : QSx X (.If c l l' pos) (tIfX tc u v) := by
  refine ⟨fun pins s σ H D W I h => wpAny_If (wpAny_mono (hc.h pins s σ H _ I h) (fun d s1 ⟨H1, I1, q1⟩ => ?_) fun x s' z => by rw [hxe] at z; exact z.elim)⟩
  cases d with
  | true => exact ha.h pins s1 σ H1 D W I1 q1
  | false => exact hb.h pins s1 σ H1 D W I1 q1
theorem xof (hxe : X.xe = fun _ _ => False) {t : TS} (h : QS X st t) : QSx X st (tOfX t) :=
  ⟨fun pins s σ H D W I q => wpAny_mono (h.h pins s σ H D I q) (fun _ _ z => z) fun x s' z => by rw [hxe] at z; exact z.elim⟩
theorem xs_one (h1 : QSx X st u) : QSsx X [st] u := by
  refine ⟨fun pins s σ H D W I h => wpAny_execs_cons (thn (h1.h pins s σ H D W I h) fun f s1 q => ?_)⟩
  cases f with
  | next => exact wpAny_execs_nil q
  | ret v => exact q
  | brk => exact q
  | cont => exact q
theorem xs_cons (h1 : QSx X st u) (h2 : QSsx X sts v) : QSsx X (st :: sts) (tSeqX u v) := by
  refine ⟨fun pins s σ H D W I h => wpAny_execs_cons (thn (h1.h pins s σ H { D with nx := v D W } W I h) fun f s1 q => ?_)⟩
  cases f with
  | next =>
    obtain ⟨σ', H', I', q⟩ := q
    exact h2.h pins s1 σ' H' D W I' q
  | ret v => exact q
  | brk => exact q
  | cont => exact q
end
end L2
namespace L2
open PySem PySem.Spec PyProof.Rows KM
section
variable {X : Cx} {pins : List (Addr × Obj)} {σ : St} {H : Hp} {s : Shared}
theorem goes_ok {M : Model} {A : Around} {E : Value -> Shared -> Prop} {i : Nat} {x : Str} {pos : Pos} {Q : Unit -> Shared -> Prop} (I : Inv X pins σ H s) (hN : X.N.Nodup) (hi : X.N[i]? = some x) (hk : X.env.kindOf x = some .local)
    (h : ∀ s', Inv X pins (σ.set i none) H s' -> Q () s') : wpAny M A (do bindName X.env x .none; unbindBehindTheSuite X.env x pos) Q E s := by
  obtain ⟨m, hn, hl⟩ := id I.loc
  have hcls : (X.env.scope.kind == .class || (X.env.scope.kind == .module && X.env.locals != X.env.globals)) = false := by rw [I.ok.kind]; rfl
  refine wpAny_nameGoes_keeps hk hn hcls fun h' v hn' hs => h _ ?_
  have ab : ∀ b o, X.s₀.heap.get? b = some o -> b ≠ X.env.locals := fun b o e => Nat.ne_of_lt (Nat.lt_of_lt_of_le (Heap.lt_size e) I.ok.above)
  refine ⟨I.ok, I.os, I.bare, ⟨fun b o e n hb hx => (hs.2 b (ab b o e)).trans (I.base.keep b o e n hb hx), fun b o e n hb hx => ?_, I.base.free, fun b o e hx => ?_, I.base.tups, I.base.frzs, I.base.tbls⟩,
    ⟨_, hn', fun j y v' e1 e2 e3 => ?_⟩, fun y c e => ?_, I.free, I.freeC, fun p hp => ?_, fun b ob e => ?_, by simpa using I.len⟩
  · obtain ⟨sl, e1⟩ := I.base.slot b o e n hb hx
    exact ⟨sl, (hs.2 b (ab b o e)).trans e1⟩
  · obtain ⟨o', e1⟩ := I.base.there b o e hx
    exact ⟨o', (hs.2 b (ab b o e)).trans e1⟩
  · by_cases hj : j = i
    · subst hj
      rw [List.getElem?_set_self (by rw [I.len]; exact (List.getElem?_eq_some_iff.mp hi).1)] at e2
      cases e2
    · rw [List.getElem?_set_ne (Ne.symm hj)] at e2
      obtain ⟨u', r', q⟩ := hl j y v' e1 e2 e3
      refine ⟨u', r', ?_⟩
      rcases q with ⟨k, e⟩ | ⟨k, c, e, z⟩
      · have : y ≠ x := fun e => hj (nodup_ix hN e1 (e ▸ hi))
        exact .inl ⟨k, by simp [this, e]⟩
      · exact .inr ⟨k, c, e, z.sameBut hs (I.cne y c e)⟩
  · obtain ⟨w', z⟩ := I.cell y c e
    exact ⟨w', z.sameBut hs (I.cne y c e)⟩
  · obtain ⟨e, n, ne, nf, d⟩ := I.pin p hp
    exact ⟨(hs.2 p.1 ne).trans e, n, ne, nf, d⟩
  · refine (I.hok b ob e).stay (fun c w' hc q => (hs.2 c ?_).trans q) (fun _ q => q) fun _ _ q => q
    rintro rfl
    rcases hc with rfl | hc
    · rw [I.free] at e; cases e
    · rw [I.free] at hc; cases hc
end
def Cx.held (X : Cx) (a : Addr) : Cx := { X with A := X.A.mark (some (.ref a)), calm := false }
section
variable {X : Cx} {pins : List (Addr × Obj)} {σ : St} {H : Hp} {s : Shared} {a : Addr} {o : Obj}
theorem Inv.held (I : Inv X pins σ H s) (a : Addr) : Inv (X.held a) pins σ H s :=
  ⟨⟨I.ok.mod, I.ok.kind, I.ok.glob, I.ok.blt, I.ok.above, I.ok.inj, I.ok.has, I.ok.cab, (fun z => by cases z), I.ok.frames, I.ok.stk, I.ok.exf, I.ok.bs, I.ok.bsz, I.ok.noex, I.ok.exfs, I.ok.funs, I.ok.frf⟩, I.os, I.bare, I.base, I.loc, I.cell, I.free, I.freeC, I.pin, I.hok, I.len⟩
def ErrO (o : Obj) (C : Addr) (d : Option Addr) : Prop := o.cls = .ref C /\ o.dict = d /\ ∃ vs, o.data = .fields vs
end
end L2
namespace L2
open PySem PySem.Spec PyProof.Rows KM
def ErrV (H : Hp) : Option Addr -> Prop
  | none => True
  | some dx => ∃ fs, H dx = some (.xd fs)
section
variable {X : Cx} {N W G names : List Str} {er : Str -> Addr} {x y : Str} {a : Addr} {o : Obj} {d : Option Addr} {pos : Pos}
theorem kcl (S : Sc X N W G) (g : Nat) (ER : ErrT X.K X.mg names er) (hy : y ∈ names) (hg : G[g]? = some y := by rfl) : QE X (.Name y pos) (tC (.ref (er y))) := by
  have q := S.gl y (List.mem_of_getElem? hg)
  exact ⟨pe_glob q.1 (ER.gl y hy) rfl q.2.1⟩
end
section
variable {a : Addr} {d : Option Addr} {c : V} {b : Bool} {H : Hp} {Q : VK} {σ : St} {E : XK} {C : Addr} {t : TA} {D : Ends}
theorem q_errN : ErrV H none = True := rfl
theorem q_raise : tRaise E C t D σ H = t σ H fun vs H1 => vs.length <= sizeLine /\ E (.ref C) none H1 := rfl
theorem q_asgX {te : TEx} {g : TG} {W : St -> XK} : tAsgX te g D W σ H = te σ H (fun x H1 => g x σ H1 D.nx) (W σ) := rfl
theorem q_ifX {c : TT} {u v : TSx} {W : St -> XK} : tIfX c u v D W σ H = c σ H fun b H1 => if b = true then u D W σ H1 else v D W σ H1 := rfl
theorem q_seqX {u v : TSx} {W : St -> XK} : tSeqX u v D W σ H = u { D with nx := v D W } W σ H := rfl
theorem q_ofX {u : TS} {W : St -> XK} : tOfX u D W σ H = u D σ H := rfl
end
end L2
namespace L2
open PySem PySem.Spec PyProof.Rows KM
theorem boot_ValueError : bootBuiltins "ValueError" = some (.type "ValueError") := by decide +kernel
end L2
namespace L2
open PySem PySem.Spec PyProof.Rows KM
theorem dt_bls {K : Frag} {H : Hp} : ∀ bs : List Bool, DtAll K H (bs.map V.bl) (bs.map PyData.bool)
  | [] => .nil
  | b :: bs => .cons (.bl b) (dt_bls bs)
end L2
namespace L2
open PySem PySem.Spec PyProof.Rows KM
theorem noFill_tuple_mul : fillsNumberSlot (.type "tuple") "mul" = pure false := by
  first | (unfold fillsNumberSlot; kernel_rfl) | kernel_rfl
theorem repeat_tuple : seqRepeat? (.type "tuple") = pure (some (.builtin "tuple.__mul__")) := by
  first | (unfold seqRepeat?; kernel_rfl) | kernel_rfl
theorem rmul_tuple (a : Int) (t : Tok) (l : Addr) (dd : Option Addr) (items : Array Value) (n : Nat) (sl : Array (Option Value)) :
    Meets (Builtin.«int.__rmul__» ⟨[.int a t, .ref l], []⟩) (fun _ R s => s.heap.get? l = some ⟨.type "tuple", dd, .seq items n, sl⟩ /\ R (.ok (.ret Value.notImplemented)) s) :=
  .of_wp fun prog w A R s h => by obtain ⟨hp, g, d, tk, os⟩ := s; obtain ⟨hl, h⟩ := h; wp_walk; exact ⟨_, rfl, h⟩
section
variable {k : Int} (t : Tok) (l : Addr) (dd : Option Addr) (it : Value) (n : Nat) (sl : Array (Option Value))
theorem fold_one (m : Nat) : List.foldl (fun x1 x2 => x1 ++ x2) #[] (List.replicate m #[it]) = (List.replicate m it).toArray := by
  have : ∀ (m : Nat) (a : List Value), List.foldl (fun x1 x2 => x1 ++ x2) a.toArray (List.replicate m #[it]) = (a ++ List.replicate m it).toArray := by
    intro m
    induction m with
    | zero => intro a; simp
    | succ m ih =>
      intro a
      rw [List.replicate_succ, List.foldl_cons, show a.toArray ++ #[it] = (a ++ [it]).toArray from by simp, ih, List.append_assoc]
      simp [List.replicate_succ]
  simpa using this m []
theorem mul_tuple (h1 : 1 < k) (h2 : k <= 1000) :
    Meets (Builtin.«tuple.__mul__» ⟨[.ref l, .int k t], []⟩) (fun _ R s => s.heap.get? l = some ⟨.type "tuple", dd, .seq #[it] n, sl⟩ /\ R (.ok (.ret (.ref s.heap.objs.size))) { s with heap := s.heap.push { cls := .type "tuple", data := .seq (List.replicate k.toNat it).toArray } }) :=
  .of_wp fun prog w A R s h => by
    obtain ⟨hp, g, d, tk, os⟩ := s; obtain ⟨hl, h⟩ := h
    have c0 : (decide (k < -(2 ^ 63)) || decide (k ≥ 2 ^ 63)) = false := by rw [decide_eq_false (by omega), decide_eq_false (by omega)]; rfl
    have c1 : ((#[it] : Array Value).isEmpty || k == 1) = false := by rw [show (k == 1) = false from beq_eq_false_iff_ne.mpr (by omega)]; rfl
    have c2 : (decide (k <= 0) || (#[it] : Array Value).isEmpty) = false := by rw [decide_eq_false (by omega)]; rfl
    have c3 : ¬ (((#[it] : Array Value).size : Int) * k > (2 ^ 63 - 1) / 8) := by show ¬ ((1 : Int) * k > _); omega
    have sl : (sizeLine : Int) ≥ 1000 := by decide
    have c4 : Builtin.Tuple.tupleTooMany (((#[it] : Array Value).size : Int) * k) = false := by
      unfold Builtin.Tuple.tupleTooMany
      exact decide_eq_false (by show ¬ ((1 : Int) * k > _); omega)
    have hsz : (List.replicate k.toNat it).toArray.size <= sizeLine := by rw [List.size_toArray, List.length_replicate]; omega
    unfold Builtin.«tuple.__mul__»
    k_delta "repeated"
    wp_walk
    rw [if_neg (by rw [c0]; exact Bool.false_ne_true)]
    wp_walk
    rw [if_neg (by rw [c1]; exact Bool.false_ne_true)]
    wp_walk
    rw [if_neg (by rw [c2]; exact Bool.false_ne_true)]
    rw [if_neg c3, if_neg (by rw [c4]; exact Bool.false_ne_true), fold_one]
    unfold Builtin.Tuple.tupleExact
    refine wpAny_bind (wpAny_newObj_type ?_ hsz)
    exact wpAny_pure ⟨_, rfl, h⟩
theorem mul_tuple1 :
    Meets (Builtin.«tuple.__mul__» ⟨[.ref l, .int 1 t], []⟩) (fun _ R s => s.heap.get? l = some ⟨.type "tuple", dd, .seq #[it] n, sl⟩ /\ R (.ok (.ret (.ref l))) s) :=
  .of_wp fun prog w A R s h => by
    obtain ⟨hp, g, d, tk, os⟩ := s; obtain ⟨hl, h⟩ := h
    unfold Builtin.«tuple.__mul__»
    k_delta "repeated"
    wp_walk
    exact ⟨_, rfl, h⟩
theorem mul_tuple0 :
    Meets (Builtin.«tuple.__mul__» ⟨[.ref l, .int 0 t], []⟩) (fun _ R s => s.heap.get? l = some ⟨.type "tuple", dd, .seq #[it] n, sl⟩ /\ R (.ok (.ret (.ref s.heap.objs.size))) { s with heap := s.heap.push { cls := .type "tuple", data := .seq #[] } }) :=
  .of_wp fun prog w A R s h => by
    obtain ⟨hp, g, d, tk, os⟩ := s; obtain ⟨hl, h⟩ := h
    unfold Builtin.«tuple.__mul__»
    k_delta "repeated"
    wp_walk
    exact ⟨_, rfl, h⟩
end
def rRepT (K : Frag) : R2 := fun x y H Q => ∃ (l : Addr) (k : Nat) (v : V), x = .ref l /\ y = .int (k : Int) /\ SqT K H l [v] /\ k <= 1000 /\ ∀ p H', Same H H' -> SqT K H' p (List.replicate k v) -> Q (.ref p) H'
theorem vals_rep {v : V} {u : Value} (r : RelV v u) : ∀ k : Nat, Vals (List.replicate k v) (List.replicate k u)
  | 0 => .nil
  | k + 1 => .cons r (vals_rep r k)
theorem op_repTK {X : Cx} {K : Frag} (h : X.K = K) : OpR X (binaryOp .Mult) (rRepT K) := by
  subst h
  intro pins s σ H x y v u Q I rx ry h
  obtain ⟨l, k, w, rfl, rfl, hH, hk, q⟩ := h
  cases rx
  obtain ⟨t, rfl⟩ := ry
  obtain ⟨its, r, ⟨⟨cls, dd, data, sl⟩, e, ec, n, ex⟩, _⟩ := I.tuple hH
  simp only at ec ex
  subst ec ex
  obtain ⟨it, rfl, rv⟩ : ∃ it, its = [it] /\ RelV w it := by
    cases r with
    | cons a b => cases b; exact ⟨_, rfl, a⟩
  have hz : (List.replicate k w).length <= sizeLine := by
    have : 1000 <= sizeLine := by decide
    rw [List.length_replicate]; omega
  refine wpAny_binaryOp_repeat_ref (T := "tuple") (U := "int") (by decide) ⟨_, e, rfl⟩ (fun s' => typeIs_int s' k t) noFill_tuple_mul F.fills_int_mul F.slot_int_rmul repeat_tuple F.slot_int_index.lookup
    (call_meets F.slot_int_rmul (typeIs_int s k t) F.entry_int_rmul (F.args_int_rmul_2 _ _) (rmul_tuple k t l dd [it].toArray n sl) ⟨e, rfl, ⟨_, e, rfl⟩, ?_⟩)
  rcases Nat.lt_or_ge 1 k with h1 | h1
  · refine call_meets F.slot_tuple_mul ⟨_, e, rfl⟩ F.entry_tuple_mul (F.args_tuple_mul_2 _ _) (mul_tuple t l dd it n sl (k := (k : Int)) (by omega) (by omega)) ⟨e, ?_⟩
    rw [Int.toNat_natCast]
    have I' := I.laid (t' := s.toks) (a := s.heap.objs.size) (o := .tup (List.replicate k w)) (h' := s.heap.push { cls := .type "tuple", data := .seq (List.replicate k it).toArray }) (fun _ _ q => Heap.get?_push_of_some _ q) (Nat.le_refl _) ⟨hz, _, vals_rep rv k, _, Heap.get?_push_size _ rfl, rfl, 0, rfl⟩
    exact ⟨.ref _, _, I', rfl, q _ _ (Same.new I.fresh _) (SqT.of zq1)⟩
  · have hc : k = 0 ∨ k = 1 := by omega
    rcases hc with rfl | rfl
    · refine call_meets F.slot_tuple_mul ⟨_, e, rfl⟩ F.entry_tuple_mul (F.args_tuple_mul_2 _ _) (mul_tuple0 t l dd it n sl) ⟨e, ?_⟩
      have I' := I.laid (t' := s.toks) (a := s.heap.objs.size) (o := .tup []) (h' := s.heap.push { cls := .type "tuple", data := .seq #[] }) (fun _ _ q => Heap.get?_push_of_some _ q) (Nat.le_refl _) ⟨Nat.zero_le _, [], .nil, _, Heap.get?_push_size _ rfl, rfl, 0, rfl⟩
      exact ⟨.ref _, _, I', rfl, q _ _ (Same.new I.fresh _) (SqT.of zq1)⟩
    · refine call_meets F.slot_tuple_mul ⟨_, e, rfl⟩ F.entry_tuple_mul (F.args_tuple_mul_2 _ _) (mul_tuple1 t l dd it n sl) ⟨e, ?_⟩
      exact ⟨.ref l, H, I, rfl, q _ _ (Same.refl _) hH⟩
theorem q_repT {K : Frag} {x y : V} {H : Hp} {Q : VK} : rRepT K x y H Q = ∃ (l : Addr) (k : Nat) (v : V), x = .ref l /\ y = .int (k : Int) /\ SqT K H l [v] /\ k <= 1000 /\ ∀ p H', Same H H' -> SqT K H' p (List.replicate k v) -> Q (.ref p) H' := rfl
end L2
namespace L2
open PySem PySem.Spec PyProof.Rows KM
def clsOk (K : Frag) (x : Str) (C : Addr) (fields : List Str) : Bool :=
  PySem.W.nsIn K mainGlobals x == some (some (.ref C)) && PySem.W.plainGet K C Str.empty && PySem.W.hasDictIn K C && PySem.W.plainOver K C && PySem.W.findIn K (.ref C) "__setattr__" == some (some (.builtin "object.__setattr__")) &&
  PySem.W.makesIn K C && PySem.W.keepIn K (.ref C) && fields.all fun f => PySem.W.findIn K (.ref C) f == some none
structure ClsT (K : Frag) (mg : Str -> Option Value) (x : Str) (C : Addr) (fields : List Str) : Prop where
  gl : mg x = some (.ref C)
  cls : Cls K C
  makes : PySem.W.makesIn K C = true
  kp : PySem.W.keepIn K (.ref C) = true
  no : ∀ f ∈ fields, NoAttr K C f
theorem clsT_of {K : Frag} {h : Heap} {mg : Str -> Option Value} {x : Str} {C : Addr} {fields : List Str} (X : K.In h) (G : h.Ns mainGlobals mg) (e : clsOk K x C fields = true) : ClsT K mg x C fields := by
  unfold clsOk at e
  simp only [Bool.and_eq_true, beq_iff_eq, List.all_eq_true] at e
  obtain ⟨⟨⟨⟨⟨⟨⟨a, b⟩, c⟩, d⟩, f⟩, g⟩, i⟩, j⟩ := e
  exact ⟨PySem.W.mg_of X G a, ⟨b, c, d, f⟩, g, i, j⟩
structure MDef (K : Frag) (C : Addr) (m qual : Str) (st : Stmt) : Prop where
  ex : ∃ f fd, Fun K m qual st f fd /\ Meth K C m f
theorem mdef_mk {K : Frag} {C : Addr} {m qual : Str} {st : Stmt} {f : Addr} {oc : Value} {od an : Option Addr} {osl : Array (Option Value)} {kV doc pm cdv ct : Value}
    (a : PySem.W.findIn K (.ref C) m = some (some (.ref f))) (l : K.lookup f = some ⟨oc, od, .func (PySem.W.fnOf m qual (zj2 st) (zq8 st) (zq3 st) .none kV doc pm an cdv ct), osl⟩)
    (c : PySem.W.codeIn K cdv qual = true) (k : PySem.W.keepIn K (.ref f) = true) (i : PySem.W.isFn K (.ref f) = true) : MDef K C m qual st := ⟨f, _, fun_mk l c k, a, i, k⟩
def clsSt (s : Stmt) (j : Nat) : Stmt := match s with
  | .ClassDef _ _ _ body _ _ _ _ _ _ _ => body.getD j (.Pass ⟨0, 0, 0, 0⟩)
  | _ => .Pass ⟨0, 0, 0, 0⟩
structure FnM (P : Program) (w : World) (K : Frag) (mg : Str -> Option Value) (base : Heap) (k : Nat) (C : Addr) (m : Str) (ps : List Str) (sp : Sp) : Prop where
  ex : ∃ f fd, FnOk P w K mg base (CXE P w) k f fd ps sp /\ Meth K C m f /\ Binds K fd ps []
section
variable {P : Program} {w : World} {K : Frag} {mg : Str -> Option Value} {base : Heap} {k : Nat} {x m qual : Str} {C : Addr} {N ps G : List Str} {sp : Sp} {st : Stmt}
theorem FnOk.lift {f : Addr} {fd : FuncData} (F : FnOk P w K mg base CX0 k f fd ps sp) : FnOk P w K mg base (CXE P w) k f fd ps sp :=
  ⟨F.len, fun A outer s H args us vs Q E hr e0 hb hv hs => codeAny_mono (F.run A outer s H args us vs Q E hr e0 hb hv hs) fun r s' z => by
    cases r with
    | error e => exact False.elim z
    | ok fl => cases fl <;> exact z⟩
theorem MDef.ge (D : MDef K C m qual st) (S : DS (zq3 st) N ps G)
    (hb : ∀ (kV doc pm : Value) (an : Option Addr) (cdv ct : Value) (us : List Value), us.length = ps.length -> bindArgs (PySem.W.fnOf m qual (zj2 st) (zq8 st) (zq3 st) .none kV doc pm an cdv ct) ⟨us, []⟩ = pure (ps.zip us))
    (len : ∀ vs H Q E, sp vs H Q E -> vs.length = ps.length)
    (hbody : ∀ (X : Cx) (E : XK), Sc X N N G -> X.prog = P -> X.w = w -> X.K = K -> X.mg = mg -> X.base = base -> X.calm = true -> X.env.scope = zq3 st -> Own X -> Raises X E -> Passes (CXE P w) X E -> Room k X.A -> X.A.units + 64 < cLine ->
      ∀ (H : Hp) (vs : List V) (Q : VK), sp vs H Q E -> ∃ t, QSs X (zq8 st) t /\ t { nx := fun _ H' => Q .non H', rt := Q } (L2.start N vs) H) : FnM P w K mg base (k + 1) C m ps sp := by
  obtain ⟨f, fd, F, M⟩ := D.ex
  refine ⟨f, fd, ?_, M, F.binds hb⟩
  obtain ⟨oc, od, kV, doc, pm, an, cdv, ct, osl, rfl, lk, hcd⟩ := F.ex
  refine fn_of lk hcd S.fs len fun A outer s H vs Q E hr hsp => ?_
  obtain ⟨t, h, q⟩ := hbody _ E S.cxE rfl rfl rfl rfl rfl rfl rfl ⟨rfl, rfl⟩ (fun _ _ _ _ _ _ _ _ I M q => leave_made I M q) passes_cx hr hr.units H vs Q hsp
  exact ⟨t, h.h, q⟩
theorem MDef.gq (D : MDef K C m qual st) (S : DS (zq3 st) N ps G)
    (hb : ∀ (kV doc pm : Value) (an : Option Addr) (cdv ct : Value) (us : List Value), us.length = ps.length -> bindArgs (PySem.W.fnOf m qual (zj2 st) (zq8 st) (zq3 st) .none kV doc pm an cdv ct) ⟨us, []⟩ = pure (ps.zip us))
    (len : ∀ vs H Q E, sp vs H Q E -> vs.length = ps.length)
    (hbody : ∀ (X : Cx), Sc X N N G -> X.prog = P -> X.w = w -> X.K = K -> X.mg = mg -> X.base = base -> X.calm = true -> X.env.scope = zq3 st -> X.xe = (fun _ _ => False) -> Room k X.A -> X.A.units + 64 < cLine ->
      ∀ (H : Hp) (vs : List V) (Q : VK) (E : XK), sp vs H Q E -> ∃ t, QSs X (zq8 st) t /\ t { nx := fun _ H' => Q .non H', rt := Q } (L2.start N vs) H) : FnM P w K mg base (k + 1) C m ps sp := by
  obtain ⟨f, fd, F, M⟩ := D.ex
  refine ⟨f, fd, FnOk.lift ?_, M, F.binds hb⟩
  refine F.ok S.fs len fun cdv A outer s H vs Q E hr h => ?_
  obtain ⟨t, z, y⟩ := hbody _ S.cx rfl rfl rfl rfl rfl rfl rfl rfl hr hr.units H vs Q E h
  exact ⟨t, z.h, y⟩
end
def tFl (C : Addr) (f : Str) (ta : TE) : TE := fun σ H Q => ta σ H fun x H1 => ∃ a dx fs v, x = .ref a /\ H1 a = some (.ins C dx fs) /\ fs.lookup f = some v /\ Q v H1
def sFl (C : Addr) (f : Str) (ta tv : TE) : TS := fun D σ H => tv σ H fun y H1 => ta σ H1 fun x H2 => ∃ a dx fs, x = .ref a /\ H2 a = some (.ins C dx fs) /\ fs.length < 1000 /\ D.nx σ (upd H2 a (.ins C dx (putF f y fs)))
section
variable {X : Cx} {N W G fields : List Str} {k n : Nat} {x f m : Str} {C : Addr} {ps : List Str} {sp : Sp} {p pos pos' apos : Pos} {e o value : Expr} {es : List Expr} {t : TA} {ta tv : TE} {E : XK}
theorem kfl (T : ClsT X.K X.mg x C fields) (he : QE X e ta) (hf : f ∈ fields := by decide) (hb : attributeBase e f X.env (eval e X.env) = eval e X.env := by rfl) : QE X (.Attribute e f pos) (tFl C f ta) := by
  refine ⟨fun pins s σ H Q I h => attr_of hb (thn (he.h pins s σ H _ I h) fun u s1 ⟨x, H1, I1, rx, a, dx, fs, v, ex, ea, l, q⟩ => ?_)⟩
  subst ex
  obtain rfl : u = Value.ref a := rx
  exact getattr_ok I1 ea T.cls (T.no f hf) l fun u' s2 I2 ru => ⟨v, H1, I2, ru, q⟩
theorem sfl (T : ClsT X.K X.mg x C fields) (ha : QE X o ta) (hv : QE X value tv) (hf : f ∈ fields := by decide) (hs : swapsWith value (some (.Attribute o f pos')) pos.line X.env = pure false := by rfl) : QS X (.Assign [.Attribute o f pos'] value pos) (sFl C f ta tv) := by
  refine ⟨fun pins s σ H D I h => plainObj_wpAny_Assign_Attribute (thn (hv.h pins s σ H _ I h) fun u s1 ⟨y, H1, I1, ry, q⟩ => thn (ha.h pins s1 σ H1 _ I1 q) fun ov s2 ⟨x, H2, I2, rx, a, dx, fs, ex, ea, l, q2⟩ => ?_) hs⟩
  subst ex
  obtain rfl : ov = Value.ref a := rx
  exact setattr_ok I2 ea T.cls (T.no f hf) l ry fun s3 I3 => ⟨σ, _, I3, q2⟩
theorem kmt {pl : Sem Bool} (T : ClsT X.K X.mg x C fields) (F : FnM X.prog X.w X.K X.mg X.base k C m ps sp) (hx : Passes (CXE X.prog X.w) X E) (hr : Room n X.A) (he : QE X o ta) (ha : QB X (e :: es) t) (hk : k <= n := by decide)
    (ht : eval (.Call (.Attribute o m apos) (e :: es) [] pos) X.env = (do
      let ov <- eval o X.env
      standAt apos.atName
      let (f, first) <- holding [ov] (getMethod ov m pl)
      callWith pos f first (backTo pos (starEach (e :: es) X.env)) (backToKw pos (keywordEach [] X.env))) := by rfl) :
    QE X (.Call (.Attribute o m apos) (e :: es) [] pos) (tMeth C m sp [] E ta t) := by
  obtain ⟨f, fd, F, M, hb⟩ := F.ex
  exact ⟨pe_meth he.h T.cls M F (hr.mono hk) hb .nil hx ha.h.pa (zj8 ha.h.he) (plain_of ha.h.hes) ht⟩
theorem kmt0 {pl : Sem Bool} (T : ClsT X.K X.mg x C fields) (F : FnM X.prog X.w X.K X.mg X.base k C m ps sp) (hx : Passes (CXE X.prog X.w) X E) (hr : Room n X.A) (he : QE X o ta) (hk : k <= n := by decide)
    (ht : eval (.Call (.Attribute o m apos) [] [] pos) X.env = (do
      let ov <- eval o X.env
      standAt apos.atName
      let (f, first) <- holding [ov] (getMethod ov m pl)
      callWith pos f first (backTo pos (starEach [] X.env)) (backToKw pos (keywordEach [] X.env))) := by rfl) :
    QE X (.Call (.Attribute o m apos) [] [] pos) (tMeth C m sp [] E ta tNil) := by
  obtain ⟨f, fd, F, M, hb⟩ := F.ex
  exact ⟨pe_meth0 he.h T.cls M F (hr.mono hk) hb .nil hx ht⟩
theorem kmk (S : Sc X N W G) (g : Nat) (T : ClsT X.K X.mg x C fields) (F : FnM X.prog X.w X.K X.mg X.base k C "__init__" ps sp) (hx : Passes (CXE X.prog X.w) X E) (hr : Room n X.A) (ha : QB X (e :: es) t) (hk : k + 1 <= n := by decide) (hg : G[g]? = some x := by rfl) :
    QE X (.Call (.Name x p) (e :: es) [] pos) (tMake C sp [] E t) := by
  obtain ⟨f, fd, F, M, hb⟩ := F.ex
  have q := S.gl x (List.mem_of_getElem? hg)
  exact ⟨pe_make ⟨T.makes, M.at_, M.fn, T.kp⟩ F (hr.mono hk) q.1 T.gl hb .nil hx ha.h.pa q.2.1 (zj8 ha.h.he) (plain_of ha.h.hes)⟩
end
section
variable {C : Addr} {f m : Str} {ta tv : TE} {σ : St} {H : Hp} {Q : VK} {D : Ends} {sp : Sp} {E : XK} {t : TA}
theorem q_fl : tFl C f ta σ H Q = ta σ H fun x H1 => ∃ a dx fs v, x = .ref a /\ H1 a = some (.ins C dx fs) /\ fs.lookup f = some v /\ Q v H1 := rfl
theorem q_sfl : sFl C f ta tv D σ H = tv σ H fun y H1 => ta σ H1 fun x H2 => ∃ a dx fs, x = .ref a /\ H2 a = some (.ins C dx fs) /\ fs.length < 1000 /\ D.nx σ (upd H2 a (.ins C dx (putF f y fs))) := rfl
theorem q_meth : tMeth C m sp [] E ta t σ H Q = ta σ H fun x H1 => ∃ a dx fs, x = .ref a /\ H1 a = some (.ins C dx fs) /\ fs.lookup m = none /\ t σ H1 fun vs H2 => sp (x :: vs) H2 Q E := by
  unfold tMeth; simp only [List.append_nil]
theorem q_make : tMake C sp [] E t σ H Q = t σ H fun vs H1 => ∀ x dx, H1 x = none -> H1 dx = none -> dx ≠ x -> sp (.ref x :: vs) (upd (upd H1 dx (.own x)) x (.ins C dx [])) (fun v H2 => v = .non /\ Q (.ref x) H2) E := by
  unfold tMake; simp only [List.append_nil]
end
end L2
namespace L2
open PySem PySem.Spec PyProof.Rows KM
def hatsB (cs hs : List Int) : Bool := decide (hs.length = cs.length) && (List.range cs.length).all fun k => decide (0 <= hs.getD k 0) && decide (hs.getD k 0 < cs.getD k 0)
def spAre (K : Frag) : Sp := fun vs H Q _ => ∃ (c h : Addr) (cs hs : List Int), vs = [.ref c, .ref h] /\ SqT K H c (cs.map V.int) /\ SqT K H h (hs.map V.int) /\ cs.length <= 90 /\ ∀ H', Same H H' -> Q (.bl (hatsB cs hs)) H'
def hfs (c g n : Addr) : List (Str × V) := [("counts", .ref c), ("groups", .ref g), ("worn", .ref n)]
structure HallAt (K : Frag) (C : Addr) (H : Hp) (a : Addr) (c g : Addr) (cs : List Int) (us : List V) (hs : List Int) : Prop where
  ex : ∃ dx n, H a = some (.ins C dx (hfs c g n)) /\ SqT K H n (hs.map V.int)
  cts : SqT K H c (cs.map V.int)
  grp : SqT K H g us
def spHInit (K : Frag) (C : Addr) (er : Str -> Addr) : Sp := fun vs H Q E => ∃ (x dx c w g : Addr) (cs : List Int) (ws : List Nat) (us : List V) (L : List (Bool × List Int)), vs = [.ref x, .ref c, .ref w, .ref g] /\ H x = some (.ins C dx []) /\ SqT K H c (cs.map V.int) /\ SqT K H w ((asI ws).map V.int) /\ SqT K H g us /\ GI K H us L /\ ws.length = cs.length /\ cs.length <= 8 /\ (∀ g ∈ L, g.2.length <= 30) /\ L.length <= 30 /\
  (gfF cs ws [] 0 L ≠ none -> ∀ H', Same H H' -> E (.ref (er "NoGroups")) none H') /\ (gfF cs ws [] 0 L = none -> ∀ H', Off x H H' -> HallAt K C H' x c g cs us (List.replicate cs.length 0) -> Q .non H')
def hf1 (c : Addr) : List (Str × V) := [("counts", .ref c)]
def hf2 (c g : Addr) : List (Str × V) := [("counts", .ref c), ("groups", .ref g)]
theorem pf_counts {c : Addr} : putF "counts" (.ref c) [] = hf1 c := rfl
theorem pf_groups {c g : Addr} : putF "groups" (.ref g) (hf1 c) = hf2 c g := by
  unfold hf1 putF; rw [if_neg (by decide)]; rfl
theorem pf_worn {c g n : Addr} : putF "worn" (.ref n) (hf2 c g) = hfs c g n := by
  unfold hf2 putF; rw [if_neg (by decide)]; unfold putF; rw [if_neg (by decide)]; rfl
theorem pf_worn2 {c g n m : Addr} : putF "worn" (.ref m) (hfs c g n) = hfs c g m := by
  unfold hfs putF; rw [if_neg (by decide)]; unfold putF; rw [if_neg (by decide)]; unfold putF; rw [if_pos rfl]
theorem hf_counts {c g n : Addr} : (hfs c g n).lookup ("counts" : Str) = some (.ref c) := rfl
theorem hf_groups {c g n : Addr} : (hfs c g n).lookup ("groups" : Str) = some (.ref g) := by
  unfold hfs; rw [List.lookup_cons, show (("groups" : Str) == ("counts" : Str)) = false from by decide]; rfl
theorem hf_worn {c g n : Addr} : (hfs c g n).lookup ("worn" : Str) = some (.ref n) := by
  unfold hfs; rw [List.lookup_cons, show (("worn" : Str) == ("counts" : Str)) = false from by decide]; dsimp only; rw [List.lookup_cons, show (("worn" : Str) == ("groups" : Str)) = false from by decide]; rfl
theorem hf_no {c g n : Addr} {m : Str} (h1 : (m == ("counts" : Str)) = false := by decide) (h2 : (m == ("groups" : Str)) = false := by decide) (h3 : (m == ("worn" : Str)) = false := by decide) : (hfs c g n).lookup m = none := by
  unfold hfs; rw [List.lookup_cons, h1]; dsimp only; rw [List.lookup_cons, h2]; dsimp only; rw [List.lookup_cons, h3]; rfl
section
variable {K : Frag} {a r C dx : Addr} {fs : List (Str × V)} {H H' : Hp} {xs : List V}
theorem SqT.offI (s : Off a H H') (ha : H a = some (.ins C dx fs)) (h : SqT K H r xs) : SqT K H' r xs := by
  rcases h with (h | ⟨o, h⟩) | h
  · exact .inl (.inl (s r _ (ne_of h ha fun z => nomatch z) h))
  · exact .inl (.inr ⟨o, s r _ (ne_of h ha fun z => nomatch z) h⟩)
  · exact .inr h
theorem TyT.offI {p : Addr} (s : Off a H H') (ha : H a = some (.ins C dx fs)) : TyT K H p -> TyT K H' p
  | .inl h => .inl h
  | .inr ⟨o, u, h, c⟩ => .inr ⟨o, u, s p _ (ne_of h ha fun z => nomatch z) h, c⟩
theorem GF.offI (s : Off a H H') (ha : H a = some (.ins C dx fs)) : ∀ {vs : List V} {L : List (Bool × List Nat)}, GF K H vs L -> GF K H' vs L
  | [], [], h => h
  | _ :: _, _ :: _, ⟨⟨r, p, e, h, h2, t⟩, q⟩ => ⟨⟨r, p, e, h.offI s ha, h2.offI s ha, t.offI s ha⟩, GF.offI s ha q⟩
  | [], _ :: _, h => h.elim
  | _ :: _, [], h => h.elim
end
theorem HallAt.off {K : Frag} {C a c g n' : Addr} {H H' : Hp} {cs hs hs' : List Int} {us : List V} (h : HallAt K C H a c g cs us hs) (s : Off a H H') (e : ∃ dx, H' a = some (.ins C dx (hfs c g n'))) (hn : SqT K H' n' (hs'.map V.int)) : HallAt K C H' a c g cs us hs' := by
  obtain ⟨dx, n, ha, _⟩ := h.ex
  obtain ⟨dx', e⟩ := e
  exact ⟨⟨dx', n', e, hn⟩, h.cts.offI s ha, h.grp.offI s ha⟩
theorem HallAt.mono {K : Frag} {C a c g : Addr} {H H' : Hp} {cs hs : List Int} {us : List V} (h : HallAt K C H a c g cs us hs) (s : Same H H') : HallAt K C H' a c g cs us hs := by
  obtain ⟨dx, n, ha, hn⟩ := h.ex
  exact ⟨⟨dx, n, s _ _ ha, s.seqT hn⟩, s.seqT h.cts, s.seqT h.grp⟩
def spPutAll (K : Frag) (C : Addr) (er : Str -> Addr) : Sp := fun vs H Q E => ∃ (a hb c g : Addr) (cs hs0 hs : List Int) (us : List V), vs = [.ref a, .ref hb] /\ HallAt K C H a c g cs us hs0 /\ SqT K H hb (hs.map V.int) /\ cs.length <= 90 /\
  (hatsB cs hs = false -> ∀ H', Same H H' -> E (.ref (er "NoHats")) none H') /\ (hatsB cs hs = true -> ∀ H', Off a H H' -> HallAt K C H' a c g cs us hs -> Q .non H')
def spHPut (K : Frag) (C : Addr) (er : Str -> Addr) : Sp := fun vs H Q E => ∃ (a c g : Addr) (cs hs0 : List Int) (us : List V) (i col : Int), vs = [.ref a, .int i, .int col] /\ HallAt K C H a c g cs us hs0 /\ hs0.length = cs.length /\ cs.length <= 90 /\
  (¬ (0 <= i /\ i < (cs.length : Int)) -> ∀ H', Same H H' -> E (.ref (er "NoName")) none H') /\ (0 <= i /\ i < (cs.length : Int) -> hatsB cs (hs0.set i.toNat col) = false -> ∀ H', Same H H' -> E (.ref (er "NoHats")) none H') /\
  (0 <= i /\ i < (cs.length : Int) -> hatsB cs (hs0.set i.toNat col) = true -> ∀ H', Off a H H' -> HallAt K C H' a c g cs us (hs0.set i.toNat col) -> Q .non H')
def spHGuess (K : Frag) (C : Addr) : Sp := fun vs H Q _ => ∃ (a c g : Addr) (cs hs : List Int) (ws : List Nat) (us : List V) (L : List (Bool × List Nat)) (i : Nat), vs = [.ref a, .int i] /\ HallAt K C H a c g cs us hs /\ GF K H us L /\ CsOk cs /\ HN cs hs cs.length /\ GsOk cs ws L /\ i < cs.length /\ ∀ H', Same H H' -> Q (.int (ggu cs L hs i)) H'
end L2
namespace L2
open PySem PySem.Spec PyProof.Rows KM
structure GrA (cs : List Int) (g : Bool × List Nat) : Prop where
  lt : ∀ x ∈ g.2, x < cs.length
  nd : g.2.Nodup
  ne : 1 <= g.2.length
  ring : g.1 = true -> 2 <= g.2.length /\ ∀ x ∈ g.2, cs.getD x 0 = 2
  circ : g.1 = false -> riseB g.2 = true
theorem rise_of {so : List Nat} (hs : (asI so).Pairwise (· <= ·)) (nd : so.Nodup) : riseB so = true := by
  unfold riseB
  rw [List.all_eq_true]
  intro k hk
  have hk := List.mem_range.mp hk
  have h1 : k < so.length := by omega
  have h2 : k + 1 < so.length := by omega
  rw [decide_eq_true_eq]
  have a := List.pairwise_iff_getElem.mp hs k (k + 1) (by rw [zq6]; exact h1) (by rw [zq6]; exact h2) (by omega)
  have b := List.pairwise_iff_getElem.mp (List.nodup_iff_pairwise_ne.mp nd) k (k + 1) h1 h2 (by omega)
  unfold asI at a
  rw [List.getElem_map, List.getElem_map] at a
  rw [List.getD_eq_getElem?_getD, List.getElem?_eq_getElem h1, List.getD_eq_getElem?_getD, List.getElem?_eq_getElem h2]
  show so[k] < so[k + 1]
  omega
def gI (L : List (Bool × List Nat)) : List (Bool × List Int) := L.map fun g => (g.1, asI g.2)
theorem GF.gi {K : Frag} {H : Hp} : ∀ {vs : List V} {L : List (Bool × List Nat)}, GF K H vs L -> GI K H vs (gI L)
  | [], [], h => h
  | _ :: _, _ :: _, ⟨⟨r, p, e, h, h2, _⟩, q⟩ => ⟨⟨r, p, e, h, h2⟩, GF.gi q⟩
  | [], _ :: _, h => h.elim
  | _ :: _, [], h => h.elim
theorem isG_ok {cs : List Int} {ws : List Nat} {g : Bool × List Nat} (h : GOk cs ws g) (a : GrA cs g) : isG cs ws (g.1, asI g.2) = true := by
  unfold isG
  have e1 : decide (1 <= (asI g.2).length) = true := decide_eq_true (by rw [zq6]; exact a.ne)
  have e2 : inB cs.length (asI g.2) = true := by
    unfold inB asI
    rw [List.all_map, List.all_eq_true]
    intro x hx
    have := a.lt x hx
    simp only [Function.comp, Bool.and_eq_true, decide_eq_true_eq]
    omega
  show (decide (1 <= (asI g.2).length) && (inB cs.length (asI g.2) && grpB cs ws g.1 (nats (asI g.2)))) = true
  rw [e1, e2, nats_asI, Bool.true_and, Bool.true_and]
  unfold grpB
  cases hb : g.1 with
  | true =>
    obtain ⟨h2, hc, hs⟩ := h.ring hb
    rw [if_pos rfl, Bool.and_eq_true]
    refine ⟨?_, ?_⟩
    · unfold ringB
      rw [decide_eq_true h2, decide_eq_true h.nd, Bool.true_and, Bool.true_and, List.all_eq_true]
      intro k hk
      have hk := List.mem_range.mp hk
      have := hs (ahead g.2.length k) (by unfold ahead; split <;> omega)
      have e : (ahead g.2.length k + 1) % g.2.length = k := by
        unfold ahead
        split
        · rename_i z; rw [show g.2.length - 1 + 1 = g.2.length by omega, Nat.mod_self, z]
        · rw [show k - 1 + 1 = k by omega, Nat.mod_eq_of_lt hk]
      rw [e] at this
      exact this
    · rw [List.all_eq_true]
      exact fun x hx => decide_eq_true (hc x hx)
  | false =>
    rw [if_neg Bool.false_ne_true, a.circ hb, Bool.true_and]
    unfold circleB
    rw [List.all_eq_true]
    intro x hx
    rw [List.all_eq_true]
    intro y hy
    by_cases e : y = x
    · rw [decide_eq_true e]; rfl
    · rw [h.circ hb x hx y hy (Ne.symm e), Bool.or_true]
theorem gf_none {cs : List Int} {ws : List Nat} : ∀ {L : List (Bool × List Nat)} {gone : List Nat} {k : Nat}, (∀ g ∈ L, GOk cs ws g /\ GrA cs g) -> (L.Pairwise fun g h => ∀ x ∈ g.2, x ∉ h.2) -> (∀ g ∈ L, ∀ x ∈ g.2, x ∉ gone) -> gfF cs ws (asI gone) k (gI L) = none
  | [], _, _, _, _, _ => rfl
  | g :: L, gone, k, h, d, n => by
    have h1 := h g List.mem_cons_self
    show (if (isG cs ws (g.1, asI g.2) && !((asI g.2).any fun i => decide (i ∈ asI gone))) = true then gfF cs ws (asI gone ++ asI g.2) (k + 1) (gI L) else some k) = none
    have e : ((asI g.2).any fun i => decide (i ∈ asI gone)) = false := by
      rw [List.any_eq_false]
      intro i hi
      obtain ⟨x, hx, rfl⟩ := List.mem_map.mp hi
      rw [decide_eq_true_eq]
      exact fun z => n g List.mem_cons_self x hx (mem_asI.mp z)
    rw [isG_ok h1.1 h1.2, e, if_pos (by decide), <- asI_append]
    obtain ⟨d1, d2⟩ := List.pairwise_cons.mp d
    refine gf_none (fun g' hg' => h g' (List.mem_cons_of_mem _ hg')) d2 fun g' hg' x hx z => ?_
    rcases List.mem_append.mp z with z | z
    · exact n g' (List.mem_cons_of_mem _ hg') x hx z
    · exact d1 g' hg' x z hx
structure GsA (cs : List Int) (L : List (Bool × List Nat)) : Prop where
  each : ∀ g ∈ L, GrA cs g
  disj : L.Pairwise fun g h => ∀ x ∈ g.2, x ∉ h.2
structure Drawn71 (cs : List Int) (rest : List Nat) (L : List (Bool × List Nat)) : Prop where
  gs : GsA cs L
  nd : rest.Nodup
  lt : ∀ x ∈ rest, x < cs.length
  off : ∀ g ∈ L, ∀ x ∈ g.2, x ∉ rest
  len : L.length + rest.length <= cs.length
theorem Drawn71.skip {cs : List Int} {rest row left : List Nat} {L : List (Bool × List Nat)} (h : Drawn71 cs rest L) (p : (row ++ left).Perm rest) : Drawn71 cs left L :=
  ⟨h.gs, (List.nodup_append.mp (p.symm.nodup h.nd)).2.1, fun x hx => h.lt x (p.mem_iff.mp (List.mem_append_right _ hx)), fun g hg x hx z => h.off g hg x hx (p.mem_iff.mp (List.mem_append_right _ z)), by
    have := p.length_eq
    rw [List.length_append] at this
    have := h.len
    omega⟩
theorem Drawn71.put {cs : List Int} {rest row row' left : List Nat} {L : List (Bool × List Nat)} {b : Bool} (h : Drawn71 cs rest L) (p : (row ++ left).Perm rest) (q : row'.Perm row) (hr : 1 <= row.length) (hb : b = true -> 2 <= row.length /\ ∀ x ∈ row, cs.getD x 0 = 2) (hc : b = false -> riseB row' = true) : Drawn71 cs left (L ++ [(b, row')]) := by
  have nd := p.symm.nodup h.nd
  obtain ⟨n1, n2, n3⟩ := List.nodup_append.mp nd
  have lr : row'.length = row.length := q.length_eq
  have ins : ∀ x ∈ row', x ∈ rest := fun x hx => p.mem_iff.mp (List.mem_append_left _ (q.mem_iff.mp hx))
  refine ⟨⟨fun g hg => ?_, ?_⟩, n2, fun x hx => h.lt x (p.mem_iff.mp (List.mem_append_right _ hx)), fun g hg x hx z => ?_, ?_⟩
  · rcases List.mem_append.mp hg with w | w
    · exact h.gs.each g w
    · rw [List.mem_singleton.mp w]
      exact ⟨fun x hx => h.lt x (ins x hx), q.symm.nodup n1, by show 1 <= row'.length; omega, fun e => ⟨by show 2 <= row'.length; have := (hb e).1; omega, fun x hx => (hb e).2 x (q.mem_iff.mp hx)⟩, hc⟩
  · refine List.pairwise_append.mpr ⟨h.gs.disj, List.pairwise_singleton _ _, fun g hg g' hg' x hx z => ?_⟩
    rw [List.mem_singleton.mp hg'] at z
    exact h.off g hg x hx (ins x z)
  · rcases List.mem_append.mp hg with w | w
    · exact h.off g w x hx (p.mem_iff.mp (List.mem_append_right _ z))
    · rw [List.mem_singleton.mp w] at hx
      exact n3 x (q.mem_iff.mp hx) x z rfl
  · have := p.length_eq
    rw [List.length_append] at this
    have := h.len
    rw [List.length_append]
    show L.length + 1 + left.length <= cs.length
    omega
theorem asI_filt (row : List Nat) (p : Nat -> Bool) : (((List.range (asI row).length).filter fun j => p (row.getD j 0)).map fun j => ((row.getD j 0 : Nat) : Int)) = asI (row.filter p) := by
  have e : row = (List.range row.length).map fun k => row.getD k 0 := by
    apply List.ext_getElem
    · simp
    · intro i h1 h2; simp [h1]
  have f := List.filter_map (f := fun k => row.getD k 0) (p := p) (l := List.range row.length)
  rw [<- e] at f
  rw [zq6, f]
  unfold asI
  rw [List.map_map]
  rfl
end L2
namespace L2
open PySem PySem.Spec PyProof.Rows KM
def spWeb71 (K : Frag) : Sp := fun vs H Q _ => ∃ (cell : Int) (g : Addr) (cs : List Int) (us : List V) (L : List (Bool × List Nat)), vs = [.int cell, .int (cs.length : Int), .ref g] /\ SqT K H g us /\ GF K H us L /\ GsA cs L /\ cs.length <= 8 /\
  ∀ (t : Addr) (ws : List Nat) (H' : Hp), Same H H' -> SqT K H' t ((asI ws).map V.int) -> ws.length = cs.length -> WebOk ws -> GsOk cs ws L -> Q (.ref t) H'
end L2
namespace L2
open PySem PySem.Spec PyProof.Rows KM
theorem mask71 {b n i : Nat} (hi : i < n) : ∃ v : Nat, Builtin.bitAnd ((b : Nat) : Int) (((2 ^ n : Nat) : Int) - 1 - ((2 ^ i : Nat) : Int)) = (v : Int) /\ v < 2 ^ n /\ v.testBit i = false := by
  have hle : 2 ^ i + 1 <= 2 ^ n := Nat.pow_lt_pow_right (by decide) hi
  have e : ((2 ^ n : Nat) : Int) - 1 - ((2 ^ i : Nat) : Int) = ((2 ^ n - 1 - 2 ^ i : Nat) : Int) := by omega
  have bit : (2 ^ n - 1 - 2 ^ i).testBit i = false := by
    obtain ⟨d, rfl⟩ : ∃ d, n = i + 1 + d := ⟨n - i - 1, by omega⟩
    have hp : 2 ^ (i + 1 + d) = 2 ^ i * (2 * 2 ^ d) := by rw [Nat.pow_add, Nat.pow_succ, Nat.mul_assoc]
    have hd : 1 <= 2 ^ d := Nat.two_pow_pos d
    have hi1 : 1 <= 2 ^ i := Nat.two_pow_pos i
    have e2 : 2 ^ (i + 1 + d) - 1 - 2 ^ i = 2 ^ i * (2 * (2 ^ d - 1)) + (2 ^ i - 1) := by
      have e3 : 2 ^ i * (2 * 2 ^ d) = 2 ^ i * (2 * (2 ^ d - 1)) + 2 ^ i * 2 := by rw [<- Nat.mul_add]; congr 1; omega
      rw [hp, e3]; omega
    rw [e2, Nat.testBit_eq_decide_div_mod_eq, Nat.mul_add_div (by omega), Nat.div_eq_of_lt (show 2 ^ i - 1 < 2 ^ i by omega), Nat.add_zero, Nat.mul_mod_right]
    rfl
  refine ⟨b &&& (2 ^ n - 1 - 2 ^ i), by rw [e, bAnd], ?_, ?_⟩
  · exact Nat.and_lt_two_pow _ (by have := Nat.two_pow_pos n; have := Nat.two_pow_pos i; omega)
  · rw [Nat.testBit_and, bit, Bool.and_false]
end L2
namespace L2
open PySem PySem.Spec PyProof.Rows KM
def rights71 (cs hs : List Int) (L : List (Bool × List Nat)) : List Nat := (List.range cs.length).filter fun i => decide (ggu cs L hs i = hs.getD i 0)
end L2
namespace L2
open PySem PySem.Spec PyProof.Rows KM
theorem hatsB_of {cs hs : List Int} (h : HN cs hs cs.length) : hatsB cs hs = true := by
  unfold hatsB
  rw [decide_eq_true h.1, Bool.true_and, List.all_eq_true]
  intro k hk
  have := h.2 k (List.mem_range.mp hk)
  rw [decide_eq_true this.1, decide_eq_true this.2]
  rfl
theorem HN.zero71 {cs : List Int} (h : ∀ c ∈ cs, 1 <= c) : HN cs (List.replicate cs.length 0) cs.length := by
  refine ⟨List.length_replicate, fun i hi => ?_⟩
  have := h _ (KM.getD_mem hi)
  rw [show (List.replicate cs.length (0 : Int)).getD i 0 = 0 by rw [List.getD_eq_getElem?_getD, List.getElem?_replicate, if_pos hi]; rfl]
  omega
end L2
namespace L2
open PySem PySem.Spec PyProof.Rows KM
end L2
namespace L2
open PySem PySem.Spec PyProof.Rows KM
end L2
namespace L2
open PySem PySem.Spec PyProof.Rows KM
theorem seqJ {A B : TS} {D : Ends} {σ : L2.St} {H : Hp} (I : L2.St -> Hp -> Prop) (h2 : ∀ σ' H', I σ' H' -> B D σ' H') (h1 : ∀ R : L2.St -> Hp -> Prop, (∀ σ' H', I σ' H' -> R σ' H') -> A { D with nx := R } σ H) : tSeq A B D σ H := h1 (B D) h2
end L2
namespace L2
open PySem PySem.Spec PyProof.Rows KM
def ErrF (a C : Addr) (d : Option Addr) : Heap -> Prop := fun h => ∃ oe, h.get? a = some oe /\ ErrO oe C d
def errH (a C : Addr) (d : Option Addr) : HO := .ext (ErrF a C d)
theorem errH_ok {P : Program} {w : World} {H : Hp} {h : Heap} {a C : Addr} {d : Option Addr} {oe : Obj} (e : h.get? a = some oe) (o : ErrO oe C d) : ObjOk P w H h a (errH a C d) :=
  ⟨⟨oe, e, o⟩, ⟨oe, e⟩, fun h1 h2 ⟨o1, e1, p1⟩ k => ⟨o1, k _ e1, p1⟩⟩
section
variable {X : Cx} {pins : List (Addr × Obj)} {σ : St} {H : Hp} {s : Shared} {a : Addr} {o : HO}
theorem Inv.track (I : Inv X pins σ H s) (n : H a = none) (n0 : X.s₀.heap.get? a = none) (ne : a ≠ X.env.locals) (nc : ∀ x c, X.env.cells.lookup x = some c -> c ≠ a) (np : ∀ p ∈ X.pn ++ pins, p.1 ≠ a) (new : ObjOk X.prog X.w (upd H a o) s.heap a o) : Inv X pins σ (upd H a o) s := by
  have ne' : ∀ b u, H b = some u -> b ≠ a := fun b u e => zj0 e n
  refine ⟨I.ok, I.os, I.bare, ⟨I.base.keep, I.base.slot, fun b u e nb hx => ?_, I.base.there, fun b xs e => ?_, fun b u v e => ?_, fun b ps e => ?_⟩, I.loc, I.cell, ?_, fun x c e => ?_, fun p hp => ?_, fun b u e => ?_, I.len⟩
  · rw [zj4 (fun z => by rw [z, n0] at e; cases e)]; exact I.base.free b u e nb hx
  · have := I.base.tups b xs e; rw [zj4 (ne' _ _ this)]; exact this
  · have := I.base.frzs b u v e; rw [zj4 (ne' _ _ this)]; exact this
  · obtain ⟨more, z⟩ := I.base.tbls b ps e; exact ⟨more, by rw [zj4 (ne' _ _ z)]; exact z⟩
  · rw [zj4 (Ne.symm ne)]; exact I.free
  · rw [zj4 (nc x c e)]; exact I.freeC x c e
  · obtain ⟨e, q, r⟩ := I.pin p hp; exact ⟨e, by rw [zj4 (np p hp)]; exact q, r⟩
  · by_cases hb : b = a
    · subst hb; rw [zq1] at e; cases e; exact new
    · rw [zj4 hb] at e
      exact (I.hok b u e).stay (fun c v _ q => q) (fun c q => by rw [zj4 (ne' _ _ q)]; exact q) fun c xs q => by rw [zj4 (ne' _ _ q)]; exact q
theorem Inv.unheld (hc : X.calm = true -> X.A.handled = none) (hf : X.A.frames = some X.stack) (I : Inv (X.held a) pins σ H s) : Inv X pins σ H s :=
  ⟨⟨I.ok.mod, I.ok.kind, I.ok.glob, I.ok.blt, I.ok.above, I.ok.inj, I.ok.has, I.ok.cab, hc, hf, I.ok.stk, I.ok.exf, I.ok.bs, I.ok.bsz, I.ok.noex, I.ok.exfs, I.ok.funs, I.ok.frf⟩, I.os, I.bare, I.base, I.loc, I.cell, I.free, I.freeC, I.pin, I.hok, I.len⟩
theorem Sc.held {N W G : List Str} (S : Sc X N W G) : Sc (X.held a) N W G := ⟨S.eN, S.nd, S.vis, S.sto, S.gl⟩
end
def tTryH (names : List Str) (er : Str -> Addr) (tb : TSx) (i : Nat) (y : Str) (th : Addr -> TS) : TS := fun D σ H =>
  tb D (fun σ' C d H' => ∃ x, x ∈ names /\ C = .ref (er x) /\ isaE x y = true /\ ∀ a, H' a = none -> th a { nx := fun σ'' => D.nx (σ''.set i none), rt := D.rt, bk := fun σ'' => D.bk (σ''.set i none), ct := fun σ'' => D.ct (σ''.set i none) } (σ'.set i (some (.ref a))) (upd H' a (errH a (er x) d))) σ H
section
variable {X : Cx}
theorem stryH {N W G : List Str} {names : List Str} {er : Str -> Addr} {y n : Str} {np hpos pos : Pos} {b0 : Stmt} {suite body : List Stmt} {rest : List ExceptHandler} {tb : TSx} {th : Addr -> TS} (S : Sc X N W G) (g i : Nat)
    (hxe : X.xe = fun _ _ => False) (hc : X.calm = true) (ho : Own X) (hex : X.ex = []) (ER : ErrT X.K X.mg names er) (hy : y ∈ names) (hb : QSsx X body tb)
    (hh : ∀ (a : Addr), Sc (X.held a) N W G -> QSs (X.held a) (b0 :: suite) (th a))
    (hk : X.env.scope.names.lookup n = some .local) (hg : G[g]? = some y := by rfl) (hi : N[i]? = some n := by rfl) (hw : W[i]? = some n := by rfl) :
    QS X (.Try body (.ExceptHandler (some (.Name y np)) (some n) (b0 :: suite) hpos :: rest) [] [] pos) (tTryH names er tb i y th) := by
  have qg := S.gl y (List.mem_of_getElem? hg)
  have qs := S.sto n (List.mem_of_getElem? hw)
  have hN : X.N.Nodup := by rw [S.eN]; exact S.nd
  have hiN : X.N[i]? = some n := by rw [S.eN]; exact hi
  refine ⟨fun pins s σ H D I h => ?_⟩
  refine wpAny_Try_except (wpAny_mono (hb.h pins s σ H D _ I h) (fun f s1 q => ?_) fun e s1 ⟨σ', H0, s0, I0, z⟩ => ?_)
  · cases f with
    | next => exact wpAny_execs_nil q
    | ret v => exact q
    | brk => exact q
    | cont => exact q
  obtain ⟨a, T, C, d, H', rfl, os, bare, un, hok, na, nT, ⟨fl, ha, hT⟩, x, hx, hC, hxy, w⟩ := z
  cases hC
  have J : Inv X pins σ' H' s1 := I0.call' (ch := []) os un hok bare fun b z => absurd z (by simp)
  have fr : X.A.frames = some (X.env :: X.outer) := by rw [I.ok.frames, ho.1]
  have stk : s1.heap.FunFrames X.base (X.env :: X.outer) := by rw [<- ho.1]; exact J.stack
  refine note_on fr stk ho.2 fl fun h4 T4 nT4 f4 k4 => ?_
  refine flight_none (l := frs (X.env :: X.outer)) f4 fun h5 f5 k5 => ?_
  have k45 : Kept (frs (X.env :: X.outer)) [a, T] s1.heap h5 := k4.trans k5 fun b o e z => by rw [List.mem_singleton.mp z, nT4] at e; cases e
  have step : ∀ (bad : List Addr) (h2 : Heap), (∀ b ∈ bad, s0.heap.get? b = none /\ H' b = none) -> Kept (frs (X.env :: X.outer)) bad s1.heap h2 -> Inv X pins σ' H' { s1 with heap := h2 } := fun bad h2 hbad k => by
    refine I0.call' (ch := []) os ?_ ?_ bare fun b z => absurd z (by simp)
    · exact un_exc un (fun b hb => (hbad b hb).1) (fun b o e n1 n2 => k.1 b o e (by rw [<- ho.1]; exact n1) n2) fun b o e _ n2 => k.2 b o e n2
    · exact hok_exc hok (fun b o e n1 n2 => k.1 b o e (by rw [<- ho.1]; exact n1) n2) J.stkFree fun b hb => (hbad b hb).2
  have bad1 : ∀ b ∈ [a, T], s0.heap.get? b = none /\ H' b = none := fun b hb => by
    rcases List.mem_cons.mp hb with z | z
    · rw [z]; exact ⟨na, ha⟩
    · rw [List.mem_singleton.mp z]; exact ⟨nT, hT⟩
  have I5 : Inv X pins σ' H' { s1 with heap := h5 } := step _ _ bad1 k45
  obtain ⟨oe5, vs5, oT5, ts5, he5, hc5, hd5, hdt5, _⟩ := id f5
  refine wpAny_handleBy_cons (codeAny_handlers_test (ld_glob (X := X.held a) (I5.held a) qg.1 (ER.gl y hy) ?_ qg.2.1)) (by intro q; cases q)
  refine exc_match (K := X.K) I5.kIn he5 hc5 (ER.ty y hy) (ER.cls y hy) ((ER.mat x hx y hy).trans (by rw [hxy])) ?_
  show codeAny _ _ _ _ _
  refine codeAny_handlers_suite_as ?_
  refine flight_none (l := frs (X.env :: X.outer)) f5 fun h6 f6 k6 => ?_
  have k56 : Kept (frs (X.env :: X.outer)) [a, T] s1.heap h6 := k45.trans k6 fun b o e z => by rw [List.mem_singleton.mp z, nT4] at e; cases e
  have I6 : Inv X pins σ' H' { s1 with heap := h6 } := step _ _ bad1 k56
  obtain ⟨oe6, vs6, oT6, ts6, he6, hc6, hd6, hdt6, _⟩ := id f6
  have nal : a ≠ X.env.locals := fun z => by
    obtain ⟨m, ⟨o, es, ep, e1, e2, _⟩, _⟩ := I6.loc
    rw [<- z, he6] at e1; cases e1
    rw [hdt6] at e2; cases e2
  have n0 : X.s₀.heap.get? a = none := by
    cases z : X.s₀.heap.get? a with
    | none => rfl
    | some o =>
      obtain ⟨o', e'⟩ := I0.base.there a o z (by rw [hex]; simp)
      rw [na] at e'; cases e'
  have nc : ∀ x c, X.env.cells.lookup x = some c -> c ≠ a := fun x c e z => by
    obtain ⟨v, o, e1, _⟩ := I0.cell x c e
    rw [z, na] at e1; cases e1
  have np : ∀ p ∈ X.pn ++ pins, p.1 ≠ a := fun p hp z => by
    have e1 := (I0.pin p hp).1
    rw [z, na] at e1; cases e1
  have I7 : Inv (X.held a) pins σ' (upd H' a (errH a (er x) d)) { s1 with heap := h6 } := (I6.track ha n0 nal nc np (errH_ok he6 ⟨hc6, hd6, vs6, hdt6⟩)).held a
  refine store_ok (X := X.held a) (v := .ref a) I7 hN hiN qs.1 rfl (fun s7 I8 => ?_) qs.2
  refine wpAny_mono ((hh a S.held).h pins s7 _ _ _ I8 (w a ha)) (fun f s8 q => ?_) fun e s8 z => ?_
  · cases f with
    | next =>
      obtain ⟨σ8, H8, I9, q⟩ := q
      exact goes_ok (I9.unheld I.ok.hd I.ok.frames) hN hiN hk fun s9 I10 => ⟨_, H8, I10, q⟩
    | brk =>
      obtain ⟨σ8, H8, I9, q⟩ := q
      exact goes_ok (I9.unheld I.ok.hd I.ok.frames) hN hiN hk fun s9 I10 => ⟨_, H8, I10, q⟩
    | cont =>
      obtain ⟨σ8, H8, I9, q⟩ := q
      exact goes_ok (I9.unheld I.ok.hd I.ok.frames) hN hiN hk fun s9 I10 => ⟨_, H8, I10, q⟩
    | ret u =>
      obtain ⟨v, σ8, H8, I9, r, q⟩ := q
      exact goes_ok (I9.unheld I.ok.hd I.ok.frames) hN hiN hk fun s9 I10 => ⟨v, _, H8, I10, r, q⟩
  · have z' : X.xe e s8 := z
    rw [hxe] at z'; exact z'.elim
end
section
variable {P : Program} {w : World} {K : Frag} {mg : Str -> Option Value} {base : Heap} {k : Nat} {x : Str} {N ps G : List Str} {sp : Sp} {st : Stmt}
theorem Def.gz (D : Def K mg x st) (S : DS (zq3 st) N ps G)
    (hb : ∀ (kV doc pm : Value) (an : Option Addr) (cdv ct : Value) (us : List Value), us.length = ps.length -> bindArgs (PySem.W.fnOf x x (zj2 st) (zq8 st) (zq3 st) .none kV doc pm an cdv ct) ⟨us, []⟩ = pure (ps.zip us))
    (len : ∀ vs H Q E, sp vs H Q E -> vs.length = ps.length)
    (hbody : ∀ (X : Cx), Sc X N N G -> X.prog = P -> X.w = w -> X.K = K -> X.mg = mg -> X.base = base -> X.calm = true -> X.env.scope = zq3 st -> Own X -> X.ex = [] -> X.xe = (fun _ _ => False) -> Room k X.A -> X.A.units + 64 < cLine ->
      ∀ (H : Hp) (vs : List V) (Q : VK) (E : XK), sp vs H Q E -> ∃ t, QSs X (zq8 st) t /\ t { nx := fun _ H' => Q .non H', rt := Q } (L2.start N vs) H) : Fn P w K mg base (k + 1) x ps sp := by
  refine D.fn S.fs hb len fun f cdv A outer s H vs Q E hr h => ?_
  obtain ⟨t, z, y⟩ := hbody _ S.cx rfl rfl rfl rfl rfl rfl rfl ⟨rfl, rfl⟩ rfl rfl hr hr.units H vs Q E h
  exact ⟨t, z.h, y⟩
structure RoomH (k : Nat) (A : Around) : Prop where
  dp : A.depth + 3 * k + 5 < recursionLimit
  un : A.units + 16 * k + 200 < cLine
theorem Room.h {k : Nat} {A : Around} (r : Room k A) : RoomH k A := ⟨r.dp, r.un⟩
structure FnH (P : Program) (w : World) (K : Frag) (mg : Str -> Option Value) (base : Heap) (k : Nat) (x : Str) (ps : List Str) (sp : Sp) : Prop where
  ex : ∃ f fd, (∀ vs H Q E, sp vs H Q E -> vs.length = ps.length) /\ (∀ (A : Around) (outer : List Env) (s : Shared) (H : Hp) (args : Args) (us : List Value) (vs : List V) (Q : VK) (E : XK), RoomH k A -> Env0 P w K mg base A outer s H -> BindsTo s fd args (ps.zip us) -> Vals vs us -> sp vs H Q E ->
    codeAny (model P w) A (.call (.ref f) args) (CR CX0 outer P w H s Q E) s) /\ mg x = some (.ref f) /\ PySem.W.keepIn K (.ref f) = true /\ Binds K fd ps []
theorem Def.gh (D : Def K mg x st) (S : DS (zq3 st) N ps G)
    (hb : ∀ (kV doc pm : Value) (an : Option Addr) (cdv ct : Value) (us : List Value), us.length = ps.length -> bindArgs (PySem.W.fnOf x x (zj2 st) (zq8 st) (zq3 st) .none kV doc pm an cdv ct) ⟨us, []⟩ = pure (ps.zip us))
    (len : ∀ vs H Q E, sp vs H Q E -> vs.length = ps.length)
    (hbody : ∀ (X : Cx), Sc X N N G -> X.prog = P -> X.w = w -> X.K = K -> X.mg = mg -> X.base = base -> X.env.scope = zq3 st -> X.xe = (fun _ _ => False) -> RoomH k X.A -> X.A.units + 64 < cLine ->
      ∀ (H : Hp) (vs : List V) (Q : VK) (E : XK), sp vs H Q E -> ∃ t, QSs X (zq8 st) t /\ t { nx := fun _ H' => Q .non H', rt := Q } (L2.start N vs) H) : FnH P w K mg base (k + 1) x ps sp := by
  obtain ⟨f, fd, F, m⟩ := D.ex
  refine ⟨f, fd, len, fun A outer s H args us vs Q E hr e0 hbd r hsp => ?_, m, F.kp, F.binds hb⟩
  obtain ⟨oc, od, kV, doc, pm, an, cdv, ct, osl, rfl, lk, hcd⟩ := F.ex
  have hl := len _ _ _ _ hsp
  have KX : K.In s.heap := e0.mod.kin.keeps fun b o e => (e0.bs b o e).1
  have lim : s.heap.NoLimit := e0.mod.nolimit.keeps fun b o e => (e0.bs b o e).1
  have hkind : ∀ y ∈ ps.zip us, (zq3 st).names.lookup y.1 = some .local ∨ ((zq3 st).names.lookup y.1 = some .cell /\ ((cellsFrom (s.heap.objs.size + 1) (zq3 st).names []).lookup y.1).isSome = true) := fun ⟨n, v⟩ hy => by
    rcases S.fs.par n (List.of_mem_zip hy).1 with q | q
    · exact .inl q
    · exact .inr ⟨q, PySem.W.cellsFrom_some _ _ _ (.inl q)⟩
  refine codeAny_call_function (by have := hr.dp; omega) (KX _ _ lk) rfl S.fs.co S.fs.gen rfl (PySem.W.codeRec_of KX hcd) (hbd _ _ _ _ ?_)
  refine wpAny_newFunctionEnv_cells S.fs.kind hkind fun env he s1 x1 => ?_
  subst he
  refine ⟨lim.keeps x1.toInCall.keep, codeAny_func ?_⟩
  have e1 : Env0 P w K mg base { A with handled := none } outer s H := ⟨e0.frames, e0.mod, e0.bs, e0.bsz, e0.funs, e0.frf, e0.hok, e0.bare⟩
  have I0 : Inv (cxOf CX0 P w K mg base N x (zq3 st) f cdv { A with handled := none } outer s H E) [] (start N vs) H s1 := inv_start S.fs rfl e1 hl r x1
  let X : Cx := { cxOf CX0 P w K mg base N x (zq3 st) f cdv A outer s H E with calm := false, xe := fun _ _ => False }
  have I : Inv X [] (start N vs) H s1 := ⟨⟨I0.ok.mod, I0.ok.kind, I0.ok.glob, I0.ok.blt, I0.ok.above, I0.ok.inj, I0.ok.has, I0.ok.cab, (fun z => by cases z), Around.frames_deeper e0.frames, I0.ok.stk, I0.ok.exf, I0.ok.bs, I0.ok.bsz, I0.ok.noex, I0.ok.exfs, I0.ok.funs, I0.ok.frf⟩, I0.os, I0.bare, I0.base, I0.loc, I0.cell, I0.free, I0.freeC, I0.pin, I0.hok, I0.len⟩
  obtain ⟨t, ht, hq⟩ := hbody X ⟨rfl, S.fs.nd, fun x hx => visB_of (S.vis x hx), fun x hx => ⟨S.loc x hx, .inl rfl⟩, fun x hx => glB_of (S.gl x hx)⟩ rfl rfl rfl rfl rfl rfl rfl
    ⟨by have := hr.dp; show A.depth + 1 + 3 * k + 5 < _; omega, by have := hr.un; show A.units + 3 + 16 * k + 200 < _; omega⟩ (by have := hr.un; show A.units + 3 + 64 < _; omega) H vs Q E hsp
  refine wpAny_mono (ht.h [] s1 (start N vs) H _ I hq) (fun fl s' hs => ?_) fun e s' hs => False.elim hs
  have fin : ∀ {σ' : St} {H' : Hp} {v : V} {u : Value}, Inv X [] σ' H' s' -> RelV v u -> Q v H' -> CE outer P w H s Q u s' := fun {σ' H' v u} J rv q => ⟨v, H', J.os, J.bare, J.base, J.hok, rv, q⟩
  cases fl with
  | ret u =>
    obtain ⟨v, σ', H', J, rv, q⟩ := hs
    exact fin J rv q
  | next =>
    obtain ⟨σ', H', J, q⟩ := hs
    exact fin (v := V.non) (u := Value.none) J rfl q
  | brk =>
    obtain ⟨_, _, _, q⟩ := hs
    exact False.elim q
  | cont =>
    obtain ⟨_, _, _, q⟩ := hs
    exact False.elim q
end
section
variable {X : Cx} {N W G : List Str} {k m : Nat} {x : Str} {ps : List Str} {sp : Sp} {p pos : Pos} {e : Expr} {es : List Expr} {t : TA}
theorem kfh (S : Sc X N W G) (g : Nat) (F : FnH X.prog X.w X.K X.mg X.base k x ps sp) (hr : RoomH m X.A) (ha : QB X (e :: es) t) (hk : k <= m := by decide) (hg : G[g]? = some x := by rfl) :
    QE X (.Call (.Name x p) (e :: es) [] pos) (tCall sp [] E0 t) := by
  obtain ⟨f, fd, len, run, hm, hkp, hb⟩ := F.ex
  have q := S.gl x (List.mem_of_getElem? hg)
  refine ⟨fun pins s σ H Q I h => ?_⟩
  refine wpAny_Call_Name_kw (ld_glob I q.1 hm ?_ q.2.1)
  refine PySem.W.callWith_K (h₀ := X.base) I.ok.mod.kin hkp (thn (ha.h.pa pos pins s σ H _ I h) fun us s1 ⟨vs, H1, I1, r, q⟩ => ⟨I1.kIn, ?_⟩) (zj8 ha.h.he) (plain_of ha.h.hes)
  have q : sp vs H1 Q E0 := by
    have z := q
    dsimp only at z
    rw [List.append_nil] at z
    exact z
  have hl : us.length = ps.length := by rw [<- r.length]; exact len _ _ _ _ q
  have hbd := hb s1 us I1.kIn (by rw [List.append_nil]; exact hl)
  rw [List.append_nil] at hbd
  have hr' : RoomH k X.A := ⟨by have := hr.dp; omega, by have := hr.un; omega⟩
  refine wpAny_call (codeAny_mono (run X.A X.stack s1 H1 ⟨us, []⟩ us vs Q E0 hr' I1.env0 hbd r q) fun r s' hq => ?_)
  cases r with
  | error e => exact False.elim hq
  | ok fl =>
    cases fl with
    | ret u => exact I1.after hq
    | next => exact False.elim hq
    | brk => exact False.elim hq
    | cont => exact False.elim hq
end
section
variable {X : Cx} {N W G names : List Str} {er : Str -> Addr} {x y : Str} {a : Addr} {d : Option Addr} {pos : Pos}
theorem err_inst {pins : List (Addr × Obj)} {σ : St} {H : Hp} {s : Shared} (I : Inv X pins σ H s) (h : H a = some (errH a (er x) d)) (v : ErrV H d) : ∃ o od, PySem.W.InstAt s.heap a o (er x) od := by
  obtain ⟨⟨o, e, h1, h2, vs, h3⟩, _⟩ := I.hok a _ h
  have hn : PySem.W.notCls o = true := by unfold PySem.W.notCls; rw [h3]
  cases d with
  | none => exact ⟨o, none, ⟨e, h1, hn, by rw [h2]; trivial⟩⟩
  | some dx =>
    obtain ⟨fs, q⟩ := v
    obtain ⟨u, z⟩ := I.hok.there q
    exact ⟨o, some u, ⟨e, h1, hn, by rw [h2]; exact z⟩⟩
def rIsX (names : List Str) (er : Str -> Addr) (y : Str) : List V -> Hp -> VK -> Prop := fun xs H Q => ∃ a x d, xs = [.ref a, .ref (er y)] /\ x ∈ names /\ H a = some (errH a (er x) d) /\ ErrV H d /\ Q (.bl (isaE x y)) H
def rIsXV (names : List Str) (er : Str -> Addr) : List V -> Hp -> VK -> Prop := fun xs H Q => ∃ a x d, xs = [.ref a, .ty "ValueError"] /\ x ∈ names /\ H a = some (errH a (er x) d) /\ ErrV H d /\ Q (.bl true) H
def rIsXT (K : Frag) (names : List Str) (er : Str -> Addr) (ys : List Str) : List V -> Hp -> VK -> Prop := fun xs H Q => ∃ a t x d, xs = [.ref a, .ref t] /\ SqT K H t (ys.map fun y => .ref (er y)) /\ x ∈ names /\ H a = some (errH a (er x) d) /\ ErrV H d /\ Q (.bl (ys.any fun y => isaE x y)) H
theorem call_isX (ER : ErrT X.K X.mg names er) (hy : y ∈ names) : CallR X (.builtin "isinstance") (rIsX names er y) := by
  intro pins s σ H xs us Q I r h
  obtain ⟨a, x, d, rfl, hx, hH, v, q⟩ := h
  obtain ⟨u1, u2, rfl, r1, r2⟩ := r.two
  cases (show u1 = Value.ref a from r1)
  cases (show u2 = Value.ref (er y) from r2)
  obtain ⟨o, od, J⟩ := err_inst I hH v
  exact PySem.W.kia_one (kitx_exc (ER.cls x hx)) I.kIn J (ER.isi x hx y hy) (by intro z; cases z) fun tk => ⟨.bl _, H, I.tok tk, rfl, q⟩
theorem call_isXV (ER : ErrT X.K X.mg names er) : CallR X (.builtin "isinstance") (rIsXV names er) := by
  intro pins s σ H xs us Q I r h
  obtain ⟨a, x, d, rfl, hx, hH, v, q⟩ := h
  obtain ⟨u1, u2, rfl, r1, r2⟩ := r.two
  cases (show u1 = Value.ref a from r1)
  cases (show u2 = Value.type "ValueError" from r2)
  obtain ⟨o, od, J⟩ := err_inst I hH v
  exact PySem.W.kia_one (kitx_exc (ER.cls x hx)) I.kIn J (ER.val x hx) (by intro z; cases z) fun tk => ⟨.bl _, H, I.tok tk, rfl, q⟩
theorem kit_all (ER : ErrT X.K X.mg names er) (hx : x ∈ names) : ∀ ys : List Str, (∀ y ∈ ys, y ∈ names) -> PySem.W.kitAny X.K (.ref (er x)) (ys.map fun y => .ref (er y)) = some (ys.any fun y => isaE x y)
  | [], _ => rfl
  | y :: ys, h => by
    show (match PySem.W.kitOne X.K (.ref (er x)) (.ref (er y)) with | some true => some true | some false => PySem.W.kitAny X.K (.ref (er x)) (ys.map fun y => .ref (er y)) | none => none) = some (isaE x y || ys.any fun y => isaE x y)
    rw [ER.isi x hx y (h y List.mem_cons_self)]
    cases isaE x y with
    | true => rfl
    | false => rw [Bool.false_or]; exact kit_all ER hx ys fun z hz => h z (List.mem_cons_of_mem _ hz)
theorem vals_refs : ∀ (ys : List Str) {us : List Value}, Vals (ys.map fun y => V.ref (er y)) us -> us = ys.map fun y => Value.ref (er y)
  | [], _, .nil => rfl
  | y :: ys, _, .cons a b => by
    cases a
    rw [vals_refs ys b]; rfl
theorem call_isXT {ys : List Str} {K : Frag} (hK : X.K = K) (ER : ErrT X.K X.mg names er) (hys : ∀ y ∈ ys, y ∈ names) : CallR X (.builtin "isinstance") (rIsXT K names er ys) := by
  subst hK
  intro pins s σ H xs us Q I r h
  obtain ⟨a, t, x, d, rfl, ht, hx, hH, v, q⟩ := h
  obtain ⟨u1, u2, rfl, r1, r2⟩ := r.two
  cases (show u1 = Value.ref a from r1)
  cases (show u2 = Value.ref t from r2)
  obtain ⟨o, od, J⟩ := err_inst I hH v
  obtain ⟨its, rv, ⟨⟨cls, dd, data, sl⟩, e, ec, n, ex⟩, _⟩ := I.tuple ht
  simp only at ec ex
  subst ec ex
  rw [vals_refs ys rv] at e
  exact PySem.W.kia_tup (kitx_exc (ER.cls x hx)) I.kIn J e (kit_all ER hx ys hys) (by intro z; cases z) fun tk => ⟨.bl _, H, I.tok tk, rfl, q⟩
end
def tMethX (C : Addr) (m : Str) (sp : Sp) (ta : TE) (t : TA) : TEx := fun σ H Q E => ta σ H fun x H1 => ∃ a dx fs, x = .ref a /\ H1 a = some (.ins C dx fs) /\ fs.lookup m = none /\ t σ H1 fun vs H2 => sp (x :: vs) H2 Q E
def tMakeX (C : Addr) (sp : Sp) (t : TA) : TEx := fun σ H Q E => t σ H fun vs H1 => ∀ x dx, H1 x = none -> H1 dx = none -> dx ≠ x -> sp (.ref x :: vs) (upd (upd H1 dx (.own x)) x (.ins C dx [])) (fun v H2 => v = .non /\ Q (.ref x) H2) E
section
variable {X : Cx} {N W G fields : List Str} {k n : Nat} {x m : Str} {C : Addr} {ps : List Str} {sp : Sp} {p pos apos : Pos} {e o : Expr} {es : List Expr} {t : TA} {ta : TE}
theorem kmx {pl : Sem Bool} (hxe : X.xe = fun _ _ => False) (T : ClsT X.K X.mg x C fields) (F : FnM X.prog X.w X.K X.mg X.base k C m ps sp) (hr : Room n X.A) (he : QE X o ta) (ha : QB X (e :: es) t) (hk : k <= n := by decide)
    (ht : eval (.Call (.Attribute o m apos) (e :: es) [] pos) X.env = (do
      let ov <- eval o X.env
      standAt apos.atName
      let (f, first) <- holding [ov] (getMethod ov m pl)
      callWith pos f first (backTo pos (starEach (e :: es) X.env)) (backToKw pos (keywordEach [] X.env))) := by rfl) :
    QEx X (.Call (.Attribute o m apos) (e :: es) [] pos) (tMethX C m sp ta t) := by
  obtain ⟨f, fd, F, M, hb⟩ := F.ex
  refine ⟨fun pins s σ H Q E I h => ?_⟩
  refine PySem.W.methodCall_KW (pl := pl) (wpAny_mono (he.h pins s σ H _ I h) (fun u s1 ⟨x, H1, I1, rx, a, dx, fs, ex, ea, l, q⟩ => ?_) fun x s' z => by rw [hxe] at z; exact z.elim) ht
  subst ex
  obtain rfl : u = Value.ref a := rx
  refine getmeth_ok I1 ea T.cls M l ?_
  refine PySem.W.callWith_K (first := [.ref a]) (h₀ := X.base) I.ok.mod.kin M.kp (wpAny_mono (ha.h.pa pos pins s1 σ H1 _ I1 q) (fun us s2 ⟨vs, H2, I2, r, q2⟩ => ⟨I2.kIn, ?_⟩) fun x s' z => by rw [hxe] at z; exact z.elim) (zj8 ha.h.he) (plain_of ha.h.hes)
  have r2 : Vals (V.ref a :: vs) (Value.ref a :: us) := .cons rfl r
  have hl : (Value.ref a :: us).length = ps.length := by rw [<- r2.length]; exact F.len _ _ _ _ q2
  have hbd := hb s2 (Value.ref a :: us) I2.kIn (by rw [List.append_nil]; exact hl)
  rw [List.append_nil] at hbd
  refine wpAny_call (codeAny_mono (F.run X.A X.stack s2 H2 ⟨Value.ref a :: us, []⟩ (Value.ref a :: us) (V.ref a :: vs) Q E (hr.mono hk) I2.env0 hbd r2 q2) fun r s' hq => ?_)
  cases r with
  | error e => exact ⟨H2, s2, I2, hq⟩
  | ok fl =>
    cases fl with
    | ret u => exact I2.after hq
    | next => exact False.elim hq
    | brk => exact False.elim hq
    | cont => exact False.elim hq
theorem kmkx (S : Sc X N W G) (hxe : X.xe = fun _ _ => False) (g : Nat) (T : ClsT X.K X.mg x C fields) (F : FnM X.prog X.w X.K X.mg X.base k C "__init__" ps sp) (hr : Room n X.A) (ha : QB X (e :: es) t) (hk : k + 1 <= n := by decide) (hg : G[g]? = some x := by rfl) :
    QEx X (.Call (.Name x p) (e :: es) [] pos) (tMakeX C sp t) := by
  obtain ⟨f, fd, F, Me, hb⟩ := F.ex
  have qg := S.gl x (List.mem_of_getElem? hg)
  have M : Mk X.K C f := ⟨T.makes, Me.at_, Me.fn, T.kp⟩
  refine ⟨fun pins s σ H Q E I h => ?_⟩
  refine wpAny_Call_Name_kw (ld_glob I qg.1 T.gl ?_ qg.2.1)
  refine PySem.W.callWith_K (h₀ := X.base) I.ok.mod.kin M.kp (wpAny_mono (ha.h.pa pos pins s σ H _ I h) (fun us s1 ⟨vs, H1, I1, r, q⟩ => ⟨I1.kIn, ?_⟩) fun x s' z => by rw [hxe] at z; exact z.elim) (zj8 ha.h.he) (plain_of ha.h.hes)
  have hq := q (s1.heap.objs.size + 1) s1.heap.objs.size (I1.hok.fresh (Nat.le_succ _)) (I1.hok.fresh (Nat.le_refl _)) (Nat.ne_of_lt (Nat.lt_succ_self _))
  have I2 := Inv.made (C := C) I1
  have r2 : Vals (V.ref (s1.heap.objs.size + 1) :: vs) (Value.ref (s1.heap.objs.size + 1) :: us) := .cons rfl r
  have hl : (Value.ref (s1.heap.objs.size + 1) :: us).length = ps.length := by rw [<- r2.length]; exact F.len _ _ _ _ hq
  have hbd := hb _ (Value.ref (s1.heap.objs.size + 1) :: us) I2.kIn (by rw [List.append_nil]; exact hl)
  rw [List.append_nil] at hbd
  refine wpAny_call (make_map (f := f) I1.kIn M.makes M.init (beq_iff_eq.mp M.fn) (codeAny_mono (F.run _ X.stack _ _ ⟨Value.ref (s1.heap.objs.size + 1) :: us, []⟩ _ _ _ E ((hr.mono hk).make C us []) (I2.env0.make C us []) hbd r2 hq) fun r s' hq' => ?_))
  cases r with
  | error e => exact ⟨_, _, I2, hq'⟩
  | ok fl =>
    cases fl with
    | ret u =>
      obtain ⟨v, H', I3, rv, ev, q3⟩ := I2.after hq'
      subst ev
      exact ⟨rv, ⟨V.ref (s1.heap.objs.size + 1), H', I3, rfl, q3⟩⟩
    | next => exact False.elim hq'
    | brk => exact False.elim hq'
    | cont => exact False.elim hq'
end
end L2
namespace L2
open PySem PySem.Spec PyProof.Rows KM
theorem kpowc {X : Cx} {a b v : Int} {j1 j2 : Nat} {p1 p2 pos : Pos} (hc : CPow a b) (hv : a ^ b.toNat = v) : QE X (.BinOp (.Constant (.int a) j1 p1) .Pow (.Constant (.int b) j2 p2) pos) (tC (.int v)) :=
  ⟨fun pins s σ H Q I h => (kop op_pow (kint (i := a)) (kint (i := b))).h pins s σ H Q I (by
    show ∃ i j, V.int a = .int i /\ V.int b = .int j /\ CPow i j /\ Q (.int (i ^ j.toNat)) H
    exact ⟨a, b, rfl, rfl, hc, by rw [hv]; exact h⟩)⟩
theorem cp10_6 : CPow 10 6 := by unfold CPow; decide
theorem cp10_18 : CPow 10 18 := by unfold CPow; decide
theorem cp10_29 : CPow 10 29 := by unfold CPow; decide
theorem cp10_30 : CPow 10 30 := by unfold CPow; decide
theorem cp10_40 : CPow 10 40 := by unfold CPow; decide
theorem cp10_50 : CPow 10 50 := by unfold CPow; decide
theorem pw10_6 : (10 : Int) ^ (6 : Int).toNat = 1000000 := by decide
theorem pw10_18 : (10 : Int) ^ (18 : Int).toNat = 1000000000000000000 := by decide
theorem pw10_29 : (10 : Int) ^ (29 : Int).toNat = 100000000000000000000000000000 := by decide
theorem pw10_30 : (10 : Int) ^ (30 : Int).toNat = 1000000000000000000000000000000 := by decide
theorem pw10_40 : (10 : Int) ^ (40 : Int).toNat = 10000000000000000000000000000000000000000 := by decide
theorem pw10_50 : (10 : Int) ^ (50 : Int).toNat = 100000000000000000000000000000000000000000000000000 := by decide
def spCounts70 (K : Frag) : Sp := fun vs H Q _ => ∃ (cell : Int) (many : Nat), vs = [.int cell, .int many] /\ many <= 8 /\ ∀ (t : Addr) (cs : List Int) (H' : Hp), Same H H' -> SqT K H' t (cs.map V.int) -> CsOk cs -> cs.length = many -> Q (.ref t) H'
def InvC70 (H0 : Hp) (cell : Int) (many : Nat) (l : Addr) (k : Nat) (σ : St) (H : Hp) : Prop := ∃ (cs : List Int) (y1 y2 y3 : Option V), σ = [some (.int cell), some (.int many), some (.ref l), y1, y2, y3] /\ Same H0 H /\ H l = some (.lst (cs.map V.int)) /\ cs.length = k /\ ∀ c ∈ cs, Cn c
def MidC70 (H0 : Hp) (cell : Int) (many : Nat) (l : Addr) (cs : List Int) (k : Nat) (n : Nat) (σ : St) (H : Hp) : Prop := ∃ (sm : Addr) (ms : List Int) (num : Int), σ = [some (.int cell), some (.int many), some (.ref l), some (.int k), some (.int num), some (.ref sm)] /\ Same H0 H /\ H l = some (.lst (cs.map V.int)) /\ H sm = some (.lst (ms.map V.int)) /\ l ≠ sm /\ H0 sm = none /\ n <= ms.length /\ 1 <= ms.length /\ ms.length <= 7 /\ ∀ c ∈ ms, Cn c
end L2
namespace L2
open PySem PySem.Spec PyProof.Rows KM
theorem RL.snoc {wb : Addr} {H : Hp} {v : V} : ∀ {vs : List V} {L : List (List Nat)}, RL wb H (vs ++ [v]) L -> ∃ M l q, L = M ++ [l] /\ RL wb H vs M /\ v = .ref q /\ q ≠ wb /\ H q = some (.lst ((asI l).map V.int))
  | [], [l], ⟨⟨q, e, n, h⟩, _⟩ => ⟨[], l, q, rfl, trivial, e, n, h⟩
  | [], _ :: _ :: _, ⟨_, h⟩ => h.elim
  | _ :: vs, l :: L, ⟨a, t⟩ => by
    obtain ⟨M, l', q, e, h, r⟩ := RL.snoc (vs := vs) t
    exact ⟨l :: M, l', q, by rw [e]; rfl, ⟨a, h⟩, r⟩
  | [], [], h => h.elim
  | _ :: _, [], h => h.elim
theorem RL.same {wb : Addr} {H H' : Hp} (s : Same H H') {vs : List V} {L : List (List Nat)} (h : RL wb H vs L) : RL wb H' vs L := RL.off (fun a o _ h => s a o h) h
theorem off_upd {H : Hp} {a : Addr} {o : HO} : Off a H (upd H a o) := fun b p n h => by rw [zj4 n]; exact h
structure B70 (H0 : Hp) (r bb : Addr) (H : Hp) (us : List V) (L : List (List Nat)) : Prop where
  rl : RL bb H us L
  nd : us.Nodup
  fr : ∀ v ∈ us, ∃ q, v = .ref q /\ H0 q = none /\ q ≠ r
  ne : ∀ l ∈ L, l ≠ []
theorem B70.same {H0 : Hp} {r bb : Addr} {H H' : Hp} {us : List V} {L : List (List Nat)} (h : B70 H0 r bb H us L) (s : Same H H') : B70 H0 r bb H' us L := ⟨h.rl.same s, h.nd, h.fr, h.ne⟩
structure L70 (H0 : Hp) (r bb : Addr) (H : Hp) (us : List V) (q : Addr) (M : List (List Nat)) (l : List Nat) : Prop where
  rl : RL bb H us M
  nd : us.Nodup
  no : V.ref q ∉ us
  fr : ∀ v ∈ us, ∃ q, v = .ref q /\ H0 q = none /\ q ≠ r
  ne : ∀ l ∈ M, l ≠ []
  qb : q ≠ bb
  qr : q ≠ r
  q0 : H0 q = none
  hq : H q = some (.lst ((asI l).map V.int))
theorem B70.last {H0 : Hp} {r bb : Addr} {H : Hp} {us : List V} {L : List (List Nat)} (h : B70 H0 r bb H us L) (hu : us ≠ []) : ∃ ps q M l, us = ps ++ [.ref q] /\ L = M ++ [l] /\ L70 H0 r bb H ps q M l := by
  have hsp := (List.dropLast_concat_getLast hu).symm
  obtain ⟨rl, nd, fr, ne⟩ := h
  generalize us.dropLast = ps at hsp
  generalize us.getLast hu = v at hsp
  subst hsp
  obtain ⟨M, l, q, e1, h1, e2, n, hq⟩ := rl.snoc
  subst e1 e2
  obtain ⟨q', e, z0, zr⟩ := fr _ (List.mem_append_right _ List.mem_cons_self)
  cases e
  obtain ⟨n1, _, n3⟩ := List.nodup_append.mp nd
  exact ⟨ps, q, M, l, rfl, rfl, ⟨h1, n1, fun z => n3 _ z _ List.mem_cons_self rfl, fun v hv => fr v (List.mem_append_left _ hv), fun l hl => ne l (List.mem_append_left _ hl), n, zr, z0, hq⟩⟩
theorem L70.put {H0 : Hp} {r bb : Addr} {H : Hp} {us : List V} {q : Addr} {M : List (List Nat)} {l : List Nat} (h : L70 H0 r bb H us q M l) (o : HO) (x : Nat) : B70 H0 r bb (upd (upd H r o) q (.lst ((asI (l ++ [x])).map V.int))) (us ++ [.ref q]) (M ++ [l ++ [x]]) := by
  refine ⟨RL.append (RL.offR off_upd (RL.offR off_upd h.rl fun v hv z => ?_) fun v hv z => h.no (by rw [<- z]; exact hv)) ⟨⟨q, rfl, h.qb, zq1⟩, trivial⟩, List.nodup_append.mpr ⟨h.nd, List.nodup_cons.mpr ⟨(fun z => nomatch z), List.nodup_nil⟩, fun a ha b hb z => ?_⟩, fun v hv => ?_, fun m hm => ?_⟩
  · obtain ⟨q', e, _, n⟩ := h.fr v hv
    rw [z] at e; cases e; exact n rfl
  · rw [List.mem_singleton.mp hb] at z
    exact h.no (by rw [<- z]; exact ha)
  · rcases List.mem_append.mp hv with w | w
    · exact h.fr v w
    · exact ⟨q, List.mem_singleton.mp w, h.q0, h.qr⟩
  · rcases List.mem_append.mp hm with w | w
    · exact h.ne m w
    · rw [List.mem_singleton.mp w]; simp
def spBlk70 : Sp := fun vs H Q _ => ∃ (cell : Int) (m : Nat), vs = [.int cell, .int m] /\ m <= 8 /\ ∀ (bb : Addr) (us : List V) (L : List (List Nat)) (H' : Hp), Same H H' -> H' bb = some (.lst us) -> RL bb H' us L -> L.flatten.Perm (List.range m) -> (∀ l ∈ L, l ≠ []) -> Q (.ref bb) H'
def InvB70 (H0 : Hp) (cell : Int) (m : Nat) (r bb : Addr) (k : Nat) (σ : St) (H : Hp) : Prop := ∃ (rest : List Nat) (us : List V) (L : List (List Nat)) (y1 : Option V), σ = [some (.int cell), some (.int m), some (.ref r), some (.ref bb), y1] /\ Same H0 H /\ H r = some (.lst ((asI rest).map V.int)) /\ H bb = some (.lst us) /\ B70 H0 r bb H us L /\ (L.flatten ++ rest).Perm (List.range m) /\ L.flatten.length = k
theorem flat_le : ∀ {L : List (List Nat)}, (∀ l ∈ L, l ≠ []) -> L.length <= L.flatten.length
  | [], _ => Nat.le_refl _
  | l :: L, h => by
    have := flat_le (L := L) fun l hl => h l (List.mem_cons_of_mem _ hl)
    have := List.length_pos_iff.mpr (h l List.mem_cons_self)
    rw [List.flatten_cons, List.length_append, List.length_cons]
    omega
theorem flat_put {M : List (List Nat)} {l : List Nat} {x : Nat} : (M ++ [l ++ [x]]).flatten = (M ++ [l]).flatten ++ [x] := by
  simp
def spGroups70 (K : Frag) : Sp := fun vs H Q _ => ∃ (cell : Int) (c bb : Addr) (cs : List Int) (us : List V) (Lb : List (List Nat)), vs = [.int cell, .ref c, .ref bb] /\ SqT K H c (cs.map V.int) /\ cs.length <= 8 /\ H bb = some (.lst us) /\ RL bb H us Lb /\ Lb.flatten.Perm (List.range cs.length) /\ (∀ l ∈ Lb, l ≠ []) /\
  ∀ (t : Addr) (us : List V) (L : List (Bool × List Nat)) (H' : Hp), Same H H' -> SqT K H' t us -> GF K H' us L -> GsA cs L -> L.length <= 8 -> Q (.ref t) H'
def InvG70 (K : Frag) (H0 : Hp) (cell : Int) (c bb l : Addr) (cs : List Int) (Lb : List (List Nat)) (b : Nat) (σ : St) (H : Hp) : Prop := ∃ (us : List V) (L : List (Bool × List Nat)) (y1 y2 y3 : Option V), σ = [some (.int cell), some (.ref c), some (.ref bb), some (.ref l), y1, y2, y3] /\ Same H0 H /\ H l = some (.lst us) /\ GF K H us L /\ Drawn71 cs (Lb.drop b).flatten L
theorem drop_flat {Lb : List (List Nat)} {b : Nat} (h : b < Lb.length) : (Lb.drop b).flatten = Lb.getD b [] ++ (Lb.drop (b + 1)).flatten := by
  rw [List.drop_eq_getElem_cons h, List.flatten_cons, List.getD_eq_getElem?_getD, List.getElem?_eq_getElem h]
  rfl
def InvW70 (H0 : Hp) (cell : Int) (g l : Addr) (n : Nat) (i : Nat) (σ : St) (H : Hp) : Prop := ∃ (ws : List Nat) (y1 y3 y4 y5 y6 : Option V), σ = [some (.int cell), some (.int (n : Int)), some (.ref g), some (.ref l), y1, y3, y4, y5, y6] /\ Same H0 H /\ H l = some (.lst ((asI ws).map V.int)) /\ ws.length = i /\ ∀ k, k < i -> ws.getD k 0 < 2 ^ n /\ (ws.getD k 0).testBit k = false
def InvV70 (H0 : Hp) (cell : Int) (g l : Addr) (cs : List Int) (L : List (Bool × List Nat)) (k : Nat) (σ : St) (H : Hp) : Prop := ∃ (ws : List Nat) (y1 y3 y4 y5 y6 : Option V), σ = [some (.int cell), some (.int (cs.length : Int)), some (.ref g), some (.ref l), y1, y3, y4, y5, y6] /\ Same H0 H /\ H l = some (.lst ((asI ws).map V.int)) /\ ws.length = cs.length /\ WebOk ws /\ ∀ t g, t < k -> L[t]? = some g -> GOk cs ws g
def InvU70 (K : Frag) (H0 : Hp) (cell : Int) (g l p : Addr) (cs : List Int) (b : Bool) (ws0 row : List Nat) (k : Nat) (σ : St) (H : Hp) : Prop := ∃ (ws : List Nat) (y1 y5 y6 : Option V), σ = [some (.int cell), some (.int (cs.length : Int)), some (.ref g), some (.ref l), y1, some (.str (kd b)), some (.ref p), y5, y6] /\ Same H0 H /\ SqT K H p ((asI row).map V.int) /\ H l = some (.lst ((asI ws).map V.int)) /\ Grow ws0 ws /\ (∀ t, t < k -> b = true -> see ws (row.getD t 0) (row.getD ((t + 1) % row.length) 0) = true) /\ ∀ t, t < k -> b = false -> ∀ y ∈ row, y ≠ row.getD t 0 -> see ws (row.getD t 0) y = true
structure House (K : Frag) (H : Hp) (t c w g : Addr) (cs : List Int) (ws : List Nat) (us : List V) (L : List (Bool × List Nat)) : Prop where
  ht : SqT K H t [.ref c, .ref w, .ref g]
  hc : SqT K H c (cs.map V.int)
  hw : SqT K H w ((asI ws).map V.int)
  hg : SqT K H g us
  hL : GF K H us L
  cok : CsOk cs
  wl : ws.length = cs.length
  wok : WebOk ws
theorem House.mono {K : Frag} {H H' : Hp} {t c w g : Addr} {cs : List Int} {ws : List Nat} {us : List V} {L : List (Bool × List Nat)} (h : House K H t c w g cs ws us L) (s : Same H H') : House K H' t c w g cs ws us L := ⟨s.seqT h.ht, s.seqT h.hc, s.seqT h.hw, s.seqT h.hg, h.hL.mono s, h.cok, h.wl, h.wok⟩
def spHouse70 (K : Frag) : Sp := fun vs H Q _ => ∃ (cell : Int), vs = [.int cell] /\ ∀ (t c w g : Addr) (cs : List Int) (ws : List Nat) (us : List V) (L : List (Bool × List Nat)) (H' : Hp), Same H H' -> House K H' t c w g cs ws us L -> GsA cs L -> GsOk cs ws L -> L.length <= 8 -> Q (.ref t) H'
def spGuess70 (K : Frag) : Sp := fun vs H Q _ => ∃ (t c w g wl : Addr) (cs hs : List Int) (ws : List Nat) (us : List V) (L : List (Bool × List Nat)) (i : Nat), vs = [.ref t, .ref wl, .int i] /\ House K H t c w g cs ws us L /\ GsOk cs ws L /\ SqL K H wl (hs.map V.int) /\ HN cs hs cs.length /\ i < cs.length /\ ∀ (H' : Hp), Same H H' -> Q (.int (ggu cs L hs i)) H'
def InvGs70 (H0 : Hp) (t wl c w g : Addr) (L : List (Bool × List Nat)) (i : Nat) (k : Nat) (σ : St) (H : Hp) : Prop := Same H0 H /\ (∀ t, t < k -> ∀ x, L[t]? = some x -> i ∉ x.2) /\ ∃ y1 y2 y3 : Option V, σ = [some (.ref t), some (.ref wl), some (.int i), some (.ref c), some (.ref w), some (.ref g), y1, y2, y3]
theorem range_pk {cs : List Int} {l : List Nat} : ((List.range l.length).map fun k => cs.getD (l.getD k 0) 0) = pk cs l := by
  unfold pk
  apply List.ext_getElem
  · simp
  · intro i h1 h2
    simp at h1 h2
    simp [h1]
end L2
namespace L2
open PySem PySem.Spec PyProof.Rows KM
theorem RoomH.held {X : Cx} {k : Nat} {a : Addr} (r : Room k X.A) : RoomH k (X.held a).A := ⟨r.dp, r.un⟩
section
variable {σ : St} {H : Hp} {Q : VK} {E : XK} {C : Addr} {m : Str} {sp : Sp} {ta : TE} {t : TA} {D : Ends}
theorem q_tryH {names : List Str} {er : Str -> Addr} {tb : TSx} {i : Nat} {y : Str} {th : Addr -> TS} : tTryH names er tb i y th D σ H =
  tb D (fun σ' C d H' => ∃ x, x ∈ names /\ C = .ref (er x) /\ isaE x y = true /\ ∀ a, H' a = none -> th a { nx := fun σ'' => D.nx (σ''.set i none), rt := D.rt, bk := fun σ'' => D.bk (σ''.set i none), ct := fun σ'' => D.ct (σ''.set i none) } (σ'.set i (some (.ref a))) (upd H' a (errH a (er x) d))) σ H := rfl
theorem q_methX : tMethX C m sp ta t σ H Q E = ta σ H fun x H1 => ∃ a dx fs, x = .ref a /\ H1 a = some (.ins C dx fs) /\ fs.lookup m = none /\ t σ H1 fun vs H2 => sp (x :: vs) H2 Q E := rfl
theorem q_makeX : tMakeX C sp t σ H Q E = t σ H fun vs H1 => ∀ x dx, H1 x = none -> H1 dx = none -> dx ≠ x -> sp (.ref x :: vs) (upd (upd H1 dx (.own x)) x (.ins C dx [])) (fun v H2 => v = .non /\ Q (.ref x) H2) E := rfl
end
abbrev ERN70 : List Str := ["HatError", "LineError", "NoAsk", "NoName", "NoHats", "NoGroups", "NoPlan"]
def kinds70 (x : Str) : List Bool := [isaE x "NoHats", isaE x "NoName", isaE x "NoGroups", ["LineError", "NoAsk", "NoPlan"].any fun y => isaE x y, false]
def spKinds70 (er : Str -> Addr) : Sp := fun vs H Q _ => ∃ (a : Addr) (x : Str), vs = [.ref a] /\ x ∈ ERN70 /\ H a = some (errH a (er x) none) /\ ∀ (l : Addr) (H' : Hp), Same H H' -> H' l = some (.lst ((kinds70 x).map V.bl)) -> H l = none -> Q (.ref l) H'
def spDone70 (K : Frag) (C : Addr) (er : Str -> Addr) : Sp := fun vs H Q _ => ∃ (a c g : Addr) (cs hs0 : List Int) (us : List V), HallAt K C H a c g cs us hs0 /\ hs0.length = cs.length /\ cs.length <= 90 /\
  ((∃ (hb : Addr) (hs : List Int), vs = [.ref a, .non, .ref hb] /\ SqT K H hb (hs.map V.int) /\
      (hatsB cs hs = false -> ∀ l H', Same H H' -> H' l = some (.lst ((kinds70 "NoHats").map V.bl)) -> H l = none -> Q (.ref l) H') /\
      (hatsB cs hs = true -> ∀ l H', Off a H H' -> HallAt K C H' a c g cs us hs -> H' l = some (.lst []) -> H l = none -> Q (.ref l) H')) ∨
   (∃ (i col : Int), vs = [.ref a, .int i, .int col] /\
      (¬ (0 <= i /\ i < (cs.length : Int)) -> ∀ l H', Same H H' -> H' l = some (.lst ((kinds70 "NoName").map V.bl)) -> H l = none -> Q (.ref l) H') /\
      (0 <= i /\ i < (cs.length : Int) -> hatsB cs (hs0.set i.toNat col) = false -> ∀ l H', Same H H' -> H' l = some (.lst ((kinds70 "NoHats").map V.bl)) -> H l = none -> Q (.ref l) H') /\
      (0 <= i /\ i < (cs.length : Int) -> hatsB cs (hs0.set i.toNat col) = true -> ∀ l H', Off a H H' -> HallAt K C H' a c g cs us (hs0.set i.toNat col) -> H' l = some (.lst []) -> H l = none -> Q (.ref l) H')))
end L2
namespace L2
open PySem PySem.Spec PyProof.Rows KM
section
variable {X : Cx}
def rIsiT (K : Frag) : List V -> Hp -> VK -> Prop := fun xs H Q => ∃ a ys, xs = [.ref a, .ty "tuple"] /\ SqT K H a ys /\ Q (.bl true) H
theorem call_isiTK {K : Frag} (hK : X.K = K) : CallR X (.builtin "isinstance") (rIsiT K) := by
  subst hK
  intro pins s σ H xs us Q I r h
  obtain ⟨a, ys, rfl, hq, q⟩ := h
  obtain ⟨u, v, rfl, ru, rv⟩ := r.two
  cases (show u = Value.ref a from ru)
  cases (show v = Value.type "tuple" from rv)
  obtain ⟨its, _, ⟨o, h1, h2, _⟩, _⟩ := I.tuple hq
  exact PySem.W.kia_one PySem.W.kitx_tuple I.kIn ⟨o, h1, h2⟩ (show PySem.W.kitOne X.K (.type "tuple") (.type "tuple") = some true from by rw [kit_any]; rfl) (fun z => nomatch z) fun tk => ⟨.bl true, H, I.tok tk, rfl, q⟩
end
def spColour70 : Sp := fun vs H Q _ => ∃ (cell k count : Int), vs = [.int cell, .int k, .int count] /\ 0 <= k /\ k <= 1000 /\ 1 <= count /\ ∀ (v : Int) (H' : Hp), Same H H' -> 0 <= v -> v < count -> Q (.int v) H'
def spWrong70 : Sp := fun vs H Q _ => ∃ (cell count : Int), vs = [.int cell, .int count] /\ 1 <= count /\ ∀ (v : Int) (H' : Hp), Same H H' -> ¬ (0 <= v /\ v < count) -> Q (.int v) H'
end L2
namespace L2
open PySem PySem.Spec PyProof.Rows KM
section
variable {X : Cx}
def rCatTF (K : Frag) : R2 := fun x y H Q => ∃ a b xs ys, x = .ref a /\ y = .ref b /\ SqT K H a xs /\ SqT K H b ys /\ xs ≠ [] /\ ys ≠ [] /\ xs.length + ys.length <= sizeLine /\ ∀ p o, H p = none -> o.cls = .type "tuple" -> o.dict = none -> Q (.ref p) (upd H p (.frz o (.tup (xs ++ ys))))
theorem op_catTF {K : Frag} (h : X.K = K) : OpR X (binaryOp .Add) (rCatTF K) := by
  subst h
  intro pins s σ H x y v u Q I rx ry h
  obtain ⟨a, b, xs, ys, rfl, rfl, ha, hb, hx, hy, hz, q⟩ := h
  cases rx
  cases ry
  obtain ⟨its, r1, p1, _⟩ := I.tuple ha
  obtain ⟨its2, r2, p2, _⟩ := I.tuple hb
  refine HT.cat_tup p1 p2 (fun z => hx (r1.nil_iff.mp z)) (fun z => absurd (r2.nil_iff.mp z) hy) (fun z => ?_) (by rw [<- r1.length, <- r2.length]; exact hz)
  refine ⟨.ref s.heap.objs.size, _, I.laid (t' := s.toks) (o := .frz { cls := Value.type "tuple", data := Data.seq (its ++ its2).toArray } (.tup (xs ++ ys))) (fun b ob q => Heap.get?_push_of_some _ q) (Nat.le_refl _) ?_, rfl, q _ _ (I.hok.fresh (Nat.le_refl _)) rfl rfl⟩
  · exact ⟨Heap.get?_push_size _ rfl, by rw [List.length_append]; exact hz, _, r1.append r2, IsTup.new _ _⟩
end
theorem fm_congr {α β : Type} {f g : α -> Option β} : ∀ {l : List α}, (∀ x ∈ l, f x = g x) -> l.filterMap f = l.filterMap g
  | [], _ => rfl
  | a :: l, h => by rw [List.filterMap_cons, List.filterMap_cons, h a List.mem_cons_self, fm_congr (fun x hx => h x (List.mem_cons_of_mem _ hx))]
theorem pick_rev (xs : Array Value) : ((List.range xs.size).filterMap fun (k : Nat) => xs[(((xs.size : Int) - 1) + (k : Int) * (-1)).toNat]?).toArray = xs.toList.reverse.toArray := by
  have h := PySem.W.krv_all xs.toList.reverse.toArray
  rw [show xs.toList.reverse.toArray.size = xs.size by simp] at h
  congr 1
  have e : ((List.range xs.size).filterMap fun (k : Nat) => xs[(((xs.size : Int) - 1) + (k : Int) * (-1)).toNat]?) = (List.range xs.size).filterMap (xs.toList.reverse.toArray[·]?) := by
    refine fm_congr fun k hk => ?_
    have hk := List.mem_range.mp hk
    rw [show (((xs.size : Int) - 1) + (k : Int) * (-1)).toNat = xs.size - 1 - k by omega]
    rw [show xs.toList.reverse.toArray[k]? = xs.toList.reverse[k]? from by simp, List.getElem?_reverse (by rw [Array.length_toList]; exact hk), Array.length_toList, Array.getElem?_toList]
  rw [e, h]
section
variable {prog : Program} {w : World} {A : Around} {E : Value -> Shared -> Prop} {s : Shared}
theorem getItem_tuple_rev {t sl : Addr} {items : Array Value} {u : Tok} {Q : Value -> Shared -> Prop} (ht : IsTup s.heap t items) (hs : s.heap.IsSliceOf sl .none .none (.int (-1) u))
    (h : Q (.ref s.heap.objs.size) { s with heap := s.heap.push { cls := .type "tuple", data := .seq items.toList.reverse.toArray } })
    (hsz : items.size <= sizeLine) : wpAny (model prog w) A (getItem (.ref t) (.ref sl)) Q E s := by
  have htake : sizeOk (.seq items.toList.reverse.toArray) := by
    show items.toList.reverse.toArray.size <= sizeLine
    simpa using hsz
  obtain ⟨os, hos, hcs, hds⟩ := id hs
  have hTs : s.TypeIs (.ref sl) "slice" := ⟨os, hos, hcs⟩
  unfold getItem
  try with_reducible refine wpAny_holding ?_
  first | refine wpAny_bind (wpAny_pure ?_) | skip
  refine wpAny_bind (wpAny_sequenceKey ht.typeIs (by decide) ?_)
  refine wpAny_bind (wpAny_callSpecial?_slot (name := Str.ofString "__getitem__") ht.typeIs PyProof.Rows.slot_tuple_getitem
    (wpAny_call_entry PyProof.Rows.slot_tuple_getitem ht.typeIs entry_tuple_getitem ?_ (args_tuple_getitem _ _)))
  show wpAny _ _ (Builtin.Tuple.tupleItemsOf (.ref t) >>= _) _ _ s
  refine wpAny_bind (tupleItemsOf_ ht ?_)
  refine wpAny_bind (wpAny_typeOf hTs ?_)
  rw [if_pos (by decide)]
  refine wpAny_bind (m := Builtin.Slice.sliceApplied (.ref sl) (pure (items.size : Int))) ?_
  unfold Builtin.Slice.sliceApplied Builtin.Slice.sliceFields
  refine wpAny_bind (wpAny_bind (wpAny_field hos hds (x := .none) rfl (wpAny_bind (wpAny_field hos hds (x := .none) rfl (wpAny_bind (wpAny_field hos hds (x := .int (-1) u) rfl (wpAny_pure ?_)))))))
  refine wpAny_bind (slicePart_int ?_)
  show wpAny _ _ (if ((-1 : Int) == 0) = true then _ else _) _ _ s
  rw [if_neg (by decide)]
  refine wpAny_bind (slicePart_none (wpAny_bind (slicePart_none (wpAny_bind (wpAny_pure ?_)))))
  have pl : Builtin.Slice.slicePlaces ((items.size : Int) - 1) (-1) (-1) = items.size := by
    unfold Builtin.Slice.slicePlaces
    rw [if_neg (by decide)]
    split
    · rw [show (-(-1) : Int) = 1 from rfl, Int.ediv_one]; omega
    · omega
  show wpAny _ _ (pure (((items.size : Int) - 1), (-1 : Int), Builtin.Slice.slicePlaces ((items.size : Int) - 1) (-1) (-1))) _ _ s
  rw [pl]
  refine wpAny_pure ?_
  have hno : ¬ ((((items.size : Int) - 1) == 0 && (-1 : Int) == 1 && items.size == items.size) = true) := by
    rw [show ((-1 : Int) == 1) = false from rfl, Bool.and_false, Bool.false_and]
    exact Bool.false_ne_true
  show wpAny _ _ (if (((items.size : Int) - 1) == 0 && (-1 : Int) == 1 && items.size == items.size) = true then _ else _) _ _ s
  rw [if_neg hno, pick_rev]
  first
    | exact wpAny_bind (m := Builtin.Tuple.tupleExact _) (wpAny_newObj_type (wpAny_pure ⟨_, rfl, wpAny_pure h⟩) htake)
    | exact wpAny_bind (m := Builtin.Tuple.tupleExact _) (wpAny_newObj_type (wpAny_bind (wpAny_pure (wpAny_pure ⟨_, rfl, wpAny_pure h⟩))) htake)
    | exact wpAny_bind (wpAny_bind (m := Builtin.Tuple.tupleExact _) (wpAny_newObj_type (wpAny_pure (wpAny_pure ⟨_, rfl, wpAny_pure h⟩)) htake))
    | exact wpAny_bind (wpAny_bind (m := Builtin.Tuple.tupleExact _) (wpAny_newObj_type (wpAny_pure ⟨_, rfl, wpAny_pure h⟩) htake))
end
section
variable {X : Cx} {e st : Expr} {te ts : TE} {pos p2 : Pos} {K : Frag}
def rRvF (K : Frag) : V -> Hp -> VK -> Prop := fun x H Q => ∃ a xs, x = .ref a /\ SqT K H a xs /\ ∀ p o, H p = none -> o.cls = .type "tuple" -> o.dict = none -> Q (.ref p) (upd H p (.frz o (.tup xs.reverse)))
def tRvF (K : Frag) (te ts : TE) : TE := fun σ H Q => te σ H fun x H1 => ts σ H1 fun y H2 => y = .int (-1) /\ rRvF K x H2 Q
theorem pe_rvf {ops : Value -> Value -> List Value} (he : PE X e te) (hs : PE X st ts) (hsub : ∀ o i, subscripted (.Slice none none (some st) p2) false o i = operate (ops o i) (getItem o i)) : PE X (.Subscript e (.Slice none none (some st) p2) pos) (tRvF X.K te ts) := by
  intro pins s σ H Q I h
  refine Subscript_ (thn (he pins s σ H _ I h) fun v s1 ⟨x, H1, I1, r1, q1⟩ => ?_)
  refine wpAny_Slice ?_
  rw [evalPart_none]
  refine wpAny_pure (wpAny_pure ?_)
  rw [evalPart_some]
  refine thn (hs pins s1 σ H1 _ I1 q1) fun vs s3 ⟨y, H3, I3, r3, q3⟩ => ?_
  obtain ⟨rfl, a, xs, rfl, hx, q⟩ := q3
  cases r1
  obtain ⟨t, rfl⟩ := r3
  have I4 : Inv X pins σ H3 { s3 with heap := s3.heap.push { cls := .type "slice", data := .fields #[.none, .none, .int (-1) t] } } := I3.kept (t' := s3.toks) fun b ob q => Heap.get?_push_of_some _ q
  obtain ⟨its, r, ht, hz⟩ := I4.tuple hx
  have hlen := r.length
  show wpAny (model X.prog X.w) X.A (subscriptTail e (.Slice none none (some st) p2) (.ref a) (.ref s3.heap.objs.size)) (EP X pins σ Q) X.xe { s3 with heap := s3.heap.push { cls := .type "slice", data := .fields #[.none, .none, .int (-1) t] } }
  refine tail_any (T := "tuple") (ops := ops (.ref a) (.ref s3.heap.objs.size)) ht.typeIs PyProof.Rows.slot_tuple_getitem.lookup ?_ (hsub _ _)
  refine getItem_tuple_rev ht (Heap.IsSliceOf.new ..) ?_ (by rw [List.size_toArray] <;> omega)
  refine ⟨.ref _, _, I4.laid (t' := s3.toks) (o := .frz { cls := .type "tuple", data := .seq its.reverse.toArray } (.tup xs.reverse)) (fun b ob q => Heap.get?_push_of_some _ q) (Nat.le_refl _) ?_, rfl, q _ _ (I4.hok.fresh (Nat.le_refl _)) rfl rfl⟩
  exact ⟨Heap.get?_push_size _ rfl, by rw [List.length_reverse]; exact hz, its.reverse, vals_rev r, IsTup.new _ _⟩
theorem krvf {ops : Value -> Value -> List Value} (he : QE X e te) (hs : QE X st ts) (h : X.K = K) (hsub : ∀ o i, subscripted (.Slice none none (some st) p2) false o i = operate (ops o i) (getItem o i) := by intro _ _; with_unfolding_all rfl) : QE X (.Subscript e (.Slice none none (some st) p2) pos) (tRvF K te ts) := ⟨by subst h; exact pe_rvf he.h hs.h hsub⟩
theorem q_rvf {σ : St} {H : Hp} {Q : VK} : tRvF K te ts σ H Q = te σ H fun x H1 => ts σ H1 fun y H2 => y = .int (-1) /\ rRvF K x H2 Q := rfl
end
end L2
namespace L2
open PySem PySem.Spec PyProof.Rows KM
theorem isG_back {cs : List Int} {ws : List Nat} {g : Bool × List Int} (h : isG cs ws g = true) : g.2 = asI (nats g.2) /\ GOk cs ws (g.1, nats g.2) := by
  unfold isG at h
  rw [Bool.and_eq_true, Bool.and_eq_true] at h
  obtain ⟨h1, h2, h3⟩ := h
  obtain ⟨e, lt⟩ := inB_asI h2
  refine ⟨e, ?_⟩
  generalize nats g.2 = l at lt h3
  unfold grpB at h3
  cases hb : g.1 with
  | true =>
    rw [hb, if_pos rfl, Bool.and_eq_true] at h3
    obtain ⟨hr, ha⟩ := h3
    unfold ringB at hr
    rw [Bool.and_eq_true, Bool.and_eq_true, decide_eq_true_eq, decide_eq_true_eq, List.all_eq_true] at hr
    obtain ⟨r1, r2, r3⟩ := hr
    rw [List.all_eq_true] at ha
    refine ⟨lt, r2, fun _ => ⟨r1, fun x hx => of_decide_eq_true (ha x hx), fun k hk => ?_⟩, fun z => by cases z⟩
    have r1' : 2 <= l.length := r1
    have hk' : k < l.length := hk
    have hm : (k + 1) % l.length < l.length := Nat.mod_lt _ (by omega)
    have z := r3 _ (List.mem_range.mpr hm)
    have ea : ahead l.length ((k + 1) % l.length) = k := by
      unfold ahead
      by_cases c : k + 1 = l.length
      · rw [c, Nat.mod_self, if_pos rfl]; omega
      · rw [Nat.mod_eq_of_lt (by omega), if_neg (by omega)]; omega
    rw [ea] at z
    exact z
  | false =>
    rw [hb, if_neg Bool.false_ne_true, Bool.and_eq_true] at h3
    obtain ⟨hr, ha⟩ := h3
    refine ⟨lt, riseB_nodup hr, fun z => (by cases z), fun _ x hx y hy n => ?_⟩
    unfold circleB at ha
    rw [List.all_eq_true] at ha
    have z := ha x hx
    rw [List.all_eq_true] at z
    have z := z y hy
    rw [Bool.or_eq_true, decide_eq_true_eq] at z
    rcases z with z | z
    · exact absurd z.symm n
    · exact z
def gN (L : List (Bool × List Int)) : List (Bool × List Nat) := L.map fun g => (g.1, nats g.2)
theorem gf_back {cs : List Int} {ws : List Nat} : ∀ {L : List (Bool × List Int)} {gone : List Int} {k : Nat}, gfF cs ws gone k L = none -> L = gI (gN L) /\ GsOk cs ws (gN L) /\ ∀ g ∈ L, ∀ x ∈ g.2, x ∉ gone
  | [], _, _, _ => ⟨rfl, ⟨(fun _ h => nomatch h), .nil⟩, fun _ h => nomatch h⟩
  | g :: L, gone, k, h => by
    unfold gfF at h
    split at h
    · rename_i c
      rw [Bool.and_eq_true, Bool.not_eq_true', List.any_eq_false] at c
      obtain ⟨c1, c2⟩ := c
      obtain ⟨e, ok⟩ := isG_back c1
      obtain ⟨e2, ⟨each, disj⟩, off⟩ := gf_back h
      have here : ∀ x ∈ g.2, x ∉ gone := fun x hx z => c2 x hx (decide_eq_true z)
      refine ⟨?_, ⟨fun g' hg' => ?_, List.pairwise_cons.mpr ⟨fun g' hg' x hx z => ?_, disj⟩⟩, fun g' hg' x hx z => ?_⟩
      · show g :: L = (g.1, asI (nats g.2)) :: gI (gN L)
        rw [<- e, <- e2]
      · rcases List.mem_cons.mp hg' with w | w
        · rw [w]; exact ok
        · exact each g' w
      · obtain ⟨g2, hg2, e3⟩ := List.mem_map.mp hg'
        rw [<- e3] at z
        have z : x ∈ nats g2.2 := z
        have e4 : g2.2 = asI (nats g2.2) := by
          have : ∀ {M : List (Bool × List Int)}, M = gI (gN M) -> ∀ g ∈ M, g.2 = asI (nats g.2) := fun {M} hM g hg => by
            induction M with
            | nil => cases hg
            | cons a r ih =>
              have hM : a :: r = (a.1, asI (nats a.2)) :: gI (gN r) := hM
              obtain ⟨h1, h2⟩ := List.cons.inj hM
              rcases List.mem_cons.mp hg with w | w
              · rw [w]; exact congrArg Prod.snd h1
              · exact ih h2 w
          exact this e2 g2 hg2
        refine off g2 hg2 (x : Int) (by rw [e4]; exact mem_asI.mpr z) (List.mem_append_right _ ?_)
        rw [e]
        exact mem_asI.mpr hx
      · rcases List.mem_cons.mp hg' with w | w
        · rw [w] at hx; exact here x hx z
        · exact off g' w x hx (List.mem_append_left _ z)
    · cases h
def gD (g : Bool × List Nat) : PyData := .tuple [.str (kd g.1), .tuple ((asI g.2).map PyData.int)]
section
variable {K : Frag} {H : Hp}
theorem GF.dt : ∀ {vs : List V} {L : List (Bool × List Nat)}, GF K H vs L -> DtAll K H vs (L.map gD)
  | [], [], _ => .nil
  | _ :: _, g :: _, ⟨⟨r, p, e, h, h2, _⟩, t⟩ => by rw [e]; exact .cons (.tup h (.cons (.str _) (.cons (.tup h2 (DtAll.ints _)) .nil))) (GF.dt t)
  | [], _ :: _, h => h.elim
  | _ :: _, [], h => h.elim
theorem GF.take : ∀ {vs : List V} {L : List (Bool × List Nat)} (k : Nat), GF K H vs L -> GF K H (vs.take k) (L.take k)
  | _, _, 0, _ => by rw [List.take_zero, List.take_zero]; exact trivial
  | [], [], k + 1, _ => trivial
  | _ :: _, _ :: _, k + 1, ⟨a, t⟩ => ⟨a, GF.take k t⟩
  | [], _ :: _, _ + 1, h => h.elim
  | _ :: _, [], _ + 1, h => h.elim
theorem GF.drop : ∀ {vs : List V} {L : List (Bool × List Nat)} (k : Nat), GF K H vs L -> GF K H (vs.drop k) (L.drop k)
  | _, _, 0, h => h
  | [], [], k + 1, _ => trivial
  | _ :: _, _ :: _, k + 1, ⟨_, t⟩ => GF.drop k t
  | [], _ :: _, _ + 1, h => h.elim
  | _ :: _, [], _ + 1, h => h.elim
theorem GI.append : ∀ {vs ws : List V} {L M : List (Bool × List Int)}, GI K H vs L -> GI K H ws M -> GI K H (vs ++ ws) (L ++ M)
  | [], _, [], _, _, h => h
  | _ :: _, _, _ :: _, _, ⟨a, t⟩, h => ⟨a, GI.append t h⟩
  | [], _, _ :: _, _, h, _ => h.elim
  | _ :: _, _, [], _, h, _ => h.elim
end
theorem lay_groups : ∀ L : List (Bool × List Nat), PyData.canLayAll0 (L.map gD) = true /\ PyData.depthAll (L.map gD) <= 20
  | [] => ⟨by simp [PyData.canLayAll0], by simp [PyData.depthAll]⟩
  | g :: q => by
    obtain ⟨h1, h2⟩ := lay_groups q
    have h3 := PySem.W.depthAll_ints (asI g.2)
    have h4 := PySem.W.canLayAll0_ints (asI g.2)
    rw [List.map_cons]
    refine ⟨?_, ?_⟩
    · simp only [PyData.canLayAll0, gD, PyData.canLay0, h4, h1, Bool.and_true]
      cases g.1 <;> decide +kernel
    · simp only [PyData.depthAll, gD, PyData.depth]; omega
theorem shaped_groups (L : List (Bool × List Nat)) : PySem.SeqAt.shaped (.tuple (L.map gD)) = true := by
  obtain ⟨h1, h2⟩ := lay_groups L
  show (PyData.canLay0 (.tuple (L.map gD)) && decide (PyData.depth (.tuple (L.map gD)) <= 64)) = true
  rw [Bool.and_eq_true, decide_eq_true_eq]
  refine ⟨by simp only [PyData.canLay0]; exact h1, by simp only [PyData.depth]; omega⟩
theorem eqv_nilT {ds : List PyData} : PyData.eqv (.tuple ds) (.tuple []) = decide (ds = []) := by
  cases ds with
  | nil => simp [PyData.eqv, PyData.eqvAll]
  | cons a r => simp [PyData.eqv, PyData.eqvAll]
end L2
namespace L2
open PySem PySem.Spec PyProof.Rows KM
section
variable {prog : Program} {w : World} {A : Around} {E : Value -> Shared -> Prop} {s : Shared}
theorem getItem_tuple_whole {t sl : Addr} {items : Array Value} {vl vu : Value} {lo hi : Option Int} {Q : Value -> Shared -> Prop} (ht : IsTup s.heap t items) (hs : s.heap.IsSliceOf sl vl vu .none) (pl : IsPart vl lo) (pu : IsPart vu hi)
    (hw : HT.sIx items.size 0 lo = 0 /\ HT.sIx items.size items.size hi = items.size) (h : Q (.ref t) s) : wpAny (model prog w) A (getItem (.ref t) (.ref sl)) Q E s := by
  obtain ⟨os, hos, hcs, hds⟩ := id hs
  have hTs : s.TypeIs (.ref sl) "slice" := ⟨os, hos, hcs⟩
  unfold getItem
  try with_reducible refine wpAny_holding ?_
  first | refine wpAny_bind (wpAny_pure ?_) | skip
  refine wpAny_bind (wpAny_sequenceKey ht.typeIs (by decide) ?_)
  refine wpAny_bind (wpAny_callSpecial?_slot (name := Str.ofString "__getitem__") ht.typeIs PyProof.Rows.slot_tuple_getitem
    (wpAny_call_entry PyProof.Rows.slot_tuple_getitem ht.typeIs entry_tuple_getitem ?_ (args_tuple_getitem _ _)))
  show wpAny _ _ (Builtin.Tuple.tupleItemsOf (.ref t) >>= _) _ _ s
  refine wpAny_bind (tupleItemsOf_ ht ?_)
  refine wpAny_bind (wpAny_typeOf hTs ?_)
  rw [if_pos (by decide)]
  refine wpAny_bind (HT.sliceApplied_gen hs pl pu ?_)
  have hyes : ((((HT.sIx items.size 0 lo : Nat) : Int) == 0 && (1 : Int) == 1 && (HT.sIx items.size items.size hi - HT.sIx items.size 0 lo) == items.size) = true) := by
    rw [hw.1, hw.2]; simp
  show wpAny _ _ (if (((HT.sIx items.size 0 lo : Nat) : Int) == 0 && (1 : Int) == 1 && (HT.sIx items.size items.size hi - HT.sIx items.size 0 lo) == items.size) = true then _ else _) _ _ s
  rw [if_pos hyes]
  refine wpAny_bind (m := Builtin.Tuple.tupleIsExact (.ref t)) (wpAny_bind (wpAny_typeOf ht.typeIs (wpAny_pure ?_)))
  rw [if_pos (by decide)]
  refine wpAny_bind (wpAny_rule ?_)
  first
    | exact wpAny_pure ⟨_, rfl, wpAny_pure h⟩
    | exact wpAny_bind (wpAny_pure ⟨_, rfl, wpAny_pure h⟩)
    | exact wpAny_bind (wpAny_pure (wpAny_pure ⟨_, rfl, wpAny_pure h⟩))
end
section
variable {X : Cx} {K : Frag}
def rSlW (K : Frag) : V -> Option Int -> Option Int -> Hp -> VK -> Prop := fun x lo hi H Q => ∃ a xs, x = .ref a /\ SqT K H a xs /\ ∀ p H', Same H H' -> SqT K H' p (cutV xs lo hi) -> Q (.ref p) H'
theorem sl_tupW (h : X.K = K) : SlR X (rSlW K) := by
  subst h
  intro pins s σ H x v vl vu lo hi sl Q I rx hs pl pu h
  obtain ⟨a, xs, rfl, hx, q⟩ := h
  cases rx
  obtain ⟨its, r, ht, hz⟩ := I.tuple hx
  have hlen : its.toArray.size = xs.length := by rw [List.size_toArray]; exact r.length.symm
  refine ⟨"tuple", _, PyProof.Rows.slot_tuple_getitem.lookup, ht.typeIs, ?_⟩
  by_cases hw : HT.sIx xs.length 0 lo = 0 /\ HT.sIx xs.length xs.length hi = xs.length
  · refine getItem_tuple_whole ht hs pl pu (by rw [hlen]; exact hw) ?_
    refine ⟨.ref a, H, I, rfl, q a H (Same.refl _) ?_⟩
    have e : cutV xs lo hi = xs := by
      unfold cutV
      rw [hw.1, hw.2, List.drop_zero, Nat.sub_zero, List.take_of_length_le (Nat.le_refl _)]
    rw [e]; exact hx
  · refine HT.getItem_tuple_cut ht hs pl pu (by rw [hlen]; exact hw) ?_ (by rw [hlen]; exact hz)
    rw [hlen]
    refine ⟨.ref s.heap.objs.size, _, I.laid (t' := s.toks) (o := .tup (cutV xs lo hi)) (fun b ob q => Heap.get?_push_of_some _ q) (Nat.le_refl _) ?_, rfl, q _ _ (Same.new (I.hok.fresh (Nat.le_refl _)) _) (SqT.of zq1)⟩
    exact ⟨Nat.le_trans (cutV_length xs lo hi) hz, _, (r.drop (HT.sIx xs.length 0 lo)).take (HT.sIx xs.length xs.length hi - HT.sIx xs.length 0 lo), IsTup.new _ _⟩
end
theorem gN_gI (L : List (Bool × List Nat)) : gN (gI L) = L := by
  unfold gN gI
  rw [List.map_map]
  refine (List.map_congr_left fun g _ => ?_).trans (List.map_id L)
  show (g.1, nats (asI g.2)) = g
  rw [nats_asI]
theorem gN_append (A B : List (Bool × List Int)) : gN (A ++ B) = gN A ++ gN B := List.map_append
theorem gI_each {L : List (Bool × List Int)} (h : L = gI (gN L)) {g : Bool × List Int} (hg : g ∈ L) : g.2 = asI (nats g.2) := by
  rw [h] at hg
  obtain ⟨g', _, e⟩ := List.mem_map.mp hg
  rw [<- e]
  show asI g'.2 = asI (nats (asI g'.2))
  rw [nats_asI]
structure Bent (K : Frag) (H : Hp) (t c w g : Addr) (cs : List Int) (ws : List Nat) (us : List V) (L : List (Bool × List Int)) : Prop where
  ht : SqT K H t [.ref c, .ref w, .ref g]
  hc : SqT K H c (cs.map V.int)
  hw : SqT K H w ((asI ws).map V.int)
  hg : SqT K H g us
  hL : GI K H us L
  cok : CsOk cs
  wl : ws.length = cs.length
  wok : WebOk ws
  len : L.length <= 30
  each : ∀ g ∈ L, g.2.length <= 30
  gf : gfF cs ws [] 0 L = none -> GF K H us (gN L)
theorem Bent.mono {K : Frag} {H H' : Hp} {t c w g : Addr} {cs : List Int} {ws : List Nat} {us : List V} {L : List (Bool × List Int)} (h : Bent K H t c w g cs ws us L) (s : Same H H') : Bent K H' t c w g cs ws us L :=
  ⟨s.seqT h.ht, s.seqT h.hc, s.seqT h.hw, s.seqT h.hg, h.hL.mono s, h.cok, h.wl, h.wok, h.len, h.each, fun z => (h.gf z).mono s⟩
theorem Bent.house {K : Frag} {H : Hp} {t c w g : Addr} {cs : List Int} {ws : List Nat} {us : List V} {L : List (Bool × List Int)} (h : Bent K H t c w g cs ws us L) (z : gfF cs ws [] 0 L = none) : House K H t c w g cs ws us (gN L) :=
  ⟨h.ht, h.hc, h.hw, h.hg, h.gf z, h.cok, h.wl, h.wok⟩
def spBent70 (K : Frag) : Sp := fun vs H Q _ => ∃ (t c w g : Addr) (cell : Int) (cs : List Int) (ws : List Nat) (us : List V) (L : List (Bool × List Nat)), vs = [.ref t, .int cell] /\ House K H t c w g cs ws us L /\ GsA cs L /\ GsOk cs ws L /\ L.length <= 8 /\
  ∀ (t' c' w' g' : Addr) (cs' : List Int) (ws' : List Nat) (us' : List V) (L' : List (Bool × List Int)) (H' : Hp), Same H H' -> Bent K H' t' c' w' g' cs' ws' us' L' -> Q (.ref t') H'
section
variable {K : Frag} {H : Hp}
theorem mid_gi {us : List V} {L : List (Bool × List Nat)} {k : Nat} {b : Bool} {ns : List Int} {q p : Addr} (hL : GF K H us L) (hq : SqT K H q [.str (kd b), .ref p]) (hp : SqT K H p (ns.map V.int)) :
    GI K H ((us.take k ++ [.ref q]) ++ us.drop (k + 1)) ((gI (L.take k) ++ [(b, ns)]) ++ gI (L.drop (k + 1))) :=
  ((hL.take k).gi.append (ws := [.ref q]) (M := [(b, ns)]) ⟨⟨q, p, rfl, hq, hp⟩, trivial⟩).append (hL.drop (k + 1)).gi
theorem mid_gf {cs : List Int} {ws : List Nat} {us : List V} {L : List (Bool × List Nat)} {k : Nat} {b : Bool} {ns : List Int} {q p : Addr} (hL : GF K H us L) (hq : SqT K H q [.str (kd b), .ref p]) (hp : SqT K H p (ns.map V.int)) (ty : TyT K H p ∨ (b = true /\ ns.length <= 1))
    (z : gfF cs ws [] 0 ((gI (L.take k) ++ [(b, ns)]) ++ gI (L.drop (k + 1))) = none) : GF K H ((us.take k ++ [.ref q]) ++ us.drop (k + 1)) (gN ((gI (L.take k) ++ [(b, ns)]) ++ gI (L.drop (k + 1)))) := by
  obtain ⟨e, ok, _⟩ := gf_back z
  have mem : (b, ns) ∈ (gI (L.take k) ++ [(b, ns)]) ++ gI (L.drop (k + 1)) := List.mem_append_left _ (List.mem_append_right _ List.mem_cons_self)
  have e2 : ns = asI (nats ns) := gI_each e mem
  have ok2 := ok.each (b, nats ns) (List.mem_map.mpr ⟨_, mem, rfl⟩)
  have ty2 : TyT K H p := by
    rcases ty with ty | ⟨hb, h1⟩
    · exact ty
    · have := (ok2.ring hb).1
      have e3 : (nats ns).length = ns.length := by unfold nats; rw [List.length_map]
      have e4 : 2 <= (nats ns).length := this
      omega
  rw [gN_append, gN_append, gN_gI, gN_gI]
  refine GF.append (GF.append (hL.take k) (ws := [.ref q]) (M := [(b, nats ns)]) ⟨⟨q, p, rfl, hq, ?_, ty2⟩, trivial⟩) (hL.drop (k + 1))
  show SqT K H p ((asI (nats ns)).map V.int)
  rw [<- e2]; exact hp
theorem gI_take_len {cs : List Int} {L : List (Bool × List Nat)} (h8 : cs.length <= 8) (ha : GsA cs L) (ok : ∀ g ∈ L, g.2.Nodup) : ∀ g ∈ gI L, g.2.length <= 30 := fun g hg => by
  obtain ⟨g', hg', e⟩ := List.mem_map.mp hg
  rw [<- e]
  show (asI g'.2).length <= 30
  rw [zq6]
  have := nodup_le (ok g' hg') (ha.each g' hg').lt
  omega
theorem gI_len (L : List (Bool × List Nat)) : (gI L).length = L.length := List.length_map _
theorem gI_sub {L M : List (Bool × List Nat)} (h : ∀ g ∈ M, g ∈ L) : ∀ g ∈ gI M, g ∈ gI L := fun g hg => by
  obtain ⟨g', hg', e⟩ := List.mem_map.mp hg
  exact List.mem_map.mpr ⟨g', h g' hg', e⟩
theorem mid_len {L : List (Bool × List Nat)} {k : Nat} {b : Bool} {ns : List Int} (h8 : L.length <= 8) : ((gI (L.take k) ++ [(b, ns)]) ++ gI (L.drop (k + 1))).length <= 30 := by
  rw [List.length_append, List.length_append, gI_len, gI_len, List.length_take, List.length_drop]
  show min k L.length + 1 + (L.length - (k + 1)) <= 30
  omega
theorem mid_each {L : List (Bool × List Nat)} {k : Nat} {b : Bool} {ns : List Int} (h : ∀ g ∈ gI L, g.2.length <= 30) (hn : ns.length <= 30) : ∀ g ∈ (gI (L.take k) ++ [(b, ns)]) ++ gI (L.drop (k + 1)), g.2.length <= 30 := fun g hg => by
  rcases List.mem_append.mp hg with hg | hg
  · rcases List.mem_append.mp hg with hg | hg
    · exact h g (gI_sub (fun _ z => List.mem_of_mem_take z) g hg)
    · rw [List.mem_singleton.mp hg]; exact hn
  · exact h g (gI_sub (fun _ z => List.mem_of_mem_drop z) g hg)
end
theorem CsOk.set {cs : List Int} (h : CsOk cs) {i : Nat} {v : Int} (hi : i < cs.length) (hv : Cn v) : CsOk (cs.take i ++ [v] ++ cs.drop (i + 1)) := by
  refine ⟨fun c hc => ?_, ?_⟩
  · rcases List.mem_append.mp hc with hc | hc
    · rcases List.mem_append.mp hc with hc | hc
      · exact h.cn c (List.mem_of_mem_take hc)
      · rw [List.mem_singleton.mp hc]; exact hv
    · exact h.cn c (List.mem_of_mem_drop hc)
  · have := h.len
    rw [List.length_append, List.length_append, List.length_take, List.length_drop]
    show min i cs.length + 1 + (cs.length - (i + 1)) <= 8
    omega
theorem cut_len {α : Type} {cs : List α} {i : Nat} {v : α} (hi : i < cs.length) : (cs.take i ++ [v] ++ cs.drop (i + 1)).length = cs.length := by
  rw [List.length_append, List.length_append, List.length_take, List.length_drop]
  show min i cs.length + 1 + (cs.length - (i + 1)) = cs.length
  omega
theorem cut_set {α : Type} {cs : List α} {i : Nat} {v : α} (hi : i < cs.length) : cs.take i ++ [v] ++ cs.drop (i + 1) = cs.set i v := by
  rw [List.set_eq_take_append_cons_drop, if_pos hi, List.append_assoc]
  rfl
theorem web_xor {ws : List Nat} (h : WebOk ws) {i j : Nat} (hi : i < ws.length) (hj : j < ws.length) (n : i ≠ j) : WebOk (ws.set i (ws.getD i 0 ^^^ 2 ^ j)) := by
  refine h.set hi fun k hk => ?_
  rw [Nat.testBit_xor, Nat.testBit_two_pow] at hk
  by_cases e : j = k
  · subst e; exact ⟨hj, Ne.symm n⟩
  · rw [decide_eq_false e, Bool.xor_false] at hk
    refine ⟨h.inside hi hk, fun z => ?_⟩
    subst z
    have := h.self k hi
    unfold see at this
    rw [this] at hk; cases hk
section
variable {K : Frag} {H : Hp} {Q : VK} {a : Addr} {xs : List V} {i : Int}
theorem to_slTtV (k : Nat) (h : SqT K H a xs) (e : i = (k : Int)) (hk : k < xs.length) (q : ∀ p, H p = none -> Q (.ref p) (upd H p (.tup (xs.take k)))) : rSlT K (.ref a) none (some i) H Q := by
  subst e
  refine ⟨a, _, rfl, h, ?_, fun p hp => ?_⟩
  · rw [HT.sIx_nat]; omega
  · rw [cut_takeM]; exact q p hp
theorem to_slTdV (k : Nat) (h : SqT K H a xs) (e : i = ((k + 1 : Nat) : Int)) (hk : k < xs.length) (q : ∀ p, H p = none -> Q (.ref p) (upd H p (.tup (xs.drop (k + 1))))) : rSlT K (.ref a) (some i) none H Q := by
  subst e
  refine ⟨a, _, rfl, h, ?_, fun p hp => ?_⟩
  · rw [HT.sIx_nat]; omega
  · rw [cut_dropM]; exact q p hp
end
theorem Same.free2 {H H' : Hp} (s : Same H H') {b : Addr} (h : H' b = none) : H b = none := by
  cases e : H b with
  | none => rfl
  | some o => rw [s _ _ e] at h; cases h
theorem lcNew {j : Int} {te : TE} {rest : St} {Q : VK} {H1 : Hp} (n : Nat) (Ok : Nat -> Addr -> Hp -> Prop) (e : j = (n : Int)) (hn : n <= 1000000)
    (live : ∀ i r H, Ok i r H -> ∃ o, H r = some o) (mono : ∀ i r H H', Same H H' -> Ok i r H -> Ok i r H')
    (off : ∀ i r acc ys zs H, H acc = some (.lst ys) -> acc ≠ r -> Ok i r H -> Ok i r (upd H acc (.lst zs)))
    (step : ∀ i H (A : V -> Hp -> Prop), i < n -> Same H1 H -> (∀ r H', Same H H' -> H r = none -> Ok i r H' -> A (.ref r) H') -> te (some (.int (i : Int)) :: rest) H A)
    (fin : ∀ acc (rs : List Addr) H, H1 acc = none -> Same H1 H -> H acc = some (.lst (rs.map V.ref)) -> rs.length = n -> rs.Nodup -> acc ∉ rs -> (∀ i r, rs[i]? = some r -> Ok i r H /\ H1 r = none) -> Q (.ref acc) H) :
    ∃ k : Int, [V.int j] = [.int k] /\ -(2 ^ 62) <= k /\ k < 2 ^ 62 /\ rLC (gName 0) tTrue te (none :: rest) Q (Itr 0 k.toNat) H1 := by
  subst e
  refine ⟨_, rfl, by omega, by omega, ?_⟩
  rw [Int.toNat_natCast]
  intro acc hacc
  refine ⟨fun i m τ H => m = n - i /\ i <= n /\ (∃ y, τ = y :: rest) /\ Same H1 H /\ ∃ rs : List Addr, H acc = some (.lst (rs.map V.ref)) /\ rs.length = i /\ rs.Nodup /\ acc ∉ rs /\ ∀ k r, rs[k]? = some r -> Ok k r H /\ H1 r = none, ⟨n, by simp, Nat.zero_le _, ⟨_, rfl⟩, Same.new hacc _, [], zq1, rfl, List.nodup_nil, (fun h => nomatch h), fun k r h => by simp at h⟩, ?_⟩
  rintro i m τ H ⟨rfl, hi, ⟨y, rfl⟩, hS, rs, hF, hl, hd, ha, hO⟩
  by_cases hlt : i < n
  · refine .inr ⟨hlt, fun τ' H' => (∃ y, τ' = y :: rest) /\ Same H1 H' /\ ∃ rs : List Addr, H' acc = some (.lst (rs.map V.ref)) /\ rs.length = i + 1 /\ rs.Nodup /\ acc ∉ rs /\ ∀ k r, rs[k]? = some r -> Ok k r H' /\ H1 r = none, fun τ' H' ⟨a, b, c⟩ => ⟨n - (i + 1), by omega, rfl, hlt, a, b, c⟩, fun x H' y => ?_⟩
    obtain ⟨rfl, rfl⟩ := y
    rw [Int.zero_add]
    simp only [q_name, q_True, List.set_cons_zero, q_iT, q_ifT]
    refine step i H' _ hlt hS fun r H2 hS2 hr0 hr => ?_
    have hF2 := hS2 _ _ hF
    have hra : r ≠ acc := fun z => by rw [z, hF] at hr0; cases hr0
    have hrs : r ∉ rs := fun z => by
      obtain ⟨k, hk⟩ := List.mem_iff_getElem?.mp z
      obtain ⟨o, ho⟩ := live _ _ _ (hO k r hk).1
      rw [hr0] at ho; cases ho
    refine ⟨_, hF2, ?_, ⟨_, rfl⟩, (hS.trans hS2).set hacc _, rs ++ [r], by rw [List.map_append]; exact zq1, by rw [List.length_append, hl]; rfl, ?_, ?_, fun k r' hk => ?_⟩
    · rw [List.length_map, hl]
      exact Nat.lt_of_lt_of_le (Nat.lt_of_lt_of_le hlt hn) (by decide)
    · rw [List.nodup_append]
      exact ⟨hd, by simp, fun a h1 b h2 z => by rw [List.mem_singleton.mp h2] at z; subst z; exact hrs h1⟩
    · intro z
      rcases List.mem_append.mp z with z | z
      · exact ha z
      · exact hra (List.mem_singleton.mp z).symm
    · by_cases c : k < rs.length
      · rw [List.getElem?_append_left c] at hk
        obtain ⟨h1, h2⟩ := hO k r' hk
        exact ⟨off _ _ _ _ _ _ hF2 (fun z => ha (by rw [z]; exact List.mem_of_getElem? hk)) (mono _ _ _ _ hS2 h1), h2⟩
      · rw [List.getElem?_append_right (by omega)] at hk
        have hk0 : k - rs.length = 0 := by
          cases hq : k - rs.length with
          | zero => rfl
          | succ q => rw [hq] at hk; simp at hk
        rw [hk0] at hk
        have e1 : r = r' := by simpa using hk
        have e2 : k = i := by omega
        subst e1 e2
        exact ⟨off _ _ _ _ _ _ hF2 (Ne.symm hra) hr, hS.free2 hr0⟩
  · have e : i = n := by omega
    subst e
    exact .inl ⟨Nat.le_refl _, fin acc rs H hacc hS hF hl hd ha hO⟩
theorem lcVN {K : Frag} {a : Addr} {xs : List V} {tc : TT} {te : TE} {rest : St} {Q : VK} {H1 : Hp} (h : SqL K H1 a xs) (hn : xs.length < sizeLine)
    (step : ∀ i H (A : V -> Hp -> Prop) (B : Hp -> Prop), i < xs.length -> Same H1 H -> (∀ H', Same H H' -> B H') ->
      tc (some (xs.getD i .non) :: rest) H fun b H3 => if b = true then te (some (xs.getD i .non) :: rest) H3 A else B H3)
    (fin : ∀ acc H, H1 acc = none -> Same H1 H -> H acc = some (.lst []) -> Q (.ref acc) H) :
    ∃ b, V.ref a = .ref b /\ (∃ xs, SqL K H1 b xs) /\ rLC (gName 0) tc te (none :: rest) Q (Itl K b) H1 := by
  refine ⟨a, rfl, ⟨_, h⟩, lc1 (itok_list h) (fun _ => false) (fun _ => .non) hn (fun i H A B hi hS _ hB => step i H A B hi hS (hB rfl)) fun acc H h1 h2 h3 => fin acc H h1 h2 (by rw [h3]; simp)⟩
section
variable {K : Frag} {a C dx : Addr} {fs : List (Str × V)} {H H' : Hp}
theorem GI.offI (s : Off a H H') (ha : H a = some (.ins C dx fs)) : ∀ {vs : List V} {L : List (Bool × List Int)}, GI K H vs L -> GI K H' vs L
  | [], [], h => h
  | _ :: _, _ :: _, ⟨⟨r, p, e, h, h2⟩, t⟩ => ⟨⟨r, p, e, h.offI s ha, h2.offI s ha⟩, GI.offI s ha t⟩
  | [], _ :: _, h => h.elim
  | _ :: _, [], h => h.elim
theorem Bent.offI {t c w g : Addr} {cs : List Int} {ws : List Nat} {us : List V} {L : List (Bool × List Int)} (h : Bent K H t c w g cs ws us L) (s : Off a H H') (ha : H a = some (.ins C dx fs)) : Bent K H' t c w g cs ws us L :=
  ⟨h.ht.offI s ha, h.hc.offI s ha, h.hw.offI s ha, h.hg.offI s ha, h.hL.offI s ha, h.cok, h.wl, h.wok, h.len, h.each, fun z => (h.gf z).offI s ha⟩
end
def spRef70 (K : Frag) : Sp := fun vs H Q _ => ∃ (t c w g : Addr) (cell : Int) (cs : List Int) (ws : List Nat) (us : List V) (L : List (Bool × List Nat)), vs = [.ref t, .int cell] /\ House K H t c w g cs ws us L /\ GsA cs L /\ GsOk cs ws L /\ L.length <= 8 /\ ∀ H', Same H H' -> Q (.bl true) H'
theorem flat_zero (n : Nat) : (List.replicate n [V.int 0]).flatten = (List.replicate n (0 : Int)).map V.int := by
  induction n with
  | zero => rfl
  | succ k ih => rw [List.replicate_succ, List.flatten_cons, ih, List.replicate_succ]; rfl
end L2
namespace K70
open PySem L2 PyProof.Rows KM
def top (i : Nat) : Stmt := PySem.Challenge.pw_hatsight_k70_hall.main.body.getD i (.Pass ⟨0, 0, 0, 0⟩)
abbrev s_product : Stmt := top 9
abbrev s_circle_guess : Stmt := top 10
abbrev s_ring_guess : Stmt := top 12
abbrev s_sees : Stmt := top 14
abbrev s_is_circle : Stmt := top 15
abbrev s_is_ring : Stmt := top 16
abbrev s_rises : Stmt := top 18
abbrev s_is_group : Stmt := top 19
abbrev s_group_fault : Stmt := top 20
abbrev s_picked : Stmt := top 21
abbrev s_group_guess : Stmt := top 22
abbrev s_are_hats : Stmt := top 24
abbrev s_law_cell_at : Stmt := top 27
abbrev s_law_draw : Stmt := top 28
abbrev s_law_counts : Stmt := top 29
abbrev s_law_blocks : Stmt := top 30
abbrev s_law_groups : Stmt := top 31
abbrev s_law_web : Stmt := top 32
abbrev s_law_house : Stmt := top 33
abbrev s_law_guess : Stmt := top 34
abbrev s_law_kinds : Stmt := top 35
abbrev s_law_done : Stmt := top 36
abbrev s_law_colour : Stmt := top 37
abbrev s_law_wrong_colour : Stmt := top 38
abbrev s_law_put_one : Stmt := top 39
abbrev s_law_put_all : Stmt := top 40
abbrev s_law_looked : Stmt := top 41
abbrev s_law_hats_right : Stmt := top 42
abbrev s_law_bent : Stmt := top 43
abbrev s_law_refused : Stmt := top 44
abbrev s_law : Stmt := top 45
abbrev s_Hall___init__ : Stmt := clsSt (top 25) 0
abbrev s_Hall_put_all : Stmt := clsSt (top 25) 1
abbrev s_Hall_put : Stmt := clsSt (top 25) 2
abbrev s_Hall_hats : Stmt := clsSt (top 25) 3
abbrev s_Hall_guess : Stmt := clsSt (top 25) 4
abbrev s_Hall_right : Stmt := clsSt (top 25) 5
structure Bn (mg : Str -> Option Value) : Prop where
  range : mg "range" = none
  len : mg "len" = none
  sum : mg "sum" = none
  isinstance : mg "isinstance" = none
  int : mg "int" = none
  bool : mg "bool" = none
  tuple : mg "tuple" = none
  list : mg "list" = none
  sorted : mg "sorted" = none
  set : mg "set" = none
  all : mg "all" = none
  any : mg "any" = none
  zip : mg "zip" = none
  enumerate : mg "enumerate" = none
  ValueError : mg "ValueError" = none
abbrev ERN : List Str := ["HatError", "LineError", "NoAsk", "NoName", "NoHats", "NoGroups", "NoPlan"]
local macro_rules | `(tactic| walk_at "rd") => `(tactic| try simp only [L2.start, List.map_cons, List.map_nil, List.length_cons, List.length_nil, List.replicate, List.cons_append, List.nil_append, List.append_nil, List.set_cons_zero, List.set_cons_succ, Nat.reduceAdd, Nat.reduceSub,
  q_var0, q_varS, q_C, q_Op, q_Un, q_rI0, q_rI, q_rU, q_tI, q_rT, q_eqI, q_neI, q_rB, q_test, q_tB, q_notT, q_andT, q_orT, q_andV, q_notV, q_chain, q_nil, q_cons, q_call, q_CB, q_tup, q_lst, q_BM, q_BMT, q_dnew, q_DIn, q_DPut, q_Sl, q_noPart, q_part, q_rP, q_LC, q_True,
  q_next, q_seq, q_drop, q_ret, q_ifS, q_asg, q_par, q_name, q_sub, q_iList, q_iTup, q_iRng1, q_iEnT, q_iZpT, q_iZpS, q_isNn, q_isNi, q_ntNn, q_ntNi, q_p2, q_sh, bAnd, bOr, bXor, bitAnd_m1, q_b1, q_for, q_ints, q_dT, q_ifT, q_ifF, Bool.false_eq_true, q_upS, q_upN, q_upV, q_g0, q_gS, Bool.not_true, Bool.not_false, decide_eq_true_eq])
section
variable {P : Program} {w : World} {K : Frag} {mg : Str -> Option Value} {base : Heap} {er : Str -> Addr} {cHall : Addr}
theorem ds_sees : DS (zq3 s_sees) ["web", "i", "j"] ["web", "i", "j"] [] := ds_of (by decide +kernel)
theorem ok_sees (D : Def K mg "sees" s_sees) : Fn P w K mg base 1 "sees" ["web", "i", "j"] (spSees K) := by
  refine D.gq ds_sees (fun _ _ _ _ _ _ us hl => match us, hl with | [_, _, _], _ => rfl) (fun vs H Q E h => ?_) ?_
  · obtain ⟨w, ws, i, j, rfl, _⟩ := h; rfl
  intro X S e1 e2 e3 e4 e5 hc hsc hxe hr hu H vs Q E h
  subst e1 e2 e3 e4 e5
  obtain ⟨w, ws, i, j, rfl, hw, hi, q⟩ := h
  refine ⟨_, (zq5 (sret (kcmp op_eq (kop op_and (kop op_shr (kix (zj5 (K := X.K) rfl) (kv S 0) (kv S 1) (fun _ _ => rfl)) (kv S 2)) kint) kint (zq9 _)))), ?_⟩
  walk_at "rd"
  refine zj9 hw rfl (by rw [zq6]; exact hi) ?_
  rw [zz2]
  walk_at "rd"
  exact ⟨by omega, q⟩
theorem ds_is_circle : DS (zq3 s_is_circle) ["web", "people", "crowd", "i", "others"] ["web", "people"] ["sum"] := ds_of (by decide +kernel)
theorem ok_is_circle (B : Bn mg) (D : Def K mg "is_circle" s_is_circle) : Fn P w K mg base 1 "is_circle" ["web", "people"] (spIC K) := by
  refine D.gq ds_is_circle (fun _ _ _ _ _ _ us hl => match us, hl with | [_, _], _ => rfl) (fun vs H Q E h => ?_) ?_
  · obtain ⟨w, p, ws, l, rfl, _⟩ := h; rfl
  intro X S e1 e2 e3 e4 e5 hc hsc hxe hr hu H vs Q E h
  subst e1 e2 e3 e4 e5
  obtain ⟨w, p, ws, l, rfl, hw, hp, h8, hd, hlt, q⟩ := h
  have hl8 := nodup_le hd hlt
  refine ⟨_, (zq4 (ssv S 2 (kcb S 0 (call_sumK hc (K := X.K) rfl) B.sum boot_sum (zq0 (klc S hc hsc (itupK (kv S 1) (K := X.K) rfl) (N := ["i"]) (W := ["i"]) (G := []) (fv := [none]) (by decide +kernel) (fun cl C fp s H S2 => ⟨(kg S2 0), if_nil, (kop op_shl kint (kv S2 0))⟩)) zq2)))
      (zq4 (sfor hxe hc (itupK (kv S 1) (K := X.K) rfl) (kg S 3) (zq4 (ssv S 4 (kop op_sub (kv S 2) (kop op_shl kint (kv S 3))))
      (zq5 (sif (tcmp op_ne (kop op_and (kix (zj5 (K := X.K) rfl) (kv S 0) (kv S 3) (fun _ _ => rfl)) (kv S 4)) (kv S 4) (zq9 _)) (zq5 (sret kbl)) zz0))))
      (zq5 (sret kbl)))), ?_⟩
  walk_at "rd"
  refine lcT (fun _ => true) (fun j => ((2 ^ l.getD j 0 : Nat) : Int)) hp (by rw [zq6]; exact zj7 (by omega)) ?_ ?_
  · intro j H1 A B' hj hS hA hB
    rw [zq6] at hj
    rw [zz2]
    walk_at "rd"
    exact ⟨cpow1 (by have := hlt _ (getD_memN hj); omega), hA rfl _ (Same.refl _)⟩
  intro acc H1 hn1 hS1 hacc
  rw [fil_all] at hacc
  refine to_sum (SqL.of hacc) ?_
  rw [map_pow]
  have hp1 := hS1.seqT hp
  have hw1 := hS1.seqT hw
  walk_at "rd"
  refine forT (InvIC H1 w p ws l) hp1 ⟨rfl, (fun j hj => absurd hj (Nat.not_lt_zero j)), none, none, rfl⟩ (fun k σ H' h => by rw [h.1]; exact hp1) ?_ ?_
  · rintro k σ H' hk ⟨hH, hall, y1, y2, rfl⟩
    rw [zq6] at hk
    have hm := getD_memN hk
    rw [hH, zz2]
    walk_at "rd"
    refine ⟨cpow1 (by have := hlt _ hm; omega), ?_⟩
    refine zj9 hw1 rfl (by rw [zq6]; exact hlt _ hm) ?_
    rw [zz2, sub_pow (pow_le_mask hm)]
    walk_at "rd"
    have e := circle_one (ws := ws) hd hm
    by_cases c : (l.all fun x => decide (x = l.getD k 0) || see ws (l.getD k 0) x) = true
    · rw [c, decide_eq_true_eq] at e
      rw [e]
      try rw [not_ne rfl]
      walk_at "rd"
      refine ⟨rfl, fun j hj => ?_, _, _, rfl⟩
      by_cases e2 : j = k
      · rw [e2]; exact c
      · exact hall j (by omega)
    · have c' : (l.all fun x => decide (x = l.getD k 0) || see ws (l.getD k 0) x) = false := by simpa using c
      rw [c', decide_eq_false_iff_not] at e
      rw [decide_eq_false (show ¬ (((ws.getD (l.getD k 0) 0 &&& (mask l - 2 ^ l.getD k 0) : Nat) : Int) = ((mask l - 2 ^ l.getD k 0 : Nat) : Int)) by rw [q_eqN]; exact e)]
      walk_at "rd"
      have : circleB ws l = false := by
        cases z : circleB ws l with
        | false => rfl
        | true =>
          unfold circleB at z
          rw [List.all_eq_true] at z
          rw [z _ hm] at c'; cases c'
      rw [<- this]
      exact q _ hS1
  · rintro σ H' ⟨hH, hall, y1, y2, rfl⟩
    rw [zq6] at hall
    rw [hH]
    walk_at "rd"
    have : circleB ws l = true := by
      unfold circleB
      rw [List.all_eq_true]
      intro x hx
      obtain ⟨k, hk, e⟩ := List.getElem_of_mem hx
      have := hall k hk
      rw [List.getD_eq_getElem?_getD, List.getElem?_eq_getElem hk] at this
      rw [<- e]; exact this
    rw [<- this]
    exact q _ hS1
theorem ds_is_ring : DS (zq3 s_is_ring) ["web", "people", "followers"] ["web", "people"] ["len", "set", "all", "zip"] := ds_of (by decide +kernel)
theorem ok_is_ring (B : Bn mg) (D : Def K mg "is_ring" s_is_ring) (F_sees : Fn P w K mg base 1 "sees" ["web", "i", "j"] (spSees K)) : Fn P w K mg base 2 "is_ring" ["web", "people"] (spIR K) := by
  refine D.gq ds_is_ring (fun _ _ _ _ _ _ us hl => match us, hl with | [_, _], _ => rfl) (fun vs H Q E h => ?_) ?_
  · obtain ⟨w, p, ws, r, rfl, _⟩ := h; rfl
  intro X S e1 e2 e3 e4 e5 hc hsc hxe hr hu H vs Q E h
  subst e1 e2 e3 e4 e5
  obtain ⟨w, p, ws, r, rfl, hw, hp, h8, h90, hlt, q⟩ := h
  refine ⟨_, (zq4 (sif (wpt (wor (tcmp op_lt (kcb S 0 (zj3 (K := X.K) rfl) B.len boot_len (zq0 (kv S 1) zq2)) kint (zq9 _)) (wor1 (tcmp op_lt (kcb S 0 call_lenSet B.len boot_len (zq0 (kct S 1 (call_setK hc (K := X.K) rfl) B.set boot_set (zq0 (kv S 1) zq2)) zq2)) (kcb S 0 (zj3 (K := X.K) rfl) B.len boot_len (zq0 (kv S 1) zq2)) (zq9 _))))) (zq5 (sret kbl)) zz0)
      (zq4 (ssv S 2 (kop (op_catTK (K := X.K) rfl) (ksl (sl_tupK (K := X.K) rfl) (kv S 1) (zz6 kint) ko_none) (ksl (sl_tupK (K := X.K) rfl) (kv S 1) ko_none (zz6 kint))))
      (zq5 (sret (kcb S 2 (call_allK hc (K := X.K) rfl) B.all boot_all (zq0 (klc S hc hsc (izpT S 3 B.zip (K := X.K) rfl (zq0 (kv S 1) (zq0 (kv S 2) zq2))) (N := ["i", "j", "web"]) (W := ["i", "j"]) (G := ["sees"]) (fv := [none, none, some 0]) (by decide +kernel) (fun cl C fp s H S2 => ⟨(gtup rfl (K := X.K) (n := 2) rfl (zz3 (kg S2 0) (zz3 (kg S2 1) gs_nil))), if_nil, (kff S2 0 F_sees hr (zq0 (kv S2 2) (zq0 (kv S2 0) (zq0 (kv S2 1) zq2))))⟩)) zq2)))))), ?_⟩
  walk_at "rd"
  refine zz7 (.inr hp) ?_
  rw [List.length_map, zq6]
  walk_at "rd"
  refine ite2 (fun c => ?_) (fun c => ?_)
  · rw [show false = ringB ws r by unfold ringB; rw [decide_eq_false (show ¬ 2 <= r.length by omega)]; rfl]
    exact q _ (Same.refl _)
  refine ⟨p, asI r, rfl, .inr hp, by rw [zq6]; omega, fun s hs => ?_⟩
  have ss := Same.new hs (.set (fun j => (setF (asI r) (asI r).length).any (· == j)) (unlike (asI r)))
  refine ⟨s, _, _, rfl, zq1, ?_⟩
  generalize upd H s _ = H1 at ss ⊢
  refine zz7 (.inr (ss.seqT hp)) ?_
  rw [List.length_map, zq6]
  walk_at "rd"
  by_cases hd : r.Nodup
  · rw [if_neg (by rw [unlike_eq (asI_nodup hd), zq6]; omega)]
    refine to_slTd 0 (ss.seqT hp) rfl (by rw [zq6]; omega) fun a ha => ?_
    have sa := Same.new ha (.tup (((asI r).drop (0 + 1)).map V.int))
    refine to_slTt 1 ((ss.trans sa).seqT hp) rfl (by rw [zq6]; omega) fun b hb => ?_
    have sb := Same.new hb (.tup (((asI r).take 1).map V.int))
    refine to_catT (ns := (asI r).drop 1) (ms := (asI r).take 1) (SqT.of (sb _ _ zq1)) (SqT.of zq1) (small8 (by rw [List.length_drop, List.length_take, zq6]; omega)) fun f H2 s2 hf => ?_
    have hf : SqT X.K H2 f ((asI (foll r)).map V.int) := by
      unfold foll
      rw [asI_append, <- asI_drop, <- asI_take]; exact hf
    have s3 := ((ss.trans sa).trans sb).trans s2
    walk_at "rd"
    refine lcZ (fun k => .bl (see ws (r.getD k 0) ((foll r).getD k 0))) (s3.seqT hp) hf (by rw [zq6, zq6, foll_len (by omega)]) (by rw [zq6]; exact zj7 (by omega)) ?_ ?_
    · intro k H3 A hk hS3 hA
      rw [zq6] at hk
      rw [zz2, zz2]
      walk_at "rd"
      exact ⟨w, ws, r.getD k 0, (foll r).getD k 0, rfl, (s3.trans hS3).seqT hw, hlt _ (getD_memN hk), hA _ (Same.refl _)⟩
    · intro acc H3 hn3 hS3 hacc
      refine ⟨acc, (List.range r.length).map fun k => see ws (r.getD k 0) ((foll r).getD k 0), rfl, SqL.of (by rw [hacc, zq6, List.map_map]; rfl), ?_⟩
      rw [ring_turn, show ((List.range r.length).all fun k => see ws (r.getD (ahead r.length k) 0) (r.getD k 0)) = ringB ws r by unfold ringB; rw [decide_eq_true (show 2 <= r.length by omega), decide_eq_true hd]; rfl]
      exact q _ (s3.trans hS3)
  · have hu2 := unlike_lt (fun z => hd (asI_nodup_iff.mp z))
    rw [zq6] at hu2
    rw [if_pos (by omega), show false = ringB ws r by unfold ringB; rw [decide_eq_false hd, Bool.false_and, Bool.and_false]]
    exact q _ ss
theorem all_map {α : Type} (l : List α) (p : α -> Bool) : (l.map p).all id = l.all p := by rw [List.all_map]; rfl
theorem any_map {α : Type} (l : List α) (p : α -> Bool) : (l.map p).any id = l.any p := by rw [List.any_map]; rfl
theorem range_getD {α : Type} (l : List Int) (f : Int -> α) : (List.range l.length).map (fun k => f (l.getD k 0)) = l.map f := by
  apply List.ext_getElem
  · simp
  · intro i h1 h2
    simp at h1 h2
    simp [h1]
theorem lcB {K : Frag} {a : Addr} {ns : List Int} {te : TE} {rest : L2.St} {Q : VK} {H1 : Hp} (f : Int -> Bool) (h : SqT K H1 a (ns.map V.int)) (hn : ns.length <= 1000)
    (step : ∀ (i : Int) H (A : V -> Hp -> Prop), i ∈ ns -> Same H1 H -> (∀ H', Same H H' -> A (.bl (f i)) H') -> te (some (.int i) :: rest) H A)
    (fin : ∀ acc H, H1 acc = none -> Same H1 H -> H acc = some (.lst ((ns.map f).map V.bl)) -> Q (.ref acc) H) :
    ∃ b, V.ref a = .ref b /\ (∃ xs, SqT K H1 b xs) /\ rLC (gName 0) tTrue te (none :: rest) Q (Itt K b) H1 := by
  refine ⟨a, rfl, ⟨_, h⟩, lc1 (itok_tup h) (fun _ => true) (fun i => .bl (f (ns.getD i 0))) (by rw [List.length_map]; exact zj7 hn) ?_ ?_⟩
  · intro i H A B' hi hS hA _
    rw [List.length_map] at hi
    rw [getD_ints hi]
    simp only [q_True, q_iT, q_ifT]
    exact step _ H A (KM.getD_mem hi) hS fun H' s' => hA rfl _ s'
  · intro acc H hn hS hacc
    rw [fil_all, List.length_map] at hacc
    refine fin acc H hn hS ?_
    rw [hacc, <- range_getD ns f, List.map_map]; rfl
theorem ds_rises : DS (zq3 s_rises) ["people"] ["people"] ["all", "zip"] := ds_of (by decide +kernel)
theorem ok_rises (B : Bn mg) (D : Def K mg "rises" s_rises) : Fn P w K mg base 1 "rises" ["people"] (spRises K) := by
  refine D.gq ds_rises (fun _ _ _ _ _ _ us hl => match us, hl with | [_], _ => rfl) (fun vs H Q E h => ?_) ?_
  · obtain ⟨p, l, rfl, _⟩ := h; rfl
  intro X S e1 e2 e3 e4 e5 hc hsc hxe hr hu H vs Q E h
  subst e1 e2 e3 e4 e5
  obtain ⟨p, l, rfl, hp, h1, h90, q⟩ := h
  refine ⟨_, (zq5 (sret (kcb S 0 (call_allK hc (K := X.K) rfl) B.all boot_all (zq0 (klc S hc hsc (izpS S 1 B.zip (K := X.K) rfl (zq0 (kv S 0) (zq0 (ksl (sl_tupK (K := X.K) rfl) (kv S 0) (zz6 kint) ko_none) zq2))) (N := ["i", "j"]) (W := ["i", "j"]) (G := []) (fv := [none, none]) (by decide +kernel) (fun cl C fp s H S2 => ⟨(gtup rfl (K := X.K) (n := 2) rfl (zz3 (kg S2 0) (zz3 (kg S2 1) gs_nil))), if_nil, (kcmp op_lt (kv S2 0) (kv S2 1) (zq9 _))⟩)) zq2)))), ?_⟩
  walk_at "rd"
  refine to_slTd 0 hp rfl (by rw [zq6]; omega) fun a ha => ?_
  have sa := Same.new ha (.tup (((asI l).drop (0 + 1)).map V.int))
  refine lcZS (ns := asI l) (ms := (asI l).drop (0 + 1)) (fun k => .bl (decide (l.getD k 0 < l.getD (k + 1) 0))) (sa.seqT hp) (SqT.of zq1) (by rw [List.length_drop, zq6]; omega) (by rw [List.length_drop, zq6]; exact zj7 (by omega)) ?_ ?_
  · intro k H3 A hk hS3 hA
    rw [List.length_drop, zq6] at hk
    rw [zz2, show ((asI l).drop (0 + 1)).getD k 0 = ((l.getD (k + 1) 0 : Nat) : Int) by rw [<- zz2, List.getD_eq_getElem?_getD, List.getElem?_drop, List.getD_eq_getElem?_getD]; congr 2; omega]
    walk_at "rd"
    have e : decide (((l.getD k 0 : Nat) : Int) < ((l.getD (k + 1) 0 : Nat) : Int)) = decide (l.getD k 0 < l.getD (k + 1) 0) := by
      rw [decide_eq_decide]; omega
    rw [e]
    exact hA _ (Same.refl _)
  · intro acc H3 hn3 hS3 hacc
    rw [List.length_drop, zq6] at hacc
    refine ⟨acc, (List.range (l.length - (0 + 1))).map fun k => decide (l.getD k 0 < l.getD (k + 1) 0), rfl, SqL.of (by rw [hacc, List.map_map]; rfl), ?_⟩
    rw [all_map]
    exact q _ (sa.trans hS3)
theorem ds_is_group : DS (zq3 s_is_group) ["counts", "web", "kind", "people"] ["counts", "web", "kind", "people"] ["len", "all", "rises", "is_circle", "is_ring"] := ds_of (by decide +kernel)
theorem ok_isG (B : Bn mg) (D : Def K mg "is_group" s_is_group) (F_rises : Fn P w K mg base 1 "rises" ["people"] (spRises K)) (F_is_circle : Fn P w K mg base 1 "is_circle" ["web", "people"] (spIC K)) (F_is_ring : Fn P w K mg base 2 "is_ring" ["web", "people"] (spIR K)) : Fn P w K mg base 3 "is_group" ["counts", "web", "kind", "people"] (spIsG K) := by
  refine D.gq ds_is_group (fun _ _ _ _ _ _ us hl => match us, hl with | [_, _, _, _], _ => rfl) (fun vs H Q E h => ?_) ?_
  · obtain ⟨c, w, p, cs, ws, g, rfl, _⟩ := h; rfl
  intro X S e1 e2 e3 e4 e5 hc hsc hxe hr hu H vs Q E h
  subst e1 e2 e3 e4 e5
  obtain ⟨c, w, p, cs, ws, ⟨b, ns⟩, rfl, hcq, hw, hp, hwl, h8, h90, q⟩ := h
  have hp : SqT X.K H p (ns.map V.int) := hp
  have h90 : ns.length <= 90 := h90
  refine ⟨_, (zq4 (sif (wpt (wor (tcmp op_lt (kcb S 0 (zj3 (K := X.K) rfl) B.len boot_len (zq0 (kv S 3) zq2)) kint (zq9 _)) (wor1 (tnot (tval (kcb S 1 (call_allK hc (K := X.K) rfl) B.all boot_all (zq0 (klc S hc hsc (itupK (kv S 3) (K := X.K) rfl) (N := ["i", "counts"]) (W := ["i"]) (G := ["len"]) (fv := [none, some 0]) (by decide +kernel) (fun cl C fp s H S2 => ⟨(kg S2 0), if_nil, (kchain op_le op_lt kint (kv S2 0) (kcb S2 0 (zj3 (K := X.K) rfl) B.len boot_len (zq0 (kv S2 1) zq2)))⟩)) zq2))))))) (zq5 (sret kbl)) zz0)
      (zq4 (sif (tcmp op_eq (kv S 2) kstr (zq9 _)) (zq5 (sret (kand (kff S 2 F_rises hr (zq0 (kv S 3) zq2)) (kone (kff S 3 F_is_circle hr (zq0 (kv S 1) (zq0 (kv S 3) zq2))))))) zz0)
      (zq5 (sret (kand (kcmp op_eq (kv S 2) kstr (zq9 _)) (kand (kff S 4 F_is_ring hr (zq0 (kv S 1) (zq0 (kv S 3) zq2))) (kone (kcb S 1 (call_allK hc (K := X.K) rfl) B.all boot_all (zq0 (klc S hc hsc (itupK (kv S 3) (K := X.K) rfl) (N := ["i", "counts"]) (W := ["i"]) (G := []) (fv := [none, some 0]) (by decide +kernel) (fun cl C fp s H S2 => ⟨(kg S2 0), if_nil, (kcmp op_eq (kix (zj5 (K := X.K) rfl) (kv S2 1) (kv S2 0) (fun _ _ => rfl)) kint (zq9 _))⟩)) zq2))))))))), ?_⟩
  walk_at "rd"
  refine zz7 (.inr hp) ?_
  rw [List.length_map]
  walk_at "rd"
  refine ite2 (fun c1 => ?_) (fun c1 => ?_)
  · have e : isG cs ws (b, ns) = false := by unfold isG; rw [decide_eq_false (show ¬ 1 <= ns.length by omega), Bool.false_and]
    rw [e] at q
    exact q _ (Same.refl _)
  refine lcB (fun i => decide (0 <= i) && decide (i < (cs.length : Int))) hp (by omega) ?_ ?_
  · intro i H1 A hi hS hA
    walk_at "rd"
    by_cases c0 : 0 <= i
    · rw [if_pos c0]
      refine zz7 (.inr (hS.seqT hcq)) ?_
      rw [List.length_map]
      walk_at "rd"
      rw [decide_eq_true c0, Bool.true_and] at hA
      exact hA _ (Same.refl _)
    · rw [if_neg c0]
      rw [decide_eq_false c0, Bool.false_and] at hA
      exact hA _ (Same.refl _)
  intro acc H1 hn1 s1 hacc
  refine ⟨acc, _, rfl, SqL.of hacc, ?_⟩
  rw [all_map, show (ns.all fun i => decide (0 <= i) && decide (i < (cs.length : Int))) = inB cs.length ns from rfl]
  walk_at "rd"
  by_cases hin : inB cs.length ns = true
  · rw [hin]
    obtain ⟨en, hlt⟩ := inB_asI hin
    have hnl : (nats ns).length = ns.length := by unfold nats; rw [List.length_map]
    have eG : isG cs ws (b, ns) = grpB cs ws b (nats ns) := by
      unfold isG
      rw [decide_eq_true (show 1 <= ns.length by omega), Bool.true_and]
      show (inB cs.length ns && _) = _
      rw [hin, Bool.true_and]
    rw [eG] at q
    generalize nats ns = l at *
    subst en
    rw [zq6] at c1 h90
    have e : decide (kd b = "ring") = b := kd_ring b
    have e2 : decide (kd b = "circle") = !b := by cases b <;> decide
    walk_at "rd"
    simp only [q_eqS, q_rB, e, e2]
    cases b with
    | false =>
      simp only [Bool.not_false, if_true]
      refine ⟨p, l, rfl, s1.seqT hp, by omega, by omega, fun H2 s2 => ?_⟩
      unfold grpB at q
      simp only [Bool.false_eq_true, if_false] at q
      walk_at "rd"
      cases hri : riseB l with
      | true =>
        rw [hri, Bool.true_and] at q
        walk_at "rd"
        exact ⟨w, p, ws, l, rfl, (s1.trans s2).seqT hw, (s1.trans s2).seqT hp, by omega, riseB_nodup hri, fun x hx => by rw [hwl]; exact hlt x hx, fun H3 s3 => q _ ((s1.trans s2).trans s3)⟩
      | false =>
        rw [hri, Bool.false_and] at q
        walk_at "rd"
        exact q _ (s1.trans s2)
    | true =>
      simp only [Bool.not_true, Bool.false_eq_true, if_false]
      unfold grpB at q
      simp only [if_true] at q
      walk_at "rd"
      try simp only [q_eqS, q_rB, e, if_true]
      refine ⟨w, p, ws, l, rfl, s1.seqT hw, s1.seqT hp, by omega, by omega, fun x hx => by rw [hwl]; exact hlt x hx, fun H2 s2 => ?_⟩
      walk_at "rd"
      cases hri : ringB ws l with
      | true =>
        rw [hri, Bool.true_and] at q
        walk_at "rd"
        refine lcB (fun i => decide (cs.getD i.toNat 0 = 2)) ((s1.trans s2).seqT hp) (by rw [zq6]; omega) ?_ ?_
        · intro i H3 A hi hS hA
          obtain ⟨x, hx, rfl⟩ := List.mem_map.mp hi
          walk_at "rd"
          refine zj9 (((s1.trans s2).trans hS).seqT hcq) rfl (hlt x hx) ?_
          walk_at "rd"
          exact hA _ (Same.refl _)
        · intro acc2 H3 hn3 s3 hacc2
          refine ⟨acc2, _, rfl, SqL.of hacc2, ?_⟩
          rw [all_map, show ((asI l).all fun i => decide (cs.getD i.toNat 0 = 2)) = l.all (fun x => decide (cs.getD x 0 = 2)) by unfold asI; rw [List.all_map]; rfl]
          exact q _ ((s1.trans s2).trans s3)
      | false =>
        rw [hri, Bool.false_and] at q
        walk_at "rd"
        exact q _ (s1.trans s2)
  · have hin : inB cs.length ns = false := by simpa using hin
    have eG : isG cs ws (b, ns) = false := by
      unfold isG
      show (_ && (inB cs.length ns && _)) = false
      rw [hin, Bool.false_and, Bool.and_false]
    rw [hin]
    rw [eG] at q
    walk_at "rd"
    exact q _ s1
theorem ds_group_fault : DS (zq3 s_group_fault) ["counts", "web", "groups", "taken", "place", "group", "people", "i"] ["counts", "web", "groups"] ["enumerate", "any", "is_group"] := ds_of (by decide +kernel)
def InvGf (K : Frag) (H0 : Hp) (c w g : Addr) (cs : List Int) (ws : List Nat) (L : List (Bool × List Int)) (k : Nat) (σ : L2.St) (H : Hp) : Prop := ∃ (d : Addr) (gone : List Int) (y1 y2 y3 y4 : Option V), σ = [some (.ref c), some (.ref w), some (.ref g), some (.ref d), y1, y2, y3, y4] /\ Same H0 H /\ H0 d = none /\ DKs H d gone /\ gone.length <= 30 * k /\ gfF cs ws [] 0 L = gfF cs ws gone k (L.drop k)
def InvGg2 (H0 : Hp) (c w g d p : Addr) (k : Nat) (y2 : V) (gone ns : List Int) (j : Nat) (σ : L2.St) (H : Hp) : Prop := ∃ (y4 : Option V), σ = [some (.ref c), some (.ref w), some (.ref g), some (.ref d), some (.int (k : Int)), some y2, some (.ref p), y4] /\ Same H0 H /\ DKs H d (gone ++ ns.take j)
theorem ok_gfault (B : Bn mg) (D : Def K mg "group_fault" s_group_fault) (F_is_group : Fn P w K mg base 3 "is_group" ["counts", "web", "kind", "people"] (spIsG K)) : Fn P w K mg base 4 "group_fault" ["counts", "web", "groups"] (spGFault K) := by
  refine D.gq ds_group_fault (fun _ _ _ _ _ _ us hl => match us, hl with | [_, _, _], _ => rfl) (fun vs H Q E h => ?_) ?_
  · obtain ⟨c, w, g, cs, ws, us, L, rfl, _⟩ := h; rfl
  intro X S e1 e2 e3 e4 e5 hc hsc hxe hr hu H vs Q E h
  subst e1 e2 e3 e4 e5
  obtain ⟨c, w, g, cs, ws, us, L, rfl, hcq, hw, hg, hL, hwl, h8, h90, hL90, q⟩ := h
  refine ⟨_, (zq4 (ssv S 3 kdnew)
      (zq4 (sfor hxe hc (ienT S 0 B.enumerate (K := X.K) rfl (zq0 (kv S 2) zq2)) (gtup hc (K := X.K) (n := 2) rfl (zz3 (kg S 4) (zz3 (kg S 5) gs_nil))) (zq4 (ssv S 6 (kix (zj5 (K := X.K) rfl) (kv S 5) kint (fun _ _ => rfl)))
      (zq4 (sif (wpt (wor (tnot (tval (kff S 2 F_is_group hr (zq0 (kv S 0) (zq0 (kv S 1) (zq0 (kix (zj5 (K := X.K) rfl) (kv S 5) kint (fun _ _ => rfl)) (zq0 (kv S 6) zq2))))))) (wor1 (tval (kcb S 1 (call_anyK hc (K := X.K) rfl) B.any boot_any (zq0 (klc S hc hsc (itupK (kv S 6) (K := X.K) rfl) (N := ["i", "taken"]) (W := ["i"]) (G := []) (fv := [none, some 3]) (by decide +kernel) (fun cl C fp s H S2 => ⟨(kg S2 0), if_nil, (kdin (u1 hu) (kv S2 0) (kv S2 1) (by with_unfolding_all rfl))⟩)) zq2)))))) (zq5 (sret (kv S 4))) zz0)
      (zq5 (sfor hxe hc (itupK (kv S 6) (K := X.K) rfl) (kg S 7) (zq5 (sdput (u1 hu) kbl (kv S 3) (kv S 7))))))))
      (zq5 (sret knon)))), ?_⟩
  walk_at "rd"
  intro d hd
  have sd := Same.new hd (.dK [])
  refine forEV (InvGf X.K H c w g cs ws L) (sd.seqT hg) ⟨d, [], _, _, _, _, rfl, sd, hd, DKs.nil zq1, Nat.zero_le _, rfl⟩ (fun k σ H' h => by obtain ⟨d, gone, y1, y2, y3, y4, _, s, _⟩ := h; exact s.seqT hg) ?_ ?_
  · rintro k v σ H1 H2 hv ⟨d, gone, y1, y2, y3, y4, rfl, hS, hd0, hD, hgl, hgf⟩ s2
    have hS2 := hS.trans s2
    obtain ⟨gg, r, p, hgk, rfl, hr0, hp0⟩ := hL.get hv
    have hr' := hS2.seqT hr0
    have hp := hS2.seqT hp0
    have hkl : k < L.length := by have := List.getElem?_eq_some_iff.mp hgk; exact this.1
    have hdr : L.drop k = gg :: L.drop (k + 1) := by
      rw [List.drop_eq_getElem_cons hkl]
      congr 1
      have := List.getElem?_eq_some_iff.mp hgk
      exact this.2
    rw [hdr, gfF] at hgf
    have g90 := h90 gg (List.mem_of_getElem? hgk)
    walk_at "rd"
    refine to_ixT (i := 1) hr' rfl ?_
    refine to_ixT (i := 0) hr' rfl ?_
    refine ⟨c, w, p, cs, ws, gg, rfl, hS2.seqT hcq, hS2.seqT hw, hp, hwl, h8, by omega, fun H3 s3 => ?_⟩
    walk_at "rd"
    cases hG : isG cs ws gg with
    | false =>
      rw [hG, Bool.false_and, if_neg (by decide)] at hgf
      walk_at "rd"
      have := q _ (hS2.trans s3)
      rw [hgf] at this
      exact this
    | true =>
      rw [hG, Bool.true_and] at hgf
      walk_at "rd"
      have hS3 := hS2.trans s3
      refine lcB (fun i => decide (i ∈ gone)) (s3.seqT hp) (by omega) ?_ ?_
      · intro i H4 A hi hS4 hA
        walk_at "rd"
        exact to_din ((hD.same s2).same (s3.trans hS4)) (hA _ (Same.refl _))
      intro acc H4 hn4 s4 hacc
      refine ⟨acc, _, rfl, SqL.of hacc, ?_⟩
      rw [any_map]
      have hS4 := hS3.trans s4
      cases hA : gg.2.any (fun i => decide (i ∈ gone)) with
      | true =>
        rw [hA, Bool.not_true, if_neg (by decide)] at hgf
        walk_at "rd"
        have := q _ hS4
        rw [hgf] at this
        exact this
      | false =>
        rw [hA, Bool.not_false, if_pos rfl] at hgf
        walk_at "rd"
        refine forT (InvGg2 H c w g d p k (.ref r) gone gg.2) (hS4.seqT hp0) ⟨_, rfl, hS4, by rw [List.take_zero, List.append_nil]; exact (hD.same s2).same (s3.trans s4)⟩ (fun j σ H' h => by obtain ⟨y4, _, s, _⟩ := h; exact s.seqT hp0) ?_ ?_
        · rintro j σ H5 hj ⟨y4, rfl, s5, hD5⟩
          walk_at "rd"
          refine to_dput hD5 (zj7 (by rw [List.length_append, List.length_take]; omega)) fun o hD6 => ⟨_, rfl, s5.set hd0 _, ?_⟩
          rw [take_snoc 0 hj, <- List.append_assoc]
          exact hD6
        · rintro σ H5 ⟨y4, rfl, s5, hD5⟩
          rw [List.take_length] at hD5
          exact ⟨d, gone ++ gg.2, _, _, _, _, rfl, s5, hd0, hD5, by rw [List.length_append]; omega, hgf⟩
  · rintro σ H1 ⟨d, gone, y1, y2, y3, y4, rfl, hS, hd0, hD, hgl, hgf⟩
    rw [hL.length, List.drop_length, gfF] at hgf
    walk_at "rd"
    have := q _ hS
    rw [hgf] at this
    exact this
theorem ds_ring_guess : DS (zq3 s_ring_guess) ["many", "i", "seen"] ["many", "i", "seen"] [] := ds_of (by decide +kernel)
theorem ok_rg (D : Def K mg "ring_guess" s_ring_guess) : Fn P w K mg base 1 "ring_guess" ["many", "i", "seen"] spRG := by
  refine D.gq ds_ring_guess (fun _ _ _ _ _ _ us hl => match us, hl with | [_, _, _], _ => rfl) (fun vs H Q E h => ?_) ?_
  · obtain ⟨n, i, s, rfl, _⟩ := h; rfl
  intro X S e1 e2 e3 e4 e5 hc hsc hxe hr hu H vs Q E h
  subst e1 e2 e3 e4 e5
  obtain ⟨n, i, s, rfl, hn, q⟩ := h
  refine ⟨_, (zq4 (sif (tcmp op_eq (kv S 1) (kop op_sub (kv S 0) kint) (zq9 _)) (zq5 (sret (kv S 2))) zz0)
      (zq5 (sret (kop op_sub kint (kv S 2))))), ?_⟩
  walk_at "rd"
  unfold rg at q
  refine ite2 (fun c => ?_) (fun c => ?_)
  · rw [if_pos (by omega)] at q; exact q
  · rw [if_neg (by omega)] at q; exact q
theorem ds_product : DS (zq3 s_product) ["counts", "whole", "count"] ["counts"] [] := ds_of (by decide +kernel)
theorem ok_product (D : Def K mg "product" s_product) : Fn P w K mg base 1 "product" ["counts"] (spProd K) := by
  refine D.gq ds_product (fun _ _ _ _ _ _ us hl => match us, hl with | [_], _ => rfl) (fun vs H Q E h => ?_) ?_
  · obtain ⟨p, cs, rfl, _⟩ := h; rfl
  intro X S e1 e2 e3 e4 e5 hc hsc hxe hr hu H vs Q E h
  subst e1 e2 e3 e4 e5
  obtain ⟨p, cs, rfl, hp, hcs, q⟩ := h
  refine ⟨_, (zq4 (ssv S 1 kint)
      (zq4 (sfor hxe hc (itupK (kv S 0) (K := X.K) rfl) (kg S 2) (zq5 (ssv S 1 (kop op_mulG (kv S 1) (kv S 2)))))
      (zq5 (sret (kv S 1))))), ?_⟩
  walk_at "rd"
  refine forT (InvPr H p cs) hp ⟨rfl, none, rfl⟩ (fun i σ H' h => by rw [h.1]; exact hp) ?_ ?_
  · rintro i σ H' hi ⟨hH, y, rfl⟩
    rw [hH]
    walk_at "rd"
    refine ⟨(hcs.take i).prBt.ok (hcs.get hi).bt (by omega), rfl, some (.int (cs.getD i 0)), ?_⟩
    rw [take_snoc 0 hi, pr_snoc]
  · rintro σ H' ⟨hH, y, rfl⟩
    rw [hH, List.take_length]
    walk_at "rd"
    exact q
theorem ds_circle_guess : DS (zq3 s_circle_guess) ["counts", "hats", "i", "wheel", "arc", "start", "seen", "lacking"] ["counts", "hats", "i"] ["product", "sum", "range", "len"] := ds_of (by decide +kernel)
theorem ok_cg (B : Bn mg) (D : Def K mg "circle_guess" s_circle_guess) (F_product : Fn P w K mg base 1 "product" ["counts"] (spProd K)) : Fn P w K mg base 2 "circle_guess" ["counts", "hats", "i"] (spCG K) := by
  refine D.gq ds_circle_guess (fun _ _ _ _ _ _ us hl => match us, hl with | [_, _, _], _ => rfl) (fun vs H Q E h => ?_) ?_
  · obtain ⟨p, h, cs, hs, i, rfl, _⟩ := h; rfl
  intro X S e1 e2 e3 e4 e5 hc hsc hxe hr hu H vs Q E h
  subst e1 e2 e3 e4 e5
  obtain ⟨p, h, cs, hs, i, rfl, hp, hh, hcs, hhs, hi, q⟩ := h
  refine ⟨_, (zq4 (ssv S 3 (kff S 0 F_product hr (zq0 (kv S 0) zq2)))
      (zq4 (ssv S 4 (kop op_fdivG (kv S 3) (kix (zj5 (K := X.K) rfl) (kv S 0) (kv S 2) (fun _ _ => rfl))))
      (zq4 (ssv S 5 (kcb S 1 (call_sumK hc (K := X.K) rfl) B.sum boot_sum (zq0 (klc S hc hsc (itupK (ksl (sl_tupK (K := X.K) rfl) (kv S 0) ko_none (zz6 (kv S 2))) (K := X.K) rfl) (N := ["count", "wheel"]) (W := ["count"]) (G := []) (fv := [none, some 3]) (by decide +kernel) (fun cl C fp s H S2 => ⟨(kg S2 0), if_nil, (kop op_fdivG (kv S2 1) (kv S2 0))⟩)) zq2)))
      (zq4 (ssv S 6 (kcb S 1 (call_sumK hc (K := X.K) rfl) B.sum boot_sum (zq0 (klc S hc hsc (irg1 S 2 B.range (zq0 (kcb S 3 (zj3 (K := X.K) rfl) B.len boot_len (zq0 (kv S 0) zq2)) zq2)) (N := ["j", "i", "hats", "wheel", "counts"]) (W := ["j"]) (G := []) (fv := [none, some 2, some 1, some 3, some 0]) (by decide +kernel) (fun cl C fp s H S2 => ⟨(kg S2 0), (if_one (tcmp op_ne (kv S2 0) (kv S2 1) (zq9 _))), (kop op_mulG (kix (zj5 (K := X.K) rfl) (kv S2 2) (kv S2 0) (fun _ _ => rfl)) (kop op_fdivG (kv S2 3) (kix (zj5 (K := X.K) rfl) (kv S2 4) (kv S2 0) (fun _ _ => rfl))))⟩)) zq2)))
      (zq4 (ssv S 7 (kop op_mod (kop op_sub (kv S 5) (kv S 6)) (kv S 3)))
      (zq5 (sret (kop op_mod (kop op_fdivG (kop op_sub (kop op_add (kv S 7) (kv S 4)) kint) (kv S 4)) (kix (zj5 (K := X.K) rfl) (kv S 0) (kv S 2) (fun _ _ => rfl)))))))))), ?_⟩
  walk_at "rd"
  refine ⟨p, cs, rfl, hp, hcs, ?_⟩
  walk_at "rd"
  refine zj9 hp rfl hi ?_
  have hf := fdOk hcs hi
  walk_at "rd"
  refine ⟨hf, ?_⟩
  refine to_slTt i hp rfl hi fun s hs' => ?_
  have hs1 : Same H (upd H s (.tup ((cs.take i).map V.int))) := Same.new hs' _
  refine lcT (fun _ => true) (fun j => pr cs / (cs.take i).getD j 0) (SqT.of zq1) (zj7 (by have := (hcs.take i).len; omega)) ?_ ?_
  · intro j H' A B' hj hS hA _
    walk_at "rd"
    exact ⟨fdOk (hcs.take i) hj, hA rfl _ (Same.refl _)⟩
  intro acc H1 hn hS hacc
  rw [fil_all, L2.map_getD (cs.take i) (fun c => pr cs / c)] at hacc
  refine to_sum (SqL.of hacc) ?_
  rw [show ((cs.take i).map fun c => pr cs / c).sum = arcs (pr cs) (cs.take i) from rfl]
  have hS1 := hs1.trans hS
  walk_at "rd"
  refine zz7 (.inr (hS1.seqT hp)) ?_
  rw [List.length_map]
  refine lcR cs.length (fun j => decide (¬ j = i)) (fun j => hs.getD j 0 * (pr cs / cs.getD j 0)) rfl (by have := hcs.len; omega) ?_ ?_
  · intro j H' A B' hj hS' hA hB
    walk_at "rd"
    rw [nat_ne]
    by_cases hji : j = i
    · rw [decide_eq_false (not_not_intro hji)]
      walk_at "rd"
      exact hB (by rw [decide_eq_false (not_not_intro hji)]) _ (Same.refl _)
    · rw [decide_eq_true hji]
      walk_at "rd"
      have hS2 := hS1.trans hS'
      refine zj9 (hS2.seqT hh) rfl (by rw [hhs.len]; exact hj) ?_
      refine zj9 (hS2.seqT hp) rfl hj ?_
      walk_at "rd"
      exact ⟨fdOk hcs hj, (hhs.bt j hj).ok (arcBt hcs hj) (by decide), hA (decide_eq_true hji) _ (Same.refl _)⟩
  intro acc2 H2 hn2 hS2 hacc2
  refine to_sum (SqL.of hacc2) ?_
  walk_at "rd"
  have hS3 := hS1.trans hS2
  have ha := arc_le hcs.pos hi
  refine ⟨by have := hcs.prPos; omega, ⟨by omega, (arcBt hcs hi).log (by omega) (by decide)⟩, ?_⟩
  refine zj9 (hS3.seqT hp) rfl hi ?_
  walk_at "rd"
  exact ⟨hf.1, q H2 hS3⟩
theorem ds_picked : DS (zq3 s_picked) ["values", "people"] ["values", "people"] ["tuple"] := ds_of (by decide +kernel)
theorem ok_picked (B : Bn mg) (D : Def K mg "picked" s_picked) : Fn P w K mg base 1 "picked" ["values", "people"] (spPicked K) := by
  refine D.gq ds_picked (fun _ _ _ _ _ _ us hl => match us, hl with | [_, _], _ => rfl) (fun vs H Q E h => ?_) ?_
  · obtain ⟨c, p, cs, l, rfl, _⟩ := h; rfl
  intro X S e1 e2 e3 e4 e5 hc hsc hxe hr hu H vs Q E h
  subst e1 e2 e3 e4 e5
  obtain ⟨c, p, cs, l, rfl, hcq, hp, hlt, h8, q⟩ := h
  refine ⟨_, (zq5 (sret (kct S 0 (call_tupK (K := X.K) rfl) B.tuple boot_tuple (zq0 (klc S hc hsc (itupK (kv S 1) (K := X.K) rfl) (N := ["i", "values"]) (W := ["i"]) (G := []) (fv := [none, some 0]) (by decide +kernel) (fun cl C fp s H S2 => ⟨(kg S2 0), if_nil, (kix (zj5 (K := X.K) rfl) (kv S2 1) (kv S2 0) (fun _ _ => rfl))⟩)) zq2)))), ?_⟩
  walk_at "rd"
  refine lcT (fun _ => true) (fun k => cs.getD (l.getD k 0) 0) hp (by rw [zq6]; exact zj7 (by omega)) ?_ ?_
  · intro k H1 A B' hk hS hA _
    rw [zq6] at hk
    rw [zz2]
    walk_at "rd"
    exact zj9 (hS.seqT hcq) rfl (hlt _ (getD_memN hk)) (hA rfl _ (Same.refl _))
  · intro acc H1 hn1 hS1 hacc
    rw [fil_all, zq6] at hacc
    have e : ((List.range l.length).map fun k => cs.getD (l.getD k 0) 0) = pk cs l := by
      unfold pk
      apply List.ext_getElem
      · simp
      · intro i h1 h2
        simp at h1 h2
        simp [h1]
    rw [e] at hacc
    exact ⟨acc, _, rfl, .inl ⟨SqL.of hacc, fun t ht => q t _ (hS1.trans (Same.new ht _)) zq1⟩⟩
theorem ds_group_guess : DS (zq3 s_group_guess) ["counts", "groups", "hats", "i", "kind", "people", "place"] ["counts", "groups", "hats", "i"] ["circle_guess", "ring_guess", "picked", "len"] := ds_of (by decide +kernel)
theorem ok_gg (B : Bn mg) (D : Def K mg "group_guess" s_group_guess) (F_ring_guess : Fn P w K mg base 1 "ring_guess" ["many", "i", "seen"] spRG) (F_picked : Fn P w K mg base 1 "picked" ["values", "people"] (spPicked K)) (F_circle_guess : Fn P w K mg base 2 "circle_guess" ["counts", "hats", "i"] (spCG K)) : Fn P w K mg base 3 "group_guess" ["counts", "groups", "hats", "i"] (spGG K) := by
  refine D.gq ds_group_guess (fun _ _ _ _ _ _ us hl => match us, hl with | [_, _, _, _], _ => rfl) (fun vs H Q E h => ?_) ?_
  · obtain ⟨c, g, hb, cs, hs, ws, us, L, i, rfl, _⟩ := h; rfl
  intro X S e1 e2 e3 e4 e5 hc hsc hxe hr hu H vs Q E h
  subst e1 e2 e3 e4 e5
  obtain ⟨c, g, hb, cs, hs, ws, us, L, i, rfl, hcq, hg, hL, hh, hcs, hn, go, hi, q⟩ := h
  refine ⟨_, (zq4 (sfor hxe hc (itupK (kv S 1) (K := X.K) rfl) (gtup hc (K := X.K) (n := 2) rfl (zz3 (kg S 4) (zz3 (kg S 5) gs_nil))) (zq5 (sif (tcmp (op_inK (K := X.K) rfl) (kv S 3) (kv S 5) (by with_unfolding_all rfl)) (zq4 (ssv S 6 (kmT PySem.F.plainAttrs_tuple PySem.F.slot_tuple_index PySem.F.type_tuple_index (mt_tindexK (K := X.K) rfl) (K := X.K) rfl (kv S 5) (zq0 (kv S 3) zq2)))
      (zq4 (sif (tcmp op_eq (kv S 4) kstr (zq9 _)) (zq5 (sret (kff S 1 F_ring_guess hr (zq0 (kcb S 3 (zj3 (K := X.K) rfl) B.len boot_len (zq0 (kv S 5) zq2)) (zq0 (kv S 6) (zq0 (kix (zj5 (K := X.K) rfl) (kv S 2) (kix (zj5 (K := X.K) rfl) (kv S 5) (kop op_mod (kop op_add (kv S 6) kint) (kcb S 3 (zj3 (K := X.K) rfl) B.len boot_len (zq0 (kv S 5) zq2))) (fun _ _ => rfl)) (fun _ _ => rfl)) zq2)))))) zz0)
      (zq5 (sret (kff S 0 F_circle_guess hr (zq0 (kff S 2 F_picked hr (zq0 (kv S 0) (zq0 (kv S 5) zq2))) (zq0 (kff S 2 F_picked hr (zq0 (kv S 2) (zq0 (kv S 5) zq2))) (zq0 (kv S 6) zq2)))))))) zz0)))
      (zq5 (sret kint))), ?_⟩
  walk_at "rd"
  refine forPTF (InvGg X.K H c g hb L i) hg hL ⟨Same.refl _, fun t ht => absurd ht (Nat.not_lt_zero t), _, _, _, rfl⟩ (fun k σ H' h => ⟨h.1.seqT hg, hL.mono h.1⟩) ?_ ?_
  · rintro k gg p σ H1 hk hp hty ⟨hS, hno, y1, y2, y3, rfl⟩
    have g1 := go.each gg (List.mem_of_getElem? hk)
    have hlen : gg.2.length <= 8 := Nat.le_trans (nodup_le g1.nd g1.lt) hcs.len
    walk_at "rd"
    refine to_in (a := gg.2) (.inr hp) ?_
    by_cases hm : i ∈ gg.2
    · have ef := find_first hno hk hm
      have eq : ggu cs L hs i = gin cs hs gg i := by unfold ggu; rw [ef]
      rw [eq] at q
      obtain ⟨b, l⟩ := gg
      have hm : i ∈ l := hm
      have hlt := List.idxOf_lt_length_of_mem hm
      rw [decide_eq_true hm]
      walk_at "rd"
      refine ⟨⟨p, rfl, hty⟩, p, asI l, (i : Int), rfl, rfl, hp, mem_asI.mpr hm, ?_⟩
      rw [asI_idx]
      walk_at "rd"
      have e : decide (kd b = "ring") = b := kd_ring b
      simp only [q_eqS, q_rB, e]
      cases b with
      | true =>
        simp only [if_true]
        walk_at "rd"
        refine zz7 (.inr hp) ?_
        refine zz7 (.inr hp) ?_
        rw [List.length_map, zq6]
        walk_at "rd"
        refine ⟨by omega, ?_⟩
        have hmod : (l.idxOf i + 1) % l.length < l.length := Nat.mod_lt _ (by omega)
        have hnx : l.getD ((l.idxOf i + 1) % l.length) 0 < cs.length := g1.lt _ (getD_memN hmod)
        refine zj9 (k := (l.idxOf i + 1) % l.length) hp (by rw [Int.natCast_emod, Int.natCast_add]; rfl) (by rw [zq6]; exact hmod) ?_
        rw [zz2]
        refine zj9 (hS.seqT hh) rfl (by rw [hn.1]; exact hnx) ?_
        exact ⟨l.length, l.idxOf i, _, rfl, by omega, q H1 hS⟩
      | false =>
        simp only [Bool.false_eq_true, if_false]
        walk_at "rd"
        refine ⟨c, p, cs, l, rfl, hS.seqT hcq, hp, g1.lt, hlen, fun t1 H2 s2 ht1 => ?_⟩
        refine ⟨hb, p, hs, l, rfl, (hS.trans s2).seqT hh, s2.seqT hp, fun x hx => by rw [hn.1]; exact g1.lt x hx, hlen, fun t2 H3 s3 ht2 => ?_⟩
        refine ⟨t1, t2, pk cs l, pk hs l, l.idxOf i, rfl, SqT.of (s3 _ _ ht1), SqT.of ht2, pk_ok hcs (g := (false, l)) ⟨g1.lt, hlen⟩, hsOk_pk hcs hn g1.lt, by rw [pk_len]; exact hlt, fun H4 s4 => ?_⟩
        exact q H4 (hS.trans (s2.trans (s3.trans s4)))
    · rw [decide_eq_false hm]
      walk_at "rd"
      refine ⟨hS, fun t ht x hx => ?_, _, _, _, rfl⟩
      by_cases e : t = k
      · subst e
        rw [hk] at hx
        cases hx
        exact hm
      · exact hno t (by omega) x hx
  · rintro σ H1 ⟨hS, hno, y1, y2, y3, rfl⟩
    walk_at "rd"
    have := q H1 hS
    unfold ggu at this
    rw [find_noneG hno] at this
    exact this
end
local macro_rules | `(tactic| walk_at "rd") => `(tactic| try simp only [L2.start, List.map_cons, List.map_nil, List.length_cons, List.length_nil, List.replicate, List.cons_append, List.nil_append, List.append_nil, List.set_cons_zero, List.set_cons_succ, Nat.reduceAdd, Nat.reduceSub,
  q_var0, q_varS, q_C, q_Op, q_Un, q_rI0, q_rI, q_rU, q_tI, q_rT, q_eqI, q_neI, q_rB, q_test, q_tB, q_notT, q_andT, q_orT, q_andV, q_notV, q_chain, q_nil, q_cons, q_call, q_CB, q_tup, q_lst, q_BM, q_BMT, q_dnew, q_DIn, q_DPut, q_Sl, q_noPart, q_part, q_rP, q_LC, q_True,
  q_next, q_seq, q_drop, q_ret, q_ifS, q_asg, q_par, q_name, q_sub, q_iList, q_iTup, q_iRng1, q_errN, q_raise, q_fl, q_sfl, q_meth, q_make, q_repT, q_tryH, q_methX, q_makeX, q_rvf, q_asgX, q_ifX, q_seqX, q_ofX, q_iEnT, q_iZpT, q_iZpS, q_isNn, q_isNi, q_ntNn, q_ntNi, q_eqS, q_p2, q_sh, bAnd, bOr, bXor, bitAnd_m1, q_b1, q_for, q_ints, q_dT, q_ifT, q_ifF, Bool.false_eq_true, q_upS, q_upN, q_upV, q_g0, q_gS, Bool.not_true, Bool.not_false, decide_eq_true_eq])
local macro_rules | `(tactic| walk_at "rs") => `(tactic| try simp only [L2.start, List.map_cons, List.map_nil, List.length_cons, List.length_nil, List.replicate, List.cons_append, List.nil_append, List.append_nil, List.set_cons_zero, List.set_cons_succ, Nat.reduceAdd, Nat.reduceSub,
  q_var0, q_varS, q_C, q_Op, q_Un, q_rI0, q_rI, q_rU, q_tI, q_rT, q_eqI, q_neI, q_rB, q_test, q_tB, q_notT, q_andT, q_orT, q_andV, q_notV, q_chain, q_nil, q_cons, q_call, q_CB, q_tup, q_lst, q_BM, q_BMT, q_dnew, q_DIn, q_DPut, q_Sl, q_noPart, q_part, q_rP, q_LC, q_True,
  q_next, q_drop, q_ret, q_ifS, q_asg, q_par, q_name, q_sub, q_iList, q_iTup, q_iRng1, q_errN, q_raise, q_fl, q_sfl, q_meth, q_make, q_repT, q_tryH, q_methX, q_makeX, q_rvf, q_asgX, q_ifX, q_seqX, q_ofX, q_iEnT, q_iZpT, q_iZpS, q_isNn, q_isNi, q_ntNn, q_ntNi, q_eqS, q_p2, q_sh, bAnd, bOr, bXor, bitAnd_m1, q_b1, q_for, q_ints, q_dT, q_ifT, q_ifF, Bool.false_eq_true, q_upS, q_upN, q_upV, q_g0, q_gS, Bool.not_true, Bool.not_false, decide_eq_true_eq])
section
variable {P : Program} {w : World} {K : Frag} {mg : Str -> Option Value} {base : Heap} {er : Str -> Addr} {cHall : Addr}
theorem ds_are_hats : DS (zq3 s_are_hats) ["counts", "hats"] ["counts", "hats"] ["all", "len", "zip"] := ds_of (by decide +kernel)
theorem ok_areHats (B : Bn mg) (D : Def K mg "are_hats" s_are_hats) : Fn P w K mg base 1 "are_hats" ["counts", "hats"] (spAre K) := by
  refine D.gq ds_are_hats (fun _ _ _ _ _ _ us hl => match us, hl with | [_, _], _ => rfl) (fun vs H Q E h => ?_) ?_
  · obtain ⟨c, hb, cs, hs, rfl, _⟩ := h; rfl
  intro X S e1 e2 e3 e4 e5 hc hsc hxe hr hu H vs Q E h
  subst e1 e2 e3 e4 e5
  obtain ⟨c, hb, cs, hs, rfl, hcq, hh, h8, q⟩ := h
  refine ⟨_, (zq5 (sret (kand (kcmp op_eq (kcb S 1 (zj3 (K := X.K) rfl) B.len boot_len (zq0 (kv S 1) zq2)) (kcb S 1 (zj3 (K := X.K) rfl) B.len boot_len (zq0 (kv S 0) zq2)) (zq9 _)) (kone (kcb S 0 (call_allK hc (K := X.K) rfl) B.all boot_all (zq0 (klc S hc hsc (izpT S 2 B.zip (K := X.K) rfl (zq0 (kv S 1) (zq0 (kv S 0) zq2))) (N := ["colour", "count"]) (W := ["colour", "count"]) (G := []) (fv := [none, none]) (by decide +kernel) (fun cl C fp s H S2 => ⟨(gtup rfl (K := X.K) (n := 2) rfl (zz3 (kg S2 0) (zz3 (kg S2 1) gs_nil))), if_nil, (kchain op_le op_lt kint (kv S2 0) (kv S2 1))⟩)) zq2)))))), ?_⟩
  walk_at "rd"
  refine zz7 (.inr hh) ?_
  refine zz7 (.inr hcq) ?_
  rw [List.length_map, List.length_map]
  simp only [q_eqI, q_rB]
  by_cases hl : hs.length = cs.length
  · rw [hl, decide_eq_true rfl]
    walk_at "rd"
    refine lcZ (fun k => .bl (decide (0 <= hs.getD k 0) && decide (hs.getD k 0 < cs.getD k 0))) hh hcq hl (zj7 (by omega)) ?_ ?_
    · intro k H1 A hk s1 hA
      walk_at "rd"
      have := hA H1 (Same.refl _)
      by_cases h0 : 0 <= hs.getD k 0
      · rw [decide_eq_true h0, Bool.true_and] at this
        rw [if_pos h0]
        exact this
      · rw [decide_eq_false h0, Bool.false_and] at this
        rw [if_neg h0]
        exact this
    · intro acc H1 hn s1 hacc
      refine ⟨acc, (List.range hs.length).map fun k => decide (0 <= hs.getD k 0) && decide (hs.getD k 0 < cs.getD k 0), rfl, SqL.of (by rw [hacc, List.map_map]; rfl), ?_⟩
      have := q H1 s1
      unfold hatsB at this
      rw [decide_eq_true hl, Bool.true_and] at this
      rw [List.all_map, hl]
      exact this
  · rw [decide_eq_false (by omega)]
    walk_at "rd"
    have := q H (Same.refl _)
    unfold hatsB at this
    rw [decide_eq_false hl, Bool.false_and] at this
    exact this
theorem ds_Hall___init__ : DS (zq3 s_Hall___init__) ["self", "counts", "web", "groups"] ["self", "counts", "web", "groups"] ["group_fault", "NoGroups", "len"] := ds_of (by decide +kernel)
theorem ok_hInit (B : Bn mg) (ER : ErrT K mg ERN er) (T_Hall : ClsT K mg "Hall" cHall ["counts", "groups", "worn"]) (D : MDef K cHall "__init__" "Hall.__init__" s_Hall___init__) (F_group_fault : Fn P w K mg base 4 "group_fault" ["counts", "web", "groups"] (spGFault K)) : FnM P w K mg base 5 cHall "__init__" ["self", "counts", "web", "groups"] (spHInit K cHall er) := by
  refine D.ge ds_Hall___init__ (fun _ _ _ _ _ _ us hl => match us, hl with | [_, _, _, _], _ => rfl) (fun vs H Q E h => ?_) ?_
  · obtain ⟨x, dx, c, w, g, cs, ws, us, L, rfl, _⟩ := h; rfl
  intro X E S e1 e2 e3 e4 e5 hc hsc hown hx hp hr hu H vs Q h
  subst e1 e2 e3 e4 e5
  obtain ⟨x, dx, c, w, g, cs, ws, us, L, rfl, hxx, hcq, hw, hg, hL, hwl, h8, hL8, hLn, qE, q⟩ := h
  refine ⟨_, (zq4 (sif (tcmp op_notNK (kff S 0 F_group_fault hr (zq0 (kv S 1) (zq0 (kv S 2) (zq0 (kv S 3) zq2)))) knon (zq9 _)) (zq5 (sraise S 1 hc hx (ER.gl _ (by decide)) (ER.own _ (by decide) (by decide)) (zq0 kstr zq2))) zz0)
      (zq4 (sfl T_Hall (kv S 0) (kv S 1))
      (zq4 (sfl T_Hall (kv S 0) (kv S 3))
      (zq5 (sfl T_Hall (kv S 0) (kop (op_repTK (K := X.K) rfl) (ktp (zq0 kint zq2)) (kcb S 2 (zj3 (K := X.K) rfl) B.len boot_len (zq0 (kv S 1) zq2)))))))), ?_⟩
  walk_at "rd"
  refine ⟨c, w, g, cs, ws, us, L, rfl, hcq, hw, hg, hL, hwl, h8, hL8, hLn, fun H1 s1 => ?_⟩
  cases hf : gfF cs ws [] 0 L with
  | some k =>
    show rNotN (.int (k : Int)) .non H1 _
    walk_at "rd"
    exact ⟨by decide, qE (by rw [hf]; exact fun z => nomatch z) H1 s1⟩
  | none =>
    show rNotN .non .non H1 _
    walk_at "rd"
    have hx1 := s1 _ _ hxx
    have hc1 := s1.seqT hcq
    refine ⟨x, dx, [], rfl, hx1, by decide, x, dx, hf1 c, rfl, zq1, by show 1 < _; decide, by decide, fun p hp => ?_⟩
    rw [pf_counts, pf_groups, upd_upd] at hp ⊢
    have hx2 : upd H1 x (.ins cHall dx (hf2 c g)) x = some (.ins cHall dx (hf2 c g)) := zq1
    have o2 : Off x H1 (upd H1 x (.ins cHall dx (hf2 c g))) := Off.upd
    have hc2 := hc1.offI o2 hx1
    generalize upd H1 x (.ins cHall dx (hf2 c g)) = H2 at hp hx2 o2 hc2 ⊢
    have s3 := Same.new hp (.tup [.int 0])
    refine zz7 (.inr (s3.seqT hc2)) ?_
    rw [List.length_map]
    refine ⟨p, cs.length, _, rfl, rfl, SqT.of zq1, by omega, fun n H4 s4 hn => ?_⟩
    have hx4 := s4 _ _ (s3 _ _ hx2)
    refine ⟨x, dx, _, rfl, hx4, by show 2 < _; decide, ?_⟩
    rw [pf_worn]
    have o5 : Off x H4 (upd H4 x (.ins cHall dx (hfs c g n))) := Off.upd
    have o15 : Off x H1 (upd H4 x (.ins cHall dx (hfs c g n))) := o2.trans ((s3.trans s4).offTo.trans o5)
    refine q hf _ (s1.offTo.trans o15) ⟨⟨dx, n, zq1, ?_⟩, hc1.offI o15 hx1, (s1.seqT hg).offI o15 hx1⟩
    rw [List.map_replicate]
    exact hn.offI o5 hx4
theorem ds_Hall_put_all : DS (zq3 s_Hall_put_all) ["self", "hats"] ["self", "hats"] ["are_hats", "NoHats"] := ds_of (by decide +kernel)
theorem ok_hPutAll (B : Bn mg) (ER : ErrT K mg ERN er) (T_Hall : ClsT K mg "Hall" cHall ["counts", "groups", "worn"]) (D : MDef K cHall "put_all" "Hall.put_all" s_Hall_put_all) (F_are_hats : Fn P w K mg base 1 "are_hats" ["counts", "hats"] (spAre K)) : FnM P w K mg base 2 cHall "put_all" ["self", "hats"] (spPutAll K cHall er) := by
  refine D.ge ds_Hall_put_all (fun _ _ _ _ _ _ us hl => match us, hl with | [_, _], _ => rfl) (fun vs H Q E h => ?_) ?_
  · obtain ⟨a, hb, c, g, cs, hs0, hs, us, rfl, _⟩ := h; rfl
  intro X E S e1 e2 e3 e4 e5 hc hsc hown hx hp hr hu H vs Q h
  subst e1 e2 e3 e4 e5
  obtain ⟨a, hb, c, g, cs, hs0, hs, us, rfl, hA, hh, h90, qE, q⟩ := h
  obtain ⟨dx, n, ha, hn⟩ := hA.ex
  refine ⟨_, (zq4 (sif (tnot (tval (kff S 0 F_are_hats hr (zq0 (kfl T_Hall (kv S 0)) (zq0 (kv S 1) zq2))))) (zq5 (sraise S 1 hc hx (ER.gl _ (by decide)) (ER.own _ (by decide) (by decide)) (zq0 kstr zq2))) zz0)
      (zq5 (sfl T_Hall (kv S 0) (kv S 1)))), ?_⟩
  walk_at "rd"
  refine ⟨a, dx, _, _, rfl, ha, hf_counts, c, hb, cs, hs, rfl, hA.cts, hh, h90, fun H1 s1 => ?_⟩
  walk_at "rd"
  cases hB : hatsB cs hs with
  | false =>
    walk_at "rd"
    exact ⟨by decide, qE hB H1 s1⟩
  | true =>
    walk_at "rd"
    have ha1 := s1 _ _ ha
    refine ⟨a, dx, _, rfl, ha1, by show 3 < _; decide, ?_⟩
    rw [pf_worn2]
    have o : Off a H1 (upd H1 a (.ins cHall dx (hfs c g hb))) := Off.upd
    exact q hB _ (s1.offTo.trans o) (hA.off (s1.offTo.trans o) ⟨dx, zq1⟩ ((s1.seqT hh).offI o ha1))
theorem ds_Hall_put : DS (zq3 s_Hall_put) ["self", "i", "colour"] ["self", "i", "colour"] ["NoName", "len"] := ds_of (by decide +kernel)
theorem ok_hPut (B : Bn mg) (ER : ErrT K mg ERN er) (T_Hall : ClsT K mg "Hall" cHall ["counts", "groups", "worn"]) (D : MDef K cHall "put" "Hall.put" s_Hall_put) (F_Hall_put_all : FnM P w K mg base 2 cHall "put_all" ["self", "hats"] (spPutAll K cHall er)) : FnM P w K mg base 3 cHall "put" ["self", "i", "colour"] (spHPut K cHall er) := by
  refine D.ge ds_Hall_put (fun _ _ _ _ _ _ us hl => match us, hl with | [_, _, _], _ => rfl) (fun vs H Q E h => ?_) ?_
  · obtain ⟨a, c, g, cs, hs0, us, i, col, rfl, _⟩ := h; rfl
  intro X E S e1 e2 e3 e4 e5 hc hsc hown hx hp hr hu H vs Q h
  subst e1 e2 e3 e4 e5
  obtain ⟨a, c, g, cs, hs0, us, i, col, rfl, hA, hl0, h90, qN, qE, q⟩ := h
  obtain ⟨dx, n, ha, hn⟩ := hA.ex
  refine ⟨_, (zq4 (sif (tnot (tchain op_le op_lt kint (kv S 1) (kcb S 1 (zj3 (K := X.K) rfl) B.len boot_len (zq0 (kfl T_Hall (kv S 0)) zq2)))) (zq5 (sraise S 0 hc hx (ER.gl _ (by decide)) (ER.own _ (by decide) (by decide)) (zq0 kstr zq2))) zz0)
      (zq5 (sexpr (kmt T_Hall F_Hall_put_all hp hr (kv S 0) (zq0 (kop (op_catTK (K := X.K) rfl) (kop (op_catTK (K := X.K) rfl) (ksl (sl_tupK (K := X.K) rfl) (kfl T_Hall (kv S 0)) ko_none (zz6 (kv S 1))) (ktp (zq0 (kv S 2) zq2))) (ksl (sl_tupK (K := X.K) rfl) (kfl T_Hall (kv S 0)) (zz6 (kop op_add (kv S 1) kint)) ko_none)) zq2))))), ?_⟩
  walk_at "rd"
  refine ite2 (fun h0 => ?_) (fun h0 => ⟨by decide, qN (fun z => h0 z.1) H (Same.refl _)⟩)
  refine ⟨a, dx, _, _, rfl, ha, hf_counts, ?_⟩
  refine zz7 (.inr hA.cts) ?_
  rw [List.length_map]
  walk_at "rd"
  by_cases h1 : i < (cs.length : Int)
  · rw [decide_eq_true h1]
    walk_at "rd"
    obtain ⟨k, rfl⟩ : ∃ k : Nat, i = (k : Int) := ⟨i.toNat, by omega⟩
    have hk : k < hs0.length := by omega
    rw [Int.toNat_natCast] at qE q
    refine ⟨a, dx, _, rfl, ha, hf_no, a, dx, _, _, rfl, ha, hf_worn, ?_⟩
    refine to_slTt k hn rfl (by omega) fun t1 ht1 => ?_
    have s1 := Same.new ht1 (.tup ((hs0.take k).map V.int))
    walk_at "rd"
    refine ⟨by decide, fun t2 ht2 => ?_⟩
    have s2 := Same.new ht2 (.tup [.int col])
    refine to_catT (ns := hs0.take k) (ms := [col]) (SqT.of (s2 _ _ zq1)) (SqT.of zq1) (small8 (by rw [List.length_take]; show _ + 1 <= 100; omega)) fun t3 H3 s3 h3 => ?_
    have s13 := s1.trans (s2.trans s3)
    have ha3 := s13 _ _ ha
    refine ⟨a, dx, _, _, rfl, ha3, hf_worn, ?_⟩
    refine to_slTd k (s13.seqT hn) (by omega) (by omega) fun t4 ht4 => ?_
    have s4 := Same.new ht4 (.tup ((hs0.drop (k + 1)).map V.int))
    refine to_catT (ns := hs0.take k ++ [col]) (ms := hs0.drop (k + 1)) (s4.seqT h3) (SqT.of zq1) (small8 (by rw [List.length_append, List.length_take, List.length_drop]; show _ + 1 + _ <= 100; omega)) fun t5 H5 s5 h5 => ?_
    have s15 := s13.trans (s4.trans s5)
    have es : hs0.take k ++ [col] ++ hs0.drop (k + 1) = hs0.set k col := by
      rw [List.set_eq_take_append_cons_drop, if_pos hk, List.append_assoc]; rfl
    rw [es] at h5
    exact ⟨a, t5, c, g, cs, hs0, hs0.set k col, us, rfl, hA.mono s15, h5, h90, fun z H6 s6 => qE ⟨h0, h1⟩ z H6 (s15.trans s6), fun z H6 o6 hA6 => q ⟨h0, h1⟩ z H6 (s15.offTo.trans o6) hA6⟩
  · rw [decide_eq_false h1]
    walk_at "rd"
    exact ⟨by decide, qN (fun z => h1 z.2) H (Same.refl _)⟩
theorem ds_Hall_guess : DS (zq3 s_Hall_guess) ["self", "i"] ["self", "i"] ["group_guess"] := ds_of (by decide +kernel)
theorem ok_hGuess (B : Bn mg) (T_Hall : ClsT K mg "Hall" cHall ["counts", "groups", "worn"]) (D : MDef K cHall "guess" "Hall.guess" s_Hall_guess) (F_group_guess : Fn P w K mg base 3 "group_guess" ["counts", "groups", "hats", "i"] (spGG K)) : FnM P w K mg base 4 cHall "guess" ["self", "i"] (spHGuess K cHall) := by
  refine D.gq ds_Hall_guess (fun _ _ _ _ _ _ us hl => match us, hl with | [_, _], _ => rfl) (fun vs H Q E h => ?_) ?_
  · obtain ⟨a, c, g, cs, hs, ws, us, L, i, rfl, _⟩ := h; rfl
  intro X S e1 e2 e3 e4 e5 hc hsc hxe hr hu H vs Q E h
  subst e1 e2 e3 e4 e5
  obtain ⟨a, c, g, cs, hs, ws, us, L, i, rfl, hA, hL, hcs, hN, hG, hi, q⟩ := h
  obtain ⟨dx, n, ha, hn⟩ := hA.ex
  refine ⟨_, (zq5 (sret (kff S 0 F_group_guess hr (zq0 (kfl T_Hall (kv S 0)) (zq0 (kfl T_Hall (kv S 0)) (zq0 (kfl T_Hall (kv S 0)) (zq0 (kv S 1) zq2))))))), ?_⟩
  walk_at "rd"
  exact ⟨a, dx, _, _, rfl, ha, hf_counts, a, dx, _, _, rfl, ha, hf_groups, a, dx, _, _, rfl, ha, hf_worn, c, g, n, cs, hs, ws, us, L, i, rfl, hA.cts, hA.grp, hL, hn, hcs, hN, hG, hi, q⟩
theorem ds_law_cell_at : DS (zq3 s_law_cell_at) ["script", "k"] ["script", "k"] ["len"] := ds_of (by decide +kernel)
theorem ok_at (B : Bn mg) (D : Def K mg "_law_cell_at" s_law_cell_at) : Fn P w K mg base 1 "_law_cell_at" ["script", "k"] (spAt K) := by
  refine D.gq ds_law_cell_at (fun _ _ _ _ _ _ us hl => match us, hl with | [_, _], _ => rfl) (fun vs H Q E h => ?_) ?_
  · obtain ⟨a, ns, k, rfl, _⟩ := h; rfl
  intro X S e1 e2 e3 e4 e5 hc hsc hxe hr hu H vs Q E h
  subst e1 e2 e3 e4 e5
  obtain ⟨a, ns, k, rfl, ha, q⟩ := h
  refine ⟨_, (zq4 (sif (tcmp op_lt (kv S 1) (kcb S 0 (zj3 (K := X.K) rfl) B.len boot_len (zq0 (kv S 0) zq2)) (zq9 _)) (zq5 (sret (kix (zq7 (K := X.K) rfl) (kv S 0) (kv S 1) (fun _ _ => rfl)))) zz0)
      (zq5 (sret kint))), ?_⟩
  walk_at "rd"
  refine zz7 (.inl ha) ?_
  rw [List.length_map]
  walk_at "rd"
  refine ite2 (fun c => ?_) (fun c => ?_)
  · exact to_ixLk ha rfl (by omega) (q _)
  · exact q 0
theorem ds_law_draw : DS (zq3 s_law_draw) ["cell", "k", "number"] ["cell", "k"] [] := ds_of (by decide +kernel)
theorem ok_draw (D : Def K mg "_law_draw" s_law_draw) : Fn P w K mg base 1 "_law_draw" ["cell", "k"] spDraw := by
  refine D.gq ds_law_draw (fun _ _ _ _ _ _ us hl => match us, hl with | [_, _], _ => rfl) (fun vs H Q E h => ?_) ?_
  · obtain ⟨a, b, rfl, _⟩ := h; rfl
  intro X S e1 e2 e3 e4 e5 hc hsc hxe hr hu H vs Q E h
  subst e1 e2 e3 e4 e5
  obtain ⟨a, b, rfl, hb0, hb1, q⟩ := h
  refine ⟨_, (zq4 (ssv S 2 (kmodc (kop op_add (kop op_add (kop op_add (kmodc (kv S 0)) (kcmul (kv S 1))) (kop op_mulG (kcmul (kv S 1)) (kv S 1))) kint)))
      (zq4 (ssv S 2 (kmodc (kop op_mulG (kv S 2) (kv S 2))))
      (zq5 (sret (kdivc (kmodc (kop op_mulG (kv S 2) (kop op_add kint (kcmul (kv S 1)))))))))), ?_⟩
  walk_at "rd"
  refine ⟨ok_right (by omega) (by omega), ?_⟩
  have h0 := Int.emod_nonneg (a % 1999998281 + 73000021 * b + 409 * b * b + 157) (show (1999998281 : Int) ≠ 0 by decide)
  have h1 := Int.emod_lt_of_pos (a % 1999998281 + 73000021 * b + 409 * b * b + 157) (show (0 : Int) < 1999998281 by decide)
  generalize (a % 1999998281 + 73000021 * b + 409 * b * b + 157) % 1999998281 = m at h0 h1 ⊢
  refine ⟨ok_left (by omega) (by omega), ?_⟩
  have h2 := Int.emod_nonneg (m * m) (show (1999998253 : Int) ≠ 0 by decide)
  have h3 := Int.emod_lt_of_pos (m * m) (show (0 : Int) < 1999998253 by decide)
  generalize m * m % 1999998253 = n at h2 h3 ⊢
  refine ⟨ok_left (by omega) (by omega), ?_⟩
  generalize n * (55001 + 60 * b) = z
  refine (show ∀ r : Int, 0 <= r -> r < 2147483648 -> Q (.int r) H from fun r h0 h1 => ?_) _ (by omega) (by omega)
  obtain ⟨n, rfl⟩ := Int.eq_ofNat_of_zero_le h0
  exact q n (by omega)
theorem ds_law_counts : DS (zq3 s_law_counts) ["cell", "many", "counts", "k", "number", "some"] ["cell", "many"] ["range", "_law_draw", "len", "tuple"] := ds_of (by decide +kernel)
theorem ok_counts70 (B : Bn mg) (D : Def K mg "_law_counts" s_law_counts) (F_law_draw : Fn P w K mg base 1 "_law_draw" ["cell", "k"] spDraw) : Fn P w K mg base 2 "_law_counts" ["cell", "many"] (spCounts70 K) := by
  refine D.gq ds_law_counts (fun _ _ _ _ _ _ us hl => match us, hl with | [_, _], _ => rfl) (fun vs H Q E h => ?_) ?_
  · obtain ⟨cell, many, rfl, _⟩ := h; rfl
  intro X S e1 e2 e3 e4 e5 hc hsc hxe hr hu H vs Q E h
  subst e1 e2 e3 e4 e5
  obtain ⟨cell, many, rfl, h8, q⟩ := h
  refine ⟨_, (zq4 (ssv S 2 (kls zq2))
      (zq4 (sfor hxe hc (irg1 S 0 B.range (zq0 (kv S 1) zq2)) (kg S 3) (zq4 (ssv S 4 (kop op_add (kop op_mulG (kop op_add (kop op_mulG (kff S 1 F_law_draw hr (zq0 (kv S 0) (zq0 (kop op_add kint (kv S 3)) zq2))) (kpowc (v := 1000000000000000000) cp10_18 pw10_18)) (kff S 1 F_law_draw hr (zq0 (kv S 0) (zq0 (kop op_add kint (kv S 3)) zq2)))) (kpowc (v := 1000000) cp10_6 pw10_6)) (kff S 1 F_law_draw hr (zq0 (kv S 0) (zq0 (kop op_add kint (kv S 3)) zq2)))))
      (zq4 (ssv S 5 (kls (zq0 kint (zq0 kint (zq0 kint (zq0 (kop op_add kint (kmodc (kv S 4))) (zq0 (kop op_add kint (kmodc (kv S 4))) (zq0 (kop op_add (kpowc (v := 100000000000000000000000000000) cp10_29 pw10_29) (kop op_mod (kv S 4) (kpowc (v := 100000000000000000000000000000) cp10_29 pw10_29))) (zq0 (kop op_add kint (kop op_mod (kv S 4) (kop op_sub (kpowc (v := 1000000000000000000000000000000) cp10_30 pw10_30) kint))) zq2)))))))))
      (zq4 (sif (tcmp op_gt (kv S 3) kint (zq9 _)) (zq5 (sasg (kix (zq7 (K := X.K) rfl) (kv S 2) (kop op_mod (kff S 1 F_law_draw hr (zq0 (kv S 0) (zq0 (kop op_add kint (kv S 3)) zq2))) (kv S 3)) (fun _ _ => rfl)) (gsub (kv S 5) kint set_list))) zz0)
      (zq4 (sif (tcmp op_eq (kmodc (kff S 1 F_law_draw hr (zq0 (kv S 0) (zq0 kint zq2)))) kint (zq9 _)) (zq5 (ssv S 5 (kls (zq0 kint zq2)))) zz0)
      (zq4 (sif (tcmp op_eq (kmodc (kff S 1 F_law_draw hr (zq0 (kv S 0) (zq0 kint zq2)))) kint (zq9 _)) (zq5 (ssv S 5 (kls (zq0 (kv S 1) zq2)))) zz0)
      (zq5 (sexpr (kmb PySem.F.plainAttrs_list PySem.F.slot_list_append PySem.F.type_list_append mt_append (K := X.K) rfl (kv S 2) (zq0 (kix (zq7 (K := X.K) rfl) (kv S 5) (kop op_mod (kff S 1 F_law_draw hr (zq0 (kv S 0) (zq0 (kop op_add kint (kv S 3)) zq2))) (kcb S 2 (zj3 (K := X.K) rfl) B.len boot_len (zq0 (kv S 5) zq2))) (fun _ _ => rfl)) zq2))))))))))
      (zq5 (sret (kct S 3 (call_tupK (K := X.K) rfl) B.tuple boot_tuple (zq0 (kv S 2) zq2)))))), ?_⟩
  walk_at "rd"
  refine ⟨by decide, fun l hl => ?_⟩
  refine forR many (InvC70 H cell many l) rfl (by omega) ⟨[], _, _, _, rfl, Same.new hl _, zq1, rfl, fun _ h => nomatch h⟩ ?_ ?_
  · rintro k σ H1 hk ⟨cs, y1, y2, y3, rfl, hS, hl1, hlen, hcs⟩
    walk_at "rs"
    rw [q_seq]
    walk_at "rs"
    refine zj6 ⟨by omega, by omega⟩ fun b1 _ => ?_
    walk_at "rs"
    refine ⟨ok_right (by decide) (by decide), ?_⟩
    refine zj6 ⟨by omega, by omega⟩ fun b2 _ => ?_
    walk_at "rs"
    refine ⟨ok_right (by decide) (by decide), ?_⟩
    refine zj6 ⟨by omega, by omega⟩ fun b3 _ => ?_
    walk_at "rs"
    obtain ⟨num, hnum⟩ : ∃ num : Int, (((b1 : Nat) : Int) * 1000000000000000000 + ((b2 : Nat) : Int)) * 1000000 + ((b3 : Nat) : Int) = num := ⟨_, rfl⟩
    rw [hnum]
    clear hnum
    rw [q_seq]
    simp only [q_asg, q_lst, q_cons, q_C, q_Op]
    simp only [q_var0, q_varS, q_tI]
    walk_at "rs"
    refine ⟨by decide, by decide, by decide, fun sm hsm => ?_⟩
    have hv4 : ∃ v : Int, 1 + num % 5 = v /\ Cn v := ⟨_, rfl, by constructor <;> omega⟩
    obtain ⟨v4, e4, c4⟩ := hv4
    have hv5 : ∃ v : Int, 6 + num % 995 = v /\ Cn v := ⟨_, rfl, by constructor <;> omega⟩
    obtain ⟨v5, e5', c5⟩ := hv5
    have hv6 : ∃ v : Int, 100000000000000000000000000000 + num % 100000000000000000000000000000 = v /\ Cn v := ⟨_, rfl, by constructor <;> omega⟩
    obtain ⟨v6, e6, c6⟩ := hv6
    have hv7 : ∃ v : Int, 1 + num % (1000000000000000000000000000000 - 1) = v /\ Cn v := ⟨_, rfl, by
      have := Int.emod_nonneg num (show (1000000000000000000000000000000 - 1 : Int) ≠ 0 by decide)
      have := Int.emod_lt_of_pos num (show (0 : Int) < 1000000000000000000000000000000 - 1 by decide)
      constructor <;> omega⟩
    obtain ⟨v7, e7, c7⟩ := hv7
    rw [e4, e5', e6, e7]
    have ss := Same.new hsm (.lst [.int 2, .int 2, .int 3, .int v4, .int v5, .int v6, .int v7])
    have hms : upd H1 sm (.lst [.int 2, .int 2, .int 3, .int v4, .int v5, .int v6, .int v7]) sm = some (.lst (([2, 2, 3, v4, v5, v6, v7] : List Int).map V.int)) := zq1
    have hl2 := ss _ _ hl1
    have hS2 := hS.trans ss
    have hlsm : l ≠ sm := zj0 hl1 hsm
    have hsm0 : H sm = none := hS.free hsm
    have hcn : ∀ c ∈ ([2, 2, 3, v4, v5, v6, v7] : List Int), Cn c := by
      intro c hc
      simp only [List.mem_cons, List.not_mem_nil, or_false] at hc
      rcases hc with rfl | rfl | rfl | rfl | rfl | rfl | rfl
      · exact ⟨by decide, by decide⟩
      · exact ⟨by decide, by decide⟩
      · exact ⟨by decide, by decide⟩
      · exact c4
      · exact c5
      · exact c6
      · exact c7
    have hml : ([2, 2, 3, v4, v5, v6, v7] : List Int).length = 7 := rfl
    generalize ([2, 2, 3, v4, v5, v6, v7] : List Int) = ms at hms hcn hml
    generalize upd H1 sm _ = H2 at hms hl2 hS2 ⊢
    clear e4 e5' e6 e7 c4 c5 c6 c7
    refine seqJ (MidC70 H cell many l cs k 1) (fun σ J h => ?_) (fun R hR => ?_)
    · obtain ⟨sm, ms, num, rfl, s3, hl3, hm3, hne, hm0, h1, _, h7, hcn⟩ := h
      refine seqJ (MidC70 H cell many l cs k 1) (fun σ J h => ?_) (fun R hR => ?_)
      · obtain ⟨sm, ms, num, rfl, s3, hl3, hm3, hne, hm0, h1, _, h7, hcn⟩ := h
        refine seqJ (MidC70 H cell many l cs k 1) (fun σ J h => ?_) (fun R hR => ?_)
        · obtain ⟨sm, ms, num, rfl, s3, hl3, hm3, hne, hm0, h1, _, h7, hcn⟩ := h
          walk_at "rd"
          refine ⟨.inl ⟨rfl, _, SqL.of hl3⟩, ?_⟩
          refine zj6 ⟨by omega, by omega⟩ fun d _ => ?_
          refine zz7 (.inl (SqL.of hm3)) ?_
          rw [List.length_map]
          walk_at "rd"
          refine ⟨by omega, ?_⟩
          refine to_ixL (SqL.of hm3) (Int.emod_nonneg _ (by omega)) (Int.emod_lt_of_pos _ (by omega)) fun n hn => ?_
          refine ⟨l, _, _, rfl, rfl, hl3, by rw [List.length_map, hlen]; exact zj7 (by omega), ?_⟩
          refine ⟨cs ++ [n], _, _, _, rfl, s3.set hl _, by rw [zq1, List.map_append]; rfl, by rw [List.length_append, hlen]; rfl, fun c hc => ?_⟩
          rcases List.mem_append.mp hc with z | z
          · exact hcs c z
          · rw [List.mem_singleton.mp z]; exact hcn n hn
        · walk_at "rd"
          refine zj6 ⟨by omega, by omega⟩ fun d _ => ?_
          walk_at "rd"
          refine ite2 (fun _ => ?_) (fun _ => hR _ _ ⟨sm, ms, num, rfl, s3, hl3, hm3, hne, hm0, h1, h1, h7, hcn⟩)
          refine ⟨by decide, fun p hp => ?_⟩
          have sp := Same.new hp (.lst [.int (many : Int)])
          exact hR _ _ ⟨p, [(many : Int)], num, rfl, s3.trans sp, sp _ _ hl3, zq1, zj0 hl3 hp, s3.free hp, by show 1 <= 1; omega, by show 1 <= 1; omega, by show 1 <= 7; omega, fun c hc => by rw [List.mem_singleton.mp hc]; exact ⟨by omega, by omega⟩⟩
      · walk_at "rd"
        refine zj6 ⟨by omega, by omega⟩ fun d _ => ?_
        walk_at "rd"
        refine ite2 (fun _ => ?_) (fun _ => hR _ _ ⟨sm, ms, num, rfl, s3, hl3, hm3, hne, hm0, h1, h1, h7, hcn⟩)
        refine ⟨by decide, fun p hp => ?_⟩
        have sp := Same.new hp (.lst [.int 2])
        exact hR _ _ ⟨p, [2], num, rfl, s3.trans sp, sp _ _ hl3, zq1, zj0 hl3 hp, s3.free hp, by decide, by decide, by decide, fun c hc => by rw [List.mem_singleton.mp hc]; exact ⟨by decide, by decide⟩⟩
    · walk_at "rd"
      refine ite2 (fun hk0 => ?_) (fun _ => hR _ _ ⟨sm, ms, num, rfl, hS2, hl2, hms, hlsm, hsm0, by omega, by omega, by omega, hcn⟩)
      refine zj6 ⟨by omega, by omega⟩ fun d _ => ?_
      walk_at "rd"
      refine ⟨by omega, ?_⟩
      refine to_ixL (SqL.of hl2) (Int.emod_nonneg _ (by omega)) (by rw [hlen]; exact Int.emod_lt_of_pos _ (by omega)) fun n hn => ?_
      refine ⟨sm, _, _, 2, rfl, rfl, hms, ixN_nat (k := 2) (by rw [List.length_map, hml]; decide), ?_⟩
      rw [set_mapI]
      refine hR _ _ ⟨sm, ms.set 2 n, num, rfl, hS2.set hsm0 _, by rw [zj4 hlsm]; exact hl2, zq1, hlsm, hsm0, by rw [List.length_set]; omega, by rw [List.length_set]; omega, by rw [List.length_set]; omega, fun c hc => ?_⟩
      rcases List.mem_or_eq_of_mem_set hc with z | z
      · exact hcn c z
      · rw [z]; exact hcs n hn
  · rintro σ H1 ⟨cs, y1, y2, y3, rfl, hS, hl1, hlen, hcs⟩
    walk_at "rd"
    exact ⟨l, _, rfl, .inl ⟨SqL.of hl1, fun t ht => q t cs _ (hS.trans (Same.new ht _)) (SqT.of zq1) ⟨hcs, by omega⟩ hlen⟩⟩
theorem ds_law_blocks : DS (zq3 s_law_blocks) ["cell", "many", "left", "blocks", "k"] ["cell", "many"] ["list", "range", "_law_draw", "len"] := ds_of (by decide +kernel)
theorem ok_blocks70 (B : Bn mg) (D : Def K mg "_law_blocks" s_law_blocks) (F_law_draw : Fn P w K mg base 1 "_law_draw" ["cell", "k"] spDraw) : Fn P w K mg base 2 "_law_blocks" ["cell", "many"] spBlk70 := by
  refine D.gq ds_law_blocks (fun _ _ _ _ _ _ us hl => match us, hl with | [_, _], _ => rfl) (fun vs H Q E h => ?_) ?_
  · obtain ⟨cell, m, rfl, _⟩ := h; rfl
  intro X S e1 e2 e3 e4 e5 hc hsc hxe hr hu H vs Q E h
  subst e1 e2 e3 e4 e5
  obtain ⟨cell, m, rfl, h8, q⟩ := h
  refine ⟨_, (zq4 (ssv S 2 (kct S 0 (call_list_rangeK hc) B.list boot_list (zq0 (kct S 1 call_range1K B.range boot_range (zq0 (kv S 1) zq2)) zq2)))
      (zq4 (ssv S 3 (kls zq2))
      (zq4 (sfor hxe hc (irg1 S 1 B.range (zq0 (kv S 1) zq2)) (kg S 4) (zq4 (sif (wpt (wor (tcmp (op_eqK hu (K := X.K) rfl) (kv S 3) (kls zq2) (zq9 _)) (wor1 (tcmp op_eq (kmodc (kff S 2 F_law_draw hr (zq0 (kv S 0) (zq0 (kop op_add kint (kv S 4)) zq2)))) kint (zq9 _))))) (zq5 (sexpr (kmb PySem.F.plainAttrs_list PySem.F.slot_list_append PySem.F.type_list_append mt_append (K := X.K) rfl (kv S 3) (zq0 (kls zq2) zq2)))) zz0)
      (zq5 (sexpr (kmb PySem.F.plainAttrs_list PySem.F.slot_list_append PySem.F.type_list_append mt_append (K := X.K) rfl (kix (zq7 (K := X.K) rfl) (kv S 3) (kun un_neg kint) (fun _ _ => rfl)) (zq0 (kmb PySem.F.plainAttrs_list PySem.F.slot_list_pop PySem.F.type_list_pop mt_popAt (K := X.K) rfl (kv S 2) (zq0 (kop op_mod (kff S 2 F_law_draw hr (zq0 (kv S 0) (zq0 (kop op_add kint (kv S 4)) zq2))) (kcb S 3 (zj3 (K := X.K) rfl) B.len boot_len (zq0 (kv S 2) zq2))) zq2)) zq2))))))
      (zq5 (sret (kv S 3)))))), ?_⟩
  walk_at "rd"
  refine ⟨m, rfl, by omega, fun g hg => ?_⟩
  refine ⟨g, m, rfl, zq1, by omega, fun r hr' => ?_⟩
  walk_at "rd"
  refine ⟨by decide, fun bb hbb => ?_⟩
  have sg := (Same.new hg (.rng 0 m))
  have sr := sg.trans (Same.new hr' (.lst ((asI (List.range m)).map V.int)))
  have sb := sr.trans (Same.new hbb (.lst []))
  have hr0 : H r = none := sg.free hr'
  have hb0 : H bb = none := sr.free hbb
  have hrb : r ≠ bb := zj0 zq1 hbb
  refine forR m (InvB70 H cell m r bb) rfl (by omega) ⟨List.range m, [], [], _, rfl, sb, (Same.new hbb _) _ _ zq1, zq1, ⟨trivial, List.nodup_nil, (fun v hv => nomatch hv), fun v hv => nomatch hv⟩, List.Perm.refl _, rfl⟩ ?_ ?_
  · rintro k σ H2 hk ⟨rest, us, L, y1, rfl, s2, hr2, hb2, hB, hP, hlen⟩
    have hlr : L.flatten.length + rest.length = m := by
      have := hP.length_eq
      rw [List.length_append, List.length_range] at this; exact this
    have hLk := flat_le hB.ne
    have hul := hB.rl.length
    walk_at "rd"
    refine ⟨by decide, fun e he => ?_⟩
    have se := Same.new he (.lst [])
    refine ⟨_, _, .lst (SqL.of (se _ _ hb2)) (hB.rl.same se).dt, .lst (SqL.of zq1) .nil, shaped_rows L, by decide, ?_⟩
    rw [eqv_nil]
    walk_at "rd"
    have last : ∀ (H3 : Hp) (ps : List V) (q1 : Addr) (M : List (List Nat)) (l0 : List Nat), Same H H3 -> H3 r = some (.lst ((asI rest).map V.int)) -> H3 bb = some (.lst (ps ++ [.ref q1])) -> L70 H r bb H3 ps q1 M l0 -> (M ++ [l0]).flatten = L.flatten ->
        rIxL X.K (V.ref bb) (V.int (-1)) H3 fun x H1 => tyV X.K "list" x H1 /\ tyV X.K "list" (V.ref r) H1 /\ spDraw [V.int cell, V.int (50 + ↑k)] H1 (fun x_1 H1 => rLen X.K [V.ref r] H1 fun y H2 => rI (fun x j => 0 < j) (fun i j => V.int (i % j)) x_1 y H2 fun x_2 H1 => rPopAt (V.ref r) [x_2] H1 fun x_3 H1 => rAppend x [x_3] H1 fun x H1 => InvB70 H cell m r bb (k + 1) [some (V.int cell), some (V.int ↑m), some (V.ref r), some (V.ref bb), some (V.int ↑k)] H1) E0 := by
      intro H3 ps q1 M l0 s3 hr3 hb3 hl hfl
      refine zj1 (SqL.of hb3) atI_lastV ?_
      refine ⟨.inl ⟨rfl, _, SqL.of hl.hq⟩, .inl ⟨rfl, _, SqL.of hr3⟩, ?_⟩
      refine zj6 ⟨by omega, by omega⟩ fun d _ => ?_
      refine zz7 (.inl (SqL.of hr3)) ?_
      rw [List.length_map, zq6]
      walk_at "rd"
      refine ⟨by omega, ?_⟩
      rw [show (d : Int) % (rest.length : Int) = ((d % rest.length : Nat) : Int) from (Int.natCast_emod _ _).symm]
      have hlt := Nat.mod_lt d (show rest.length > 0 by omega)
      generalize d % rest.length = x at hlt ⊢
      refine ⟨r, _, _, x, _, rfl, rfl, hr3, by omega, by omega, seqIx (by rw [List.length_map, zq6]; exact hlt), asI_item hlt, ?_⟩
      rw [eraseMap]
      have hl0 : l0.length <= 8 := by
        have := congrArg List.length hfl
        rw [List.flatten_append, List.length_append] at this
        simp only [List.flatten_cons, List.flatten_nil, List.append_nil] at this
        omega
      refine ⟨q1, _, _, rfl, rfl, by rw [zj4 hl.qr]; exact hl.hq, by rw [List.length_map, zq6]; exact zj7 (by omega), ?_⟩
      have hput := hl.put (.lst ((asI (rest.eraseIdx x)).map V.int)) (rest.getD x 0)
      rw [asI_append, List.map_append, show List.map V.int (asI [rest.getD x 0]) = [V.int ((rest.getD x 0 : Nat) : Int)] from rfl] at hput
      refine ⟨rest.eraseIdx x, ps ++ [.ref q1], M ++ [l0 ++ [rest.getD x 0]], _, rfl, (s3.set hr0 _).set hl.q0 _, ?_, ?_, hput, ?_, ?_⟩
      · rw [zj4 (Ne.symm hl.qr), zq1]
      · rw [zj4 (Ne.symm hl.qb), zj4 (Ne.symm hrb)]; exact hb3
      · rw [flat_put, hfl]; exact perm_pop hlt hP
      · rw [flat_put, hfl, List.length_append, hlen]; rfl
    have fresh : ∀ (H3 : Hp), Same H2 H3 -> tyV X.K "list" (V.ref bb) H3 /\ 0 <= sizeLine /\ ∀ (p : Addr), H3 p = none -> rAppend (V.ref bb) [V.ref p] (upd H3 p (HO.lst [])) fun _ H1 => rIxL X.K (V.ref bb) (V.int (-1)) H1 fun x H1 => tyV X.K "list" x H1 /\ tyV X.K "list" (V.ref r) H1 /\ spDraw [V.int cell, V.int (50 + ↑k)] H1 (fun x_1 H1 => rLen X.K [V.ref r] H1 fun y H2 => rI (fun x j => 0 < j) (fun i j => V.int (i % j)) x_1 y H2 fun x_2 H1 => rPopAt (V.ref r) [x_2] H1 fun x_3 H1 => rAppend x [x_3] H1 fun x H1 => InvB70 H cell m r bb (k + 1) [some (V.int cell), some (V.int ↑m), some (V.ref r), some (V.ref bb), some (V.int ↑k)] H1) E0 := by
      intro H3 s3
      have hb3 := s3 _ _ hb2
      have hr3 := s3 _ _ hr2
      refine ⟨.inl ⟨rfl, _, SqL.of hb3⟩, by decide, fun p hp => ?_⟩
      have sp := Same.new hp (.lst [])
      have hpb : p ≠ bb := (zj0 hb3 hp).symm
      have hpr : p ≠ r := (zj0 hr3 hp).symm
      refine ⟨bb, _, _, rfl, rfl, sp _ _ hb3, zj7 (by omega), ?_⟩
      refine last _ us p L [] ((s2.trans (s3.trans sp)).set hb0 _) (by rw [zj4 hrb]; exact sp _ _ hr3) zq1 ⟨RL.off Off.upd (hB.rl.same (s3.trans sp)), hB.nd, fun z => ?_, hB.fr, hB.ne, hpb, hpr, (s2.trans s3).free hp, by rw [zj4 hpb]; exact zq1⟩ (by simp)
      obtain ⟨t, ht, e⟩ := List.getElem_of_mem z
      obtain ⟨a, h1, _, h3⟩ := (hB.rl.same s3).get (i := t) (by omega)
      rw [List.getElem?_eq_getElem ht, e] at h1
      cases h1
      rw [hp] at h3
      cases h3
    refine ite2 (fun c => fresh _ se) (fun c => ?_)
    refine zj6 ⟨by omega, by omega⟩ fun d _ => ?_
    walk_at "rd"
    refine ite2 (fun c => fresh _ se) (fun c => ?_)
    have hus : us ≠ [] := fun z => by
      subst z
      cases L with
      | nil => exact absurd rfl ‹¬ List.map rowD [] = []›
      | cons a b => exact hB.rl.elim
    obtain ⟨ps, q1, M, l0, e1, e2, hl⟩ := (hB.same se).last hus
    exact last _ ps q1 M l0 (s2.trans se) (se _ _ hr2) (by rw [<- e1]; exact se _ _ hb2) hl (by rw [e2])
  · rintro σ H2 ⟨rest, us, L, y1, rfl, s2, hr2, hb2, hB, hP, hlen⟩
    walk_at "rd"
    have hz : rest = [] := by
      have := hP.length_eq
      rw [List.length_append, List.length_range] at this
      exact List.eq_nil_of_length_eq_zero (by omega)
    rw [hz, List.append_nil] at hP
    exact q bb us L H2 s2 hb2 hB.rl hP hB.ne
theorem ds_law_groups : DS (zq3 s_law_groups) ["cell", "counts", "blocks", "groups", "b", "people", "kind"] ["cell", "counts", "blocks"] ["range", "len", "_law_draw", "tuple", "sorted"] := ds_of (by decide +kernel)
theorem ok_groups70 (B : Bn mg) (D : Def K mg "_law_groups" s_law_groups) (F_law_draw : Fn P w K mg base 1 "_law_draw" ["cell", "k"] spDraw) : Fn P w K mg base 2 "_law_groups" ["cell", "counts", "blocks"] (spGroups70 K) := by
  refine D.gq ds_law_groups (fun _ _ _ _ _ _ us hl => match us, hl with | [_, _, _], _ => rfl) (fun vs H Q E h => ?_) ?_
  · obtain ⟨cell, c, bb, cs, us, Lb, rfl, _⟩ := h; rfl
  intro X S e1 e2 e3 e4 e5 hc hsc hxe hr hu H vs Q E h
  subst e1 e2 e3 e4 e5
  obtain ⟨cell, c, bb, cs, ub, Lb, rfl, hcq, h8, hbb, hRL, hPm, hLne, q⟩ := h
  refine ⟨_, (zq4 (ssv S 3 (kls zq2))
      (zq4 (sfor hxe hc (irg1 S 0 B.range (zq0 (kcb S 1 (zj3 (K := X.K) rfl) B.len boot_len (zq0 (kv S 2) zq2)) zq2)) (kg S 4) (zq4 (ssv S 5 (kix (zq7 (K := X.K) rfl) (kv S 2) (kv S 4) (fun _ _ => rfl)))
      (zq4 (ssv S 6 (kmodc (kff S 2 F_law_draw hr (zq0 (kv S 0) (zq0 (kop op_add kint (kv S 4)) zq2)))))
      (zq5 (sif (wpt (wand (tcmp op_lt (kv S 6) kint (zq9 _)) (wand (tcmp op_gt (kcb S 1 (zj3 (K := X.K) rfl) B.len boot_len (zq0 (kv S 5) zq2)) kint (zq9 _)) (wand1 (tcmp (op_eqK hu (K := X.K) rfl) (klc S hc hsc (ilistK (kv S 5) (K := X.K) rfl) (N := ["i", "counts"]) (W := ["i"]) (G := []) (fv := [none, some 1]) (by decide +kernel) (fun cl C fp s H S2 => ⟨(kg S2 0), (if_one (tcmp op_ne (kix (zj5 (K := X.K) rfl) (kv S2 1) (kv S2 0) (fun _ _ => rfl)) kint (zq9 _))), (kv S2 0)⟩)) (kls zq2) (zq9 _)))))) (zq5 (sexpr (kmb PySem.F.plainAttrs_list PySem.F.slot_list_append PySem.F.type_list_append mt_append (K := X.K) rfl (kv S 3) (zq0 (ktp (zq0 kstr (zq0 (kct S 3 (call_tupFK (K := X.K) rfl) B.tuple boot_tuple (zq0 (kv S 5) zq2)) zq2))) zq2)))) (zq5 (sif (tcmp op_lt (kv S 6) kint (zq9 _)) (zq5 (sexpr (kmb PySem.F.plainAttrs_list PySem.F.slot_list_append PySem.F.type_list_append mt_append (K := X.K) rfl (kv S 3) (zq0 (ktp (zq0 kstr (zq0 (kct S 3 (call_tupFK (K := X.K) rfl) B.tuple boot_tuple (zq0 (kcb S 4 (call_sortedK (K := X.K) rfl) B.sorted boot_sorted (zq0 (kv S 5) zq2)) zq2)) zq2))) zq2)))) zz0)))))))
      (zq5 (sret (kct S 3 (call_tupFK (K := X.K) rfl) B.tuple boot_tuple (zq0 (kv S 3) zq2)))))), ?_⟩
  walk_at "rd"
  refine ⟨by decide, fun l hl => ?_⟩
  have hl0 : H l = none := hl
  have sl := Same.new hl (.lst [])
  have hflen : Lb.flatten.length = cs.length := by rw [hPm.length_eq, List.length_range]
  have hLb8 : Lb.length <= 8 := by have := flat_le hLne; omega
  refine zz7 (.inl (SqL.of (sl _ _ hbb))) ?_
  rw [hRL.length]
  refine forR Lb.length (InvG70 X.K H cell c bb l cs Lb) rfl (by omega) ⟨[], [], _, _, _, rfl, sl, zq1, trivial, ⟨⟨(fun _ h => nomatch h), .nil⟩, ?_, fun x hx => ?_, (fun _ h => nomatch h), ?_⟩⟩ ?_ ?_
  · exact hPm.symm.nodup List.nodup_range
  · exact List.mem_range.mp (hPm.mem_iff.mp hx)
  · rw [List.drop_zero, hflen]; show 0 + _ <= _; omega
  · rintro b σ H6 hb ⟨us, L, y1, y2, y3, rfl, hS6, hl6, hG6, hD⟩
    obtain ⟨p, hp1, hp2, hp3⟩ := hRL.get hb
    have hp6 := hS6 _ _ hp3
    have hrow1 := hLne _ (by rw [List.getD_eq_getElem?_getD, List.getElem?_eq_getElem hb]; exact List.getElem_mem hb : Lb.getD b [] ∈ Lb)
    rw [drop_flat hb] at hD
    generalize Lb.getD b [] = row at hp3 hp6 hD hrow1
    have hrow1 := List.length_pos_iff.mpr hrow1
    generalize hleft : (Lb.drop (b + 1)).flatten = left at hD
    have hperm : (row ++ left).Perm (row ++ left) := List.Perm.refl _
    have hdl := hD.len
    rw [List.length_append] at hdl
    have hrlt : ∀ x ∈ row, x < cs.length := fun x hx => hD.lt x (List.mem_append_left _ hx)
    have hLl : L.length <= 8 := by omega
    have stay : ∀ (H7 : Hp) (y4 y5 y6 : Option V), Same H6 H7 -> InvG70 X.K H cell c bb l cs Lb (b + 1) [some (.int cell), some (.ref c), some (.ref bb), some (.ref l), y4, y5, y6] H7 := fun H7 y4 y5 y6 s7 => ⟨us, L, _, _, _, rfl, hS6.trans s7, s7 _ _ hl6, hG6.mono s7, by rw [hleft]; exact hD.skip hperm⟩
    have put : ∀ (H7 : Hp) (y4 y5 y6 : Option V) (kb : Bool) (row' : List Nat) (p' : Addr), Same H6 H7 -> H7 p' = some (.lst ((asI row').map V.int)) -> row'.Perm row -> (kb = true -> 2 <= row.length /\ ∀ x ∈ row, cs.getD x 0 = 2) -> (kb = false -> riseB row' = true) -> rTupF X.K [.ref p'] H7 fun v H8 => 2 <= sizeLine /\ ∀ q, H8 q = none -> rAppend (.ref l) [.ref q] (upd H8 q (.tup [.str (kd kb), v])) fun _ H9 => InvG70 X.K H cell c bb l cs Lb (b + 1) [some (.int cell), some (.ref c), some (.ref bb), some (.ref l), y4, y5, y6] H9 := by
      intro H7 y4 y5 y6 kb row' p' s7 hp' hq hkb hcb
      refine ⟨p', _, rfl, SqL.of hp', fun t o ht hoc hod => ?_⟩
      have st := Same.new ht (.frz o (.tup ((asI row').map V.int)))
      have ht7 : upd H7 t (.frz o (.tup ((asI row').map V.int))) t = some (.frz o (.tup ((asI row').map V.int))) := zq1
      refine ⟨by decide, fun q1 hq1 => ?_⟩
      have sq := Same.new hq1 (.tup [.str (kd kb), .ref t])
      have s8 := s7.trans (st.trans sq)
      have hl8 := s8 _ _ hl6
      have hq8 : upd (upd H7 t (.frz o (.tup ((asI row').map V.int)))) q1 (.tup [.str (kd kb), .ref t]) q1 = some (.tup [.str (kd kb), .ref t]) := zq1
      have ht8 := sq _ _ ht7
      have hG8 := hG6.mono s8
      have hS8 := hS6.trans s8
      generalize upd (upd H7 t (.frz o (.tup ((asI row').map V.int)))) q1 (.tup [.str (kd kb), .ref t]) = H8 at hl8 hq8 ht8 hG8 hS8 ⊢
      refine ⟨l, _, _, rfl, rfl, hl8, zj7 (by rw [hG6.length]; omega), ?_⟩
      exact ⟨us ++ [.ref q1], L ++ [(kb, row')], _, _, _, rfl, hS8.set hl0 _, zq1, (hG8.updL hl8).append ⟨⟨q1, t, rfl, (SqT.of hq8).updL hl8, (SqT.frz ht8).updL hl8, TyT.updL hl8 (.inr ⟨_, _, ht8, hoc, hod⟩)⟩, trivial⟩, by rw [hleft]; exact hD.put hperm hq (by omega) hkb hcb⟩
    have hap : ∀ H7, Same H6 H7 -> tyV X.K "list" (.ref l) H7 := fun H7 s7 => .inl ⟨rfl, _, SqL.of (s7 _ _ hl6)⟩
    walk_at "rd"
    refine zj1 (SqL.of (hS6 _ _ hbb)) (atI_at hp1) ?_
    walk_at "rd"
    refine zj6 ⟨by omega, by omega⟩ fun kd0 _ => ?_
    walk_at "rd"
    generalize (kd0 : Int) % 5 = kind
    have other : ∀ (H7 : Hp) (y4 y5 y6 : Option V), Same H6 H7 -> if kind < 4 then tyV X.K "list" (.ref l) H7 /\ rSorted X.K [.ref p] H7 fun x H1 => rTupF X.K [x] H1 fun x H1 => 2 <= sizeLine /\ ∀ q, H1 q = none -> rAppend (.ref l) [.ref q] (upd H1 q (.tup [.str (kd false), x])) fun _ H9 => InvG70 X.K H cell c bb l cs Lb (b + 1) [some (.int cell), some (.ref c), some (.ref bb), some (.ref l), y4, y5, y6] H9 else InvG70 X.K H cell c bb l cs Lb (b + 1) [some (.int cell), some (.ref c), some (.ref bb), some (.ref l), y4, y5, y6] H7 := by
      intro H7 y4 y5 y6 s7
      refine ite2 (fun _ => ?_) (fun _ => stay _ _ _ _ s7)
      refine ⟨hap _ s7, p, asI row, rfl, .inl (SqL.of (s7 _ _ hp6)), by rw [zq6]; omega, fun l2 ms hl2' hperm2 hsort => ?_⟩
      obtain ⟨so, hso, hsp⟩ := perm_asI hperm2
      subst hso
      exact put _ _ _ _ false so l2 (s7.trans (Same.new hl2' _)) zq1 hsp (fun e => nomatch e) fun _ => rise_of hsort (hsp.symm.nodup (List.nodup_append.mp (hD.nd)).1)
    refine ite2 (fun _ => ?_) (fun _ => other _ _ _ _ (Same.refl _))
    refine zz7 (.inl (SqL.of hp6)) ?_
    rw [List.length_map, zq6]
    walk_at "rd"
    refine ite2 (fun h2 => ?_) (fun _ => other _ _ _ _ (Same.refl _))
    refine lcL (fun j => !decide (cs.getD (row.getD j 0) 0 = 2)) (fun j => ((row.getD j 0 : Nat) : Int)) (SqL.of hp6) (by rw [zq6]; exact zj7 (by omega)) ?_ ?_
    · intro j H7 A B' hj hS7 hA hB
      rw [zq6] at hj
      rw [zz2]
      walk_at "rd"
      refine zj9 ((hS6.trans hS7).seqT hcq) rfl (hrlt _ (getD_memN hj)) ?_
      walk_at "rd"
      by_cases c2 : cs.getD (row.getD j 0) 0 = 2
      · rw [decide_eq_true c2]
        walk_at "rd"
        exact hB (by rw [decide_eq_true c2]; rfl) _ (Same.refl _)
      · rw [decide_eq_false c2]
        walk_at "rd"
        exact hA (by rw [decide_eq_false c2]; rfl) _ (Same.refl _)
    intro acc H7 hn7 s7 hacc
    have ef := asI_filt row (fun x => !decide (cs.getD x 0 = 2))
    rw [ef] at hacc
    walk_at "rd"
    refine ⟨by decide, fun e he => ?_⟩
    have s8 := Same.new he (.lst [])
    refine ⟨_, _, .lst (SqL.of (s8 _ _ hacc)) (DtAll.ints _), .lst (SqL.of zq1) .nil, zz1 _, by decide, ?_⟩
    rw [eqv_nil]
    by_cases call : row.filter (fun x => !decide (cs.getD x 0 = 2)) = []
    · rw [decide_eq_true (by rw [call]; rfl)]
      walk_at "rd"
      refine ⟨hap _ (s7.trans s8), put _ _ _ _ true row p (s7.trans s8) ((s7.trans s8) _ _ hp6) (List.Perm.refl _) (fun _ => ⟨by omega, fun x hx => ?_⟩) (fun e => nomatch e)⟩
      have := (List.filter_eq_nil_iff.mp call) x hx
      simpa using this
    · rw [decide_eq_false (fun z => call (by
        cases hf : row.filter (fun x => !decide (cs.getD x 0 = 2)) with
        | nil => rfl
        | cons u v => rw [hf] at z; cases z))]
      walk_at "rd"
      exact other _ _ _ _ (s7.trans s8)
  · rintro σ H6 ⟨us, L, y1, y2, y3, rfl, hS6, hl6, hG6, hD⟩
    walk_at "rd"
    refine ⟨l, _, rfl, SqL.of hl6, fun t o ht _ _ => ?_⟩
    have st := Same.new ht (.frz o (.tup us))
    exact q t us L _ (hS6.trans st) (SqT.frz zq1) (hG6.mono st) hD.gs (by have := hD.len; omega)
theorem ds_law_web : DS (zq3 s_law_web) ["cell", "many", "groups", "seen", "i", "kind", "people", "k", "then"] ["cell", "many", "groups"] ["range", "_law_draw", "len", "sum", "tuple"] := ds_of (by decide +kernel)
theorem ok_web70 (B : Bn mg) (D : Def K mg "_law_web" s_law_web) (F_law_draw : Fn P w K mg base 1 "_law_draw" ["cell", "k"] spDraw) : Fn P w K mg base 2 "_law_web" ["cell", "many", "groups"] (spWeb71 K) := by
  refine D.gq ds_law_web (fun _ _ _ _ _ _ us hl => match us, hl with | [_, _, _], _ => rfl) (fun vs H Q E h => ?_) ?_
  · obtain ⟨cell, g, cs, us, L, rfl, _⟩ := h; rfl
  intro X S e1 e2 e3 e4 e5 hc hsc hxe hr hu H vs Q E h
  subst e1 e2 e3 e4 e5
  obtain ⟨cell, g, cs, us, L, rfl, hg, hL, hA, h8, q⟩ := h
  refine ⟨_, (zq4 (ssv S 3 (kls zq2))
      (zq4 (sfor hxe hc (irg1 S 0 B.range (zq0 (kv S 1) zq2)) (kg S 4) (zq5 (sexpr (kmb PySem.F.plainAttrs_list PySem.F.slot_list_append PySem.F.type_list_append mt_append (K := X.K) rfl (kv S 3) (zq0 (kop op_and (kop op_and (kff S 1 F_law_draw hr (zq0 (kv S 0) (zq0 (kop op_add kint (kv S 4)) zq2))) (kff S 1 F_law_draw hr (zq0 (kv S 0) (zq0 (kop op_add kint (kv S 4)) zq2)))) (kop op_sub (kop op_sub (kop op_shl kint (kv S 1)) kint) (kop op_shl kint (kv S 4)))) zq2)))))
      (zq4 (sfor hxe hc (itupK (kv S 2) (K := X.K) rfl) (gtup hc (K := X.K) (n := 2) rfl (zz3 (kg S 5) (zz3 (kg S 6) gs_nil))) (zq5 (sfor hxe hc (irg1 S 0 B.range (zq0 (kcb S 2 (zj3 (K := X.K) rfl) B.len boot_len (zq0 (kv S 6) zq2)) zq2)) (kg S 7) (zq5 (sif (tcmp op_eq (kv S 5) kstr (zq9 _)) (zq4 (ssv S 8 (kix (zj5 (K := X.K) rfl) (kv S 6) (kop op_mod (kop op_add (kv S 7) kint) (kcb S 2 (zj3 (K := X.K) rfl) B.len boot_len (zq0 (kv S 6) zq2))) (fun _ _ => rfl)))
      (zq5 (sasg (kop op_or (kix (zq7 (K := X.K) rfl) (kv S 3) (kix (zj5 (K := X.K) rfl) (kv S 6) (kv S 7) (fun _ _ => rfl)) (fun _ _ => rfl)) (kop op_shl kint (kv S 8))) (gsub (kv S 3) (kix (zj5 (K := X.K) rfl) (kv S 6) (kv S 7) (fun _ _ => rfl)) set_list)))) (zq5 (sasg (kop op_or (kix (zq7 (K := X.K) rfl) (kv S 3) (kix (zj5 (K := X.K) rfl) (kv S 6) (kv S 7) (fun _ _ => rfl)) (fun _ _ => rfl)) (kcb S 3 (call_sumK hc (K := X.K) rfl) B.sum boot_sum (zq0 (klc S hc hsc (itupK (kv S 6) (K := X.K) rfl) (N := ["j", "people", "k"]) (W := ["j"]) (G := []) (fv := [none, some 6, some 7]) (by decide +kernel) (fun cl C fp s H S2 => ⟨(kg S2 0), (if_one (tcmp op_ne (kv S2 0) (kix (zj5 (K := X.K) rfl) (kv S2 1) (kv S2 2) (fun _ _ => rfl)) (zq9 _))), (kop op_shl kint (kv S2 0))⟩)) zq2))) (gsub (kv S 3) (kix (zj5 (K := X.K) rfl) (kv S 6) (kv S 7) (fun _ _ => rfl)) set_list))))))))
      (zq5 (sret (kct S 4 (call_tupK (K := X.K) rfl) B.tuple boot_tuple (zq0 (kv S 3) zq2))))))), ?_⟩
  walk_at "rd"
  refine ⟨by decide, fun l hl => ?_⟩
  refine forR cs.length (InvW70 H cell g l cs.length) rfl (by omega) ⟨[], _, _, _, _, _, rfl, Same.new hl _, zq1, rfl, fun _ z => absurd z (Nat.not_lt_zero _)⟩ ?_ ?_
  · rintro i σ H1 hi ⟨ws, y1, y3, y4, y5, y6, rfl, s1, hl1, hwl, hw⟩
    walk_at "rd"
    refine ⟨.inl ⟨rfl, _, SqL.of hl1⟩, ?_⟩
    refine zj6 ⟨by omega, by omega⟩ fun b1 _ => ?_
    refine zj6 ⟨by omega, by omega⟩ fun b2 _ => ?_
    walk_at "rd"
    refine ⟨cpow1 (by omega), cpow1 (by omega), ?_⟩
    obtain ⟨y, hv, hy1, hy2⟩ : ∃ v : Nat, Builtin.bitAnd ((b1 &&& b2 : Nat) : Int) (((2 ^ cs.length : Nat) : Int) - 1 - ((2 ^ i : Nat) : Int)) = (v : Int) /\ v < 2 ^ cs.length /\ v.testBit i = false := mask71 (by omega)
    rw [hv]
    refine ⟨l, _, _, rfl, rfl, hl1, by rw [List.length_map, zq6]; exact zj7 (by omega), ?_⟩
    refine ⟨ws ++ [y], _, _, _, _, _, rfl, s1.set hl _, by rw [zq1, asI_append, List.map_append]; rfl, by rw [List.length_append, hwl]; rfl, fun k hk => ?_⟩
    by_cases e : k = i
    · subst e
      rw [show (ws ++ [y]).getD k 0 = y by rw [List.getD_eq_getElem?_getD, List.getElem?_append_right (by omega), hwl, Nat.sub_self]; rfl]
      exact ⟨hy1, hy2⟩
    · rw [show (ws ++ [y]).getD k 0 = ws.getD k 0 by rw [List.getD_eq_getElem?_getD, List.getElem?_append_left (by omega), <- List.getD_eq_getElem?_getD]]
      exact hw k (by omega)
  · rintro σ H1 ⟨ws, y1, y3, y4, y5, y6, rfl, s1, hl1, hwl, hw⟩
    have hok : WebOk ws := ⟨fun i hi => by rw [hwl] at hi ⊢; exact (hw i hi).1, fun i hi => by rw [hwl] at hi; exact (hw i hi).2⟩
    walk_at "rd"
    refine forPTF (InvV70 H cell g l cs L) (s1.seqT hg) (hL.mono s1) ⟨ws, _, _, _, _, _, rfl, s1, hl1, hwl, hok, fun t _ z => absurd z (Nat.not_lt_zero t)⟩ (fun i σ H' h => by obtain ⟨_, _, _, _, _, _, _, s', _⟩ := h; exact ⟨s'.seqT hg, hL.mono s'⟩) ?_ ?_
    · rintro t gg p σ H2 ht hp hty ⟨ws2, y1, y3, y4, y5, y6, rfl, s2, hl2, hwl2, hok2, hsee⟩
      have ga := hA.each gg (List.mem_of_getElem? ht)
      obtain ⟨b, row⟩ := gg
      have hnd : row.Nodup := ga.nd
      have hlt : ∀ x ∈ row, x < cs.length := ga.lt
      have hrl : row.length <= 8 := Nat.le_trans (nodup_le hnd hlt) h8
      walk_at "rd"
      refine zz7 (.inr hp) ?_
      rw [List.length_map, zq6]
      refine forR row.length (InvU70 X.K H cell g l p cs b ws2 row) rfl (by omega) ⟨ws2, _, _, _, rfl, s2, hp, hl2, Grow.refl hok2, fun t ht => absurd ht (Nat.not_lt_zero t), fun t ht => absurd ht (Nat.not_lt_zero t)⟩ ?_ ?_
      · rintro k σ H3 hk ⟨ws3, y1, y5, y6, rfl, s3, hp3, hl3, hG, hR, hC⟩
        have hxk : row.getD k 0 < ws3.length := by rw [hG.len, hwl2]; exact hlt _ (getD_memN hk)
        have hw8 : ws3.length <= 8 := by rw [hG.len, hwl2]; exact h8
        walk_at "rd"
        cases b with
        | true =>
          have h2 : 2 <= row.length := (ga.ring rfl).1
          rw [if_pos (show kd true = "ring" from rfl)]
          have hmod : (k + 1) % row.length < row.length := Nat.mod_lt _ (by omega)
          have hxa : row.getD ((k + 1) % row.length) 0 < ws3.length := by rw [hG.len, hwl2]; exact hlt _ (getD_memN hmod)
          have hne : row.getD ((k + 1) % row.length) 0 ≠ row.getD k 0 := fun z => by
            have z1 := idxN hnd hk
            have z2 := idxN hnd hmod
            rw [z, z1] at z2
            by_cases c : k + 1 = row.length
            · rw [c, Nat.mod_self] at z2; omega
            · rw [Nat.mod_eq_of_lt (by omega)] at z2; omega
          walk_at "rd"
          refine zz7 (.inr hp3) ?_
          rw [List.length_map, zq6]
          walk_at "rd"
          refine ⟨by omega, ?_⟩
          refine zj9 (k := (k + 1) % row.length) hp3 (by rw [Int.natCast_emod, Int.natCast_add]; rfl) (by rw [zq6]; exact hmod) ?_
          rw [zz2]
          walk_at "rd"
          refine zj9 hp3 rfl (by rw [zq6]; exact hk) ?_
          rw [zz2]
          refine to_ixLk (SqL.of hl3) rfl (by rw [zq6]; exact hxk) ?_
          rw [zz2]
          walk_at "rd"
          refine ⟨cpow1 (by omega), ?_⟩
          walk_at "rd"
          refine zj9 hp3 rfl (by rw [zq6]; exact hk) ?_
          rw [zz2]
          refine ⟨l, _, _, _, rfl, rfl, hl3, ixN_nat (by rw [List.length_map, zq6]; exact hxk), ?_⟩
          rw [set_asI]
          have hso := see_or (ws := ws3) (m := 2 ^ row.getD ((k + 1) % row.length) 0) hxk
          refine ⟨_, _, _, _, rfl, s3.set hl _, hp3.updL hl3, zq1, hG.put hxk fun j hj => ?_, fun t ht e => ?_, fun t ht e => nomatch e⟩
          · rw [Nat.testBit_two_pow, decide_eq_true_eq] at hj
            subst hj
            exact ⟨hxa, hne⟩
          · rw [hso]
            by_cases c : t = k
            · subst c
              rw [decide_eq_true rfl, Nat.testBit_two_pow, decide_eq_true rfl, Bool.and_true, Bool.or_true]
            · rw [hR t (by omega) e, Bool.true_or]
        | false =>
          rw [if_neg (show ¬ kd false = "ring" from by decide)]
          walk_at "rd"
          refine zj9 hp3 rfl (by rw [zq6]; exact hk) ?_
          rw [zz2]
          refine to_ixLk (SqL.of hl3) rfl (by rw [zq6]; exact hxk) ?_
          rw [zz2]
          walk_at "rd"
          refine lcT (fun j => !decide (row.getD j 0 = row.getD k 0)) (fun j => ((2 ^ row.getD j 0 : Nat) : Int)) hp3 (by rw [zq6]; exact zj7 (by omega)) ?_ ?_
          · intro j H4 A B' hj hS hA hB
            rw [zq6] at hj
            have hxj : row.getD j 0 < ws3.length := by rw [hG.len, hwl2]; exact hlt _ (getD_memN hj)
            rw [zz2]
            walk_at "rd"
            refine zj9 (hS.seqT hp3) rfl (by rw [zq6]; exact hk) ?_
            rw [zz2]
            walk_at "rd"
            rw [nat_ne]
            by_cases c2 : row.getD j 0 = row.getD k 0
            · rw [decide_eq_false (not_not_intro c2)]
              walk_at "rd"
              exact hB (by rw [decide_eq_true c2]; rfl) _ (Same.refl _)
            · rw [decide_eq_true c2]
              walk_at "rd"
              exact ⟨cpow1 (by omega), hA (by rw [decide_eq_false c2]; rfl) _ (Same.refl _)⟩
          intro acc H4 hn4 hS4 hacc
          refine to_sum (SqL.of hacc) ?_
          rw [row_sum]
          walk_at "rd"
          refine zj9 (hS4.seqT hp3) rfl (by rw [zq6]; exact hk) ?_
          rw [zz2]
          have hl4 := hS4 _ _ hl3
          refine ⟨l, _, _, _, rfl, rfl, hl4, ixN_nat (by rw [List.length_map, zq6]; exact hxk), ?_⟩
          rw [set_asI]
          have hbt := row_bits hnd (row.getD k 0)
          have hso := see_or (ws := ws3) (m := mask (row.filter fun x => !decide (x = row.getD k 0))) hxk
          refine ⟨_, _, _, _, rfl, (s3.trans hS4).set hl _, (hS4.seqT hp3).updL hl4, zq1, hG.put hxk fun j hj => ?_, (fun t ht e => nomatch e), fun t ht e y hy ny => ?_⟩
          · rw [hbt, decide_eq_true_eq] at hj
            exact ⟨by rw [hG.len, hwl2]; exact hlt _ hj.1, hj.2⟩
          · rw [hso]
            by_cases c : t = k
            · subst c
              rw [decide_eq_true rfl, hbt, decide_eq_true ⟨hy, ny⟩, Bool.and_true, Bool.or_true]
            · rw [hC t (by omega) e y hy ny, Bool.true_or]
      · rintro σ H3 ⟨ws3, y1, y5, y6, rfl, s3, hp3, hl3, hG, hR, hC⟩
        refine ⟨ws3, _, _, _, _, _, rfl, s3, hl3, hG.len.trans hwl2, hG.ok, fun t2 g2 h2 e2 => ?_⟩
        by_cases e : t2 = t
        · subst e
          rw [ht] at e2
          cases e2
          refine ⟨hlt, hnd, fun e => ⟨(ga.ring e).1, (ga.ring e).2, fun k hk => hR k hk e⟩, fun e x hx y hy hxy => ?_⟩
          have := hC (row.idxOf x) (List.idxOf_lt_length_of_mem hx) e y hy (by rw [getIdx hx]; exact Ne.symm hxy)
          rw [getIdx hx] at this
          exact this
        · exact GOk.grow (hsee t2 g2 (by omega) e2) hG
    · rintro σ H2 ⟨ws2, y1, y3, y4, y5, y6, rfl, s2, hl2, hwl2, hok2, hsee⟩
      walk_at "rd"
      refine ⟨l, _, rfl, .inl ⟨SqL.of hl2, fun t ht => ?_⟩⟩
      refine q t ws2 _ (s2.trans (Same.new ht _)) (SqT.of zq1) hwl2 hok2 ⟨fun gg hgg => ?_, hA.disj⟩
      obtain ⟨k, hk, e⟩ := List.getElem_of_mem hgg
      exact hsee k gg hk (by rw [List.getElem?_eq_getElem hk, e])
theorem ds_law_house : DS (zq3 s_law_house) ["cell", "many", "counts", "groups"] ["cell"] ["_law_draw", "_law_counts", "_law_groups", "_law_blocks", "_law_web"] := ds_of (by decide +kernel)
theorem ok_house70 (B : Bn mg) (D : Def K mg "_law_house" s_law_house) (F_law_draw : Fn P w K mg base 1 "_law_draw" ["cell", "k"] spDraw) (F_law_counts : Fn P w K mg base 2 "_law_counts" ["cell", "many"] (spCounts70 K)) (F_law_blocks : Fn P w K mg base 2 "_law_blocks" ["cell", "many"] spBlk70) (F_law_groups : Fn P w K mg base 2 "_law_groups" ["cell", "counts", "blocks"] (spGroups70 K)) (F_law_web : Fn P w K mg base 2 "_law_web" ["cell", "many", "groups"] (spWeb71 K)) : Fn P w K mg base 3 "_law_house" ["cell"] (spHouse70 K) := by
  refine D.gq ds_law_house (fun _ _ _ _ _ _ us hl => match us, hl with | [_], _ => rfl) (fun vs H Q E h => ?_) ?_
  · obtain ⟨cell, rfl, _⟩ := h; rfl
  intro X S e1 e2 e3 e4 e5 hc hsc hxe hr hu H vs Q E h
  subst e1 e2 e3 e4 e5
  obtain ⟨cell, rfl, q⟩ := h
  refine ⟨_, (zq4 (ssv S 1 (kix (zq7 (K := X.K) rfl) (kls (kb_ints (ns := [8, 7, 6, 5, 4, 3, 2, 1, 0, 8, 6, 5]) (by decide +kernel))) (kmodc (kff S 0 F_law_draw hr (zq0 (kv S 0) (zq0 kint zq2)))) (fun _ _ => rfl)))
      (zq4 (ssv S 2 (kff S 1 F_law_counts hr (zq0 (kv S 0) (zq0 (kv S 1) zq2))))
      (zq4 (ssv S 3 (kff S 2 F_law_groups hr (zq0 (kv S 0) (zq0 (kv S 2) (zq0 (kff S 3 F_law_blocks hr (zq0 (kv S 0) (zq0 (kv S 1) zq2))) zq2)))))
      (zq5 (sret (ktp (zq0 (kv S 2) (zq0 (kff S 4 F_law_web hr (zq0 (kv S 0) (zq0 (kv S 1) (zq0 (kv S 3) zq2)))) (zq0 (kv S 3) zq2))))))))), ?_⟩
  walk_at "rd"
  refine ⟨by decide, fun u hu => ?_⟩
  refine zj6 ⟨by omega, by omega⟩ fun d _ => ?_
  walk_at "rd"
  have su := Same.new hu (.lst (([8, 7, 6, 5, 4, 3, 2, 1, 0, 8, 6, 5] : List Int).map V.int))
  have hu1 : SqL X.K (upd H u (.lst (([8, 7, 6, 5, 4, 3, 2, 1, 0, 8, 6, 5] : List Int).map V.int))) u (([8, 7, 6, 5, 4, 3, 2, 1, 0, 8, 6, 5] : List Int).map V.int) := SqL.of zq1
  refine to_ixL hu1 (by omega) (by show _ < (12 : Int); omega) fun x hx => ?_
  obtain ⟨many, rfl, hm8⟩ : ∃ n : Nat, x = (n : Int) /\ n <= 8 := by
    have : 0 <= x /\ x <= 8 := by
      simp only [List.mem_cons, List.not_mem_nil, or_false] at hx
      omega
    exact ⟨x.toNat, by omega, by omega⟩
  clear hx hu1
  walk_at "rd"
  refine ⟨cell, many, rfl, hm8, fun c cs H2 s2 hcq hcs hlen => ?_⟩
  refine ⟨cell, many, rfl, hm8, fun bb ub Lb H3 s3 hbb hRL hPm hne => ?_⟩
  subst hlen
  refine ⟨cell, c, bb, cs, ub, Lb, rfl, s3.seqT hcq, hm8, hbb, hRL, hPm, hne, fun g us L H4 s4 hg hL hA hL8 => ?_⟩
  walk_at "rd"
  refine ⟨cell, g, cs, us, L, rfl, hg, hL, hA, hm8, fun w ws H5 s5 hw hwl hwo hgo => ?_⟩
  refine ⟨by decide, fun t ht => ?_⟩
  have st := Same.new ht (.tup [.ref c, .ref w, .ref g])
  have s25 := s3.trans (s4.trans s5)
  exact q t c w g cs ws us L _ (su.trans (s2.trans (s25.trans st))) ⟨SqT.of zq1, (s25.trans st).seqT hcq, st.seqT hw, (s5.trans st).seqT hg, hL.mono (s5.trans st), hcs, hwl, hwo⟩ hA hgo hL8
theorem ds_law_guess : DS (zq3 s_law_guess) ["made", "worn", "i", "counts", "seen", "groups", "kind", "people", "at"] ["made", "worn", "i"] ["circle_guess", "ring_guess", "tuple", "len"] := ds_of (by decide +kernel)
theorem ok_guess70 (B : Bn mg) (D : Def K mg "_law_guess" s_law_guess) (F_ring_guess : Fn P w K mg base 1 "ring_guess" ["many", "i", "seen"] spRG) (F_circle_guess : Fn P w K mg base 2 "circle_guess" ["counts", "hats", "i"] (spCG K)) : Fn P w K mg base 3 "_law_guess" ["made", "worn", "i"] (spGuess70 K) := by
  refine D.gq ds_law_guess (fun _ _ _ _ _ _ us hl => match us, hl with | [_, _, _], _ => rfl) (fun vs H Q E h => ?_) ?_
  · obtain ⟨t, c, w, g, wl, cs, hs, ws, us, L, i, rfl, _⟩ := h; rfl
  intro X S e1 e2 e3 e4 e5 hc hsc hxe hr hu H vs Q E h
  subst e1 e2 e3 e4 e5
  obtain ⟨t, c, w, g, wl, cs, hs, ws, us, L, i, rfl, hO, go, hh, hn, hi, q⟩ := h
  have hcs := hO.cok
  refine ⟨_, (zq4 (sasg (kv S 0) (gtup hc (K := X.K) (n := 3) rfl (zz3 (kg S 3) (zz3 (kg S 4) (zz3 (kg S 5) gs_nil)))))
      (zq4 (sfor hxe hc (itupK (kv S 5) (K := X.K) rfl) (gtup hc (K := X.K) (n := 2) rfl (zz3 (kg S 6) (zz3 (kg S 7) gs_nil))) (zq5 (sif (tcmp (op_inK (K := X.K) rfl) (kv S 2) (kv S 7) (by with_unfolding_all rfl)) (zq4 (ssv S 8 (kmT PySem.F.plainAttrs_tuple PySem.F.slot_tuple_index PySem.F.type_tuple_index (mt_tindexK (K := X.K) rfl) (K := X.K) rfl (kv S 7) (zq0 (kv S 2) zq2)))
      (zq4 (sif (tcmp op_eq (kv S 6) kstr (zq9 _)) (zq5 (sret (kff S 1 F_ring_guess hr (zq0 (kcb S 3 (zj3 (K := X.K) rfl) B.len boot_len (zq0 (kv S 7) zq2)) (zq0 (kv S 8) (zq0 (kix (zq7 (K := X.K) rfl) (kv S 1) (kix (zj5 (K := X.K) rfl) (kv S 7) (kop op_mod (kop op_add (kv S 8) kint) (kcb S 3 (zj3 (K := X.K) rfl) B.len boot_len (zq0 (kv S 7) zq2))) (fun _ _ => rfl)) (fun _ _ => rfl)) zq2)))))) zz0)
      (zq5 (sret (kff S 0 F_circle_guess hr (zq0 (kct S 2 (call_tupK (K := X.K) rfl) B.tuple boot_tuple (zq0 (klc S hc hsc (itupK (kv S 7) (K := X.K) rfl) (N := ["j", "counts"]) (W := ["j"]) (G := []) (fv := [none, some 3]) (by decide +kernel) (fun cl C fp s H S2 => ⟨(kg S2 0), if_nil, (kix (zj5 (K := X.K) rfl) (kv S2 1) (kv S2 0) (fun _ _ => rfl))⟩)) zq2)) (zq0 (kct S 2 (call_tupK (K := X.K) rfl) B.tuple boot_tuple (zq0 (klc S hc hsc (itupK (kv S 7) (K := X.K) rfl) (N := ["j", "worn"]) (W := ["j"]) (G := []) (fv := [none, some 1]) (by decide +kernel) (fun cl C fp s H S2 => ⟨(kg S2 0), if_nil, (kix (zq7 (K := X.K) rfl) (kv S2 1) (kv S2 0) (fun _ _ => rfl))⟩)) zq2)) (zq0 (kv S 8) zq2)))))))) zz0)))
      (zq5 (sret kint)))), ?_⟩
  walk_at "rd"
  refine ⟨t, _, rfl, hO.ht, rfl, _, _, rfl, _, _, rfl, _, _, rfl, rfl, ?_⟩
  walk_at "rd"
  refine forPTF (InvGs70 H t wl c w g L i) hO.hg hO.hL ⟨Same.refl _, fun t ht => absurd ht (Nat.not_lt_zero t), _, _, _, rfl⟩ (fun k σ H' h => ⟨h.1.seqT hO.hg, hO.hL.mono h.1⟩) ?_ ?_
  · rintro k gg p σ H1 hk hp hty ⟨hS, hno, y1, y2, y3, rfl⟩
    have g1 := go.each gg (List.mem_of_getElem? hk)
    have hlen : gg.2.length <= 8 := Nat.le_trans (nodup_le g1.nd g1.lt) hcs.len
    walk_at "rd"
    refine to_in (a := gg.2) (.inr hp) ?_
    by_cases hm : i ∈ gg.2
    · have ef := find_first hno hk hm
      have eq : ggu cs L hs i = gin cs hs gg i := by unfold ggu; rw [ef]
      rw [eq] at q
      obtain ⟨b, l⟩ := gg
      have hm : i ∈ l := hm
      have hlt := List.idxOf_lt_length_of_mem hm
      rw [decide_eq_true hm]
      walk_at "rd"
      refine ⟨⟨p, rfl, hty⟩, p, asI l, (i : Int), rfl, rfl, hp, mem_asI.mpr hm, ?_⟩
      rw [asI_idx]
      walk_at "rd"
      cases b with
      | true =>
        rw [if_pos (show kd true = "ring" from rfl)]
        refine zz7 (.inr hp) ?_
        refine zz7 (.inr hp) ?_
        rw [List.length_map, zq6]
        walk_at "rd"
        refine ⟨by omega, ?_⟩
        have hmod : (l.idxOf i + 1) % l.length < l.length := Nat.mod_lt _ (by omega)
        have hnx : l.getD ((l.idxOf i + 1) % l.length) 0 < cs.length := g1.lt _ (getD_memN hmod)
        refine zj9 (k := (l.idxOf i + 1) % l.length) hp (by rw [Int.natCast_emod, Int.natCast_add]; rfl) (by rw [zq6]; exact hmod) ?_
        rw [zz2]
        refine to_ixLk (hS.seq hh) rfl (by rw [hn.1]; exact hnx) ?_
        exact ⟨l.length, l.idxOf i, _, rfl, by omega, q H1 hS⟩
      | false =>
        rw [if_neg (show ¬ kd false = "ring" from by decide)]
        refine lcT (fun _ => true) (fun k => cs.getD (l.getD k 0) 0) hp (by rw [zq6]; exact zj7 (by omega)) ?_ ?_
        · intro k H2 A B' hk hS2 hA _
          rw [zq6] at hk
          rw [zz2]
          walk_at "rd"
          exact zj9 ((hS.trans hS2).seqT hO.hc) rfl (g1.lt _ (getD_memN hk)) (hA rfl _ (Same.refl _))
        intro acc H2 hn2 hS2 hacc
        rw [fil_all, zq6, range_pk] at hacc
        refine ⟨acc, _, rfl, .inl ⟨SqL.of hacc, fun t1 ht1 => ?_⟩⟩
        have s3 := hS2.trans (Same.new ht1 (.tup ((pk cs l).map V.int)))
        have ht1' : upd H2 t1 (.tup ((pk cs l).map V.int)) t1 = some (.tup ((pk cs l).map V.int)) := zq1
        generalize upd H2 t1 (.tup ((pk cs l).map V.int)) = H3 at s3 ht1' ⊢
        walk_at "rd"
        refine lcT (fun _ => true) (fun k => hs.getD (l.getD k 0) 0) (s3.seqT hp) (by rw [zq6]; exact zj7 (by omega)) ?_ ?_
        · intro k H4 A B' hk hS4 hA _
          rw [zq6] at hk
          rw [zz2]
          walk_at "rd"
          exact to_ixLk ((hS.trans (s3.trans hS4)).seq hh) rfl (by rw [hn.1]; exact g1.lt _ (getD_memN hk)) (hA rfl _ (Same.refl _))
        intro acc2 H4 hn4 hS4 hacc2
        rw [fil_all, zq6, range_pk] at hacc2
        refine ⟨acc2, _, rfl, .inl ⟨SqL.of hacc2, fun t2 ht2 => ?_⟩⟩
        have s5 := hS4.trans (Same.new ht2 (.tup ((pk hs l).map V.int)))
        have ht2' : upd H4 t2 (.tup ((pk hs l).map V.int)) t2 = some (.tup ((pk hs l).map V.int)) := zq1
        generalize upd H4 t2 (.tup ((pk hs l).map V.int)) = H5 at s5 ht2' ⊢
        refine ⟨t1, t2, pk cs l, pk hs l, l.idxOf i, rfl, SqT.of (s5 _ _ ht1'), SqT.of ht2', pk_ok hcs (g := (false, l)) ⟨g1.lt, hlen⟩, hsOk_pk hcs hn g1.lt, by rw [pk_len]; exact hlt, fun H6 s6 => ?_⟩
        exact q H6 (hS.trans (s3.trans (s5.trans s6)))
    · rw [decide_eq_false hm]
      walk_at "rd"
      refine ⟨hS, fun t ht x hx => ?_, _, _, _, rfl⟩
      by_cases e : t = k
      · subst e
        rw [hk] at hx
        cases hx
        exact hm
      · exact hno t (by omega) x hx
  · rintro σ H1 ⟨hS, hno, y1, y2, y3, rfl⟩
    walk_at "rd"
    have := q H1 hS
    unfold ggu at this
    rw [find_noneG hno] at this
    exact this
theorem ds_law_kinds : DS (zq3 s_law_kinds) ["e", "kinds"] ["e"] ["isinstance", "NoHats", "NoName", "NoGroups", "LineError", "NoAsk", "NoPlan", "ValueError"] := ds_of (by decide +kernel)
theorem ok_kinds70 (B : Bn mg) (ER : ErrT K mg ERN er) (D : Def K mg "_law_kinds" s_law_kinds) : FnH P w K mg base 1 "_law_kinds" ["e"] (spKinds70 er) := by
  refine D.gh ds_law_kinds (fun _ _ _ _ _ _ us hl => match us, hl with | [_], _ => rfl) (fun vs H Q E h => ?_) ?_
  · obtain ⟨a, x, rfl, _⟩ := h; rfl
  intro X S e1 e2 e3 e4 e5 hsc hxe hr hu H vs Q E h
  subst e1 e2 e3 e4 e5
  obtain ⟨a, x, rfl, hx, ha, q⟩ := h
  refine ⟨_, (zq4 (ssv S 1 (kls (zq0 (kcb S 0 (call_isX (names := ERN) (er := er) (y := "NoHats") ER (by decide)) B.isinstance boot_isinstance (zq0 (kv S 0) (zq0 (kcl S 1 ER (by decide)) zq2))) (zq0 (kcb S 0 (call_isX (names := ERN) (er := er) (y := "NoName") ER (by decide)) B.isinstance boot_isinstance (zq0 (kv S 0) (zq0 (kcl S 2 ER (by decide)) zq2))) (zq0 (kcb S 0 (call_isX (names := ERN) (er := er) (y := "NoGroups") ER (by decide)) B.isinstance boot_isinstance (zq0 (kv S 0) (zq0 (kcl S 3 ER (by decide)) zq2))) zq2)))))
      (zq5 (sret (kop (op_catLK (K := X.K) rfl) (kv S 1) (kls (zq0 (kcb S 0 (call_isXT (names := ERN) (er := er) (ys := ["LineError", "NoAsk", "NoPlan"]) (K := X.K) rfl ER (by decide)) B.isinstance boot_isinstance (zq0 (kv S 0) (zq0 (ktp (zq0 (kcl S 4 ER (by decide)) (zq0 (kcl S 5 ER (by decide)) (zq0 (kcl S 6 ER (by decide)) zq2)))) zq2))) (zq0 (knot (kcb S 0 (call_isXV (names := ERN) (er := er) ER) B.isinstance boot_isinstance (zq0 (kv S 0) (zq0 (kty S 7 B.ValueError boot_ValueError) zq2)))) zq2))))))), ?_⟩
  walk_at "rd"
  refine ⟨a, x, none, rfl, hx, ha, trivial, a, x, none, rfl, hx, ha, trivial, a, x, none, rfl, hx, ha, trivial, ?_⟩
  walk_at "rd"
  refine ⟨by decide, fun p hp => ⟨by decide, fun t ht => ?_⟩⟩
  have sp := Same.new hp (.lst [.bl (isaE x "NoHats"), .bl (isaE x "NoName"), .bl (isaE x "NoGroups")])
  have hp1 : upd H p (.lst [.bl (isaE x "NoHats"), .bl (isaE x "NoName"), .bl (isaE x "NoGroups")]) p = some (.lst [.bl (isaE x "NoHats"), .bl (isaE x "NoName"), .bl (isaE x "NoGroups")]) := zq1
  have st := Same.new ht (.tup [.ref (er "LineError"), .ref (er "NoAsk"), .ref (er "NoPlan")])
  have ht1 : SqT X.K (upd (upd H p (.lst [.bl (isaE x "NoHats"), .bl (isaE x "NoName"), .bl (isaE x "NoGroups")])) t (.tup [.ref (er "LineError"), .ref (er "NoAsk"), .ref (er "NoPlan")])) t ((["LineError", "NoAsk", "NoPlan"] : List Str).map fun y => .ref (er y)) := SqT.of zq1
  refine ⟨a, t, x, none, rfl, ht1, hx, (sp.trans st) _ _ ha, trivial, a, x, none, rfl, hx, (sp.trans st) _ _ ha, trivial, ?_⟩
  walk_at "rd"
  refine ⟨by decide, fun u hu1 => ?_⟩
  have su := Same.new hu1 (.lst [.bl ((["LineError", "NoAsk", "NoPlan"] : List Str).any fun y => isaE x y), .bl false])
  refine ⟨p, u, _, _, rfl, rfl, SqL.of (su _ _ (st _ _ hp1)), SqL.of zq1, by show 5 <= _; decide, fun l hl => ?_⟩
  have sl := Same.new hl (.lst ((kinds70 x).map V.bl))
  exact q l _ (sp.trans (st.trans (su.trans sl))) zq1 ((sp.trans (st.trans su)).free hl)
theorem ds_law_done : DS (zq3 s_law_done) ["hall", "i", "colours", "kinds", "found", "e"] ["hall", "i", "colours"] ["HatError", "_law_kinds"] := ds_of (by decide +kernel)
theorem ok_done70 (B : Bn mg) (ER : ErrT K mg ERN er) (T_Hall : ClsT K mg "Hall" cHall ["counts", "groups", "worn"]) (D : Def K mg "_law_done" s_law_done) (F_law_kinds : FnH P w K mg base 1 "_law_kinds" ["e"] (spKinds70 er)) (F_Hall_put_all : FnM P w K mg base 2 cHall "put_all" ["self", "hats"] (spPutAll K cHall er)) (F_Hall_put : FnM P w K mg base 3 cHall "put" ["self", "i", "colour"] (spHPut K cHall er)) : Fn P w K mg base 4 "_law_done" ["hall", "i", "colours"] (spDone70 K cHall er) := by
  refine D.gz ds_law_done (fun _ _ _ _ _ _ us hl => match us, hl with | [_, _, _], _ => rfl) (fun vs H Q E h => ?_) ?_
  · obtain ⟨a, c, g, cs, hs0, us, _, _, _, ⟨hb, hs, rfl, _⟩ | ⟨i, col, rfl, _⟩⟩ := h <;> rfl
  intro X S e1 e2 e3 e4 e5 hc hsc hown hex hxe hr hu H vs Q E h
  subst e1 e2 e3 e4 e5
  obtain ⟨a, c, g, cs, hs0, us, hA, hl0, h90, way⟩ := h
  refine ⟨_, (zq4 (ssv S 3 (kls zq2))
      (zq4 (ssv S 4 knon)
      (zq4 (stryH (names := ERN) (er := er) S 0 5 hxe hc hown hex ER (by decide) (xs_one (xif hxe (tcmp op_isNK (kv S 1) knon (zq9 _)) (xs_one (xset S 4 (kmx hxe T_Hall F_Hall_put_all hr (kv S 0) (zq0 (kv S 2) zq2)))) (xs_one (xset S 4 (kmx hxe T_Hall F_Hall_put hr (kv S 0) (zq0 (kv S 1) (zq0 (kv S 2) zq2)))))))
      (fun a S4 => (zq5 (ssv S4 3 (kfh S4 1 F_law_kinds (RoomH.held hr) (zq0 (kv S4 5) zq2))))) (by rw [hsc]; decide +kernel))
      (zq4 (sif (tcmp op_notNK (kv S 4) knon (zq9 _)) (zq5 (sret (kls (zq0 kbl zq2)))) zz0)
      (zq5 (sret (kv S 3))))))), ?_⟩
  obtain ⟨dx, n, ha, hn⟩ := hA.ex
  have err : ∀ (x : Str) (p : Addr) (H2 : Hp), x ∈ ERN70 -> Same H H2 -> (∀ l H', Same H H' -> H' l = some (.lst ((kinds70 x).map V.bl)) -> H l = none -> Q (.ref l) H') -> ∀ e, H2 e = none -> spKinds70 er [.ref e] (upd H2 e (errH e (er x) none)) (fun v H1 => Q v H1) E0 := fun x p H2 hx s2 qe e he => by
    have se := Same.new he (errH e (er x) none)
    exact ⟨e, x, rfl, hx, zq1, fun l H3 s3 hl hl0 => qe l H3 (s2.trans (se.trans s3)) hl ((s2.trans se).free hl0)⟩
  rcases way with ⟨hb, hs, rfl, hh, qE, q⟩ | ⟨i, col, rfl, qN, qE, q⟩
  · walk_at "rd"
    refine ⟨by decide, fun p hp => ?_⟩
    have sp := Same.new hp (.lst [])
    have hp1 : upd H p (.lst []) p = some (.lst []) := zq1
    have hpa : p ≠ a := (zj0 ha hp).symm
    refine ⟨a, dx, _, rfl, sp _ _ ha, hf_no, a, hb, c, g, cs, hs0, hs, us, rfl, hA.mono sp, sp.seqT hh, h90, fun hB H2 s2 => ?_, fun hB H2 o2 hA2 => ?_⟩
    · exact ⟨"NoHats", by decide, rfl, by decide, fun e he => err _ p H2 (by decide) (sp.trans s2) (qE hB) e he⟩
    · walk_at "rd"
      exact q hB p H2 (sp.offTo.trans o2) hA2 (o2 _ _ hpa hp1) hp
  · walk_at "rd"
    refine ⟨by decide, fun p hp => ?_⟩
    have sp := Same.new hp (.lst [])
    have hp1 : upd H p (.lst []) p = some (.lst []) := zq1
    have hpa : p ≠ a := (zj0 ha hp).symm
    refine ⟨a, dx, _, rfl, sp _ _ ha, hf_no, a, c, g, cs, hs0, us, i, col, rfl, hA.mono sp, hl0, h90, fun hB H2 s2 => ?_, fun hi hB H2 s2 => ?_, fun hi hB H2 o2 hA2 => ?_⟩
    · exact ⟨"NoName", by decide, rfl, by decide, fun e he => err _ p H2 (by decide) (sp.trans s2) (qN hB) e he⟩
    · exact ⟨"NoHats", by decide, rfl, by decide, fun e he => err _ p H2 (by decide) (sp.trans s2) (qE hi hB) e he⟩
    · walk_at "rd"
      exact q hi hB p H2 (sp.offTo.trans o2) hA2 (o2 _ _ hpa hp1) hp
theorem ds_law_colour : DS (zq3 s_law_colour) ["cell", "k", "count", "some"] ["cell", "k", "count"] ["_law_draw"] := ds_of (by decide +kernel)
theorem ok_colour70 (B : Bn mg) (D : Def K mg "_law_colour" s_law_colour) (F_law_draw : Fn P w K mg base 1 "_law_draw" ["cell", "k"] spDraw) : Fn P w K mg base 2 "_law_colour" ["cell", "k", "count"] spColour70 := by
  refine D.gq ds_law_colour (fun _ _ _ _ _ _ us hl => match us, hl with | [_, _, _], _ => rfl) (fun vs H Q E h => ?_) ?_
  · obtain ⟨cell, k, count, rfl, _⟩ := h; rfl
  intro X S e1 e2 e3 e4 e5 hc hsc hxe hr hu H vs Q E h
  subst e1 e2 e3 e4 e5
  obtain ⟨cell, k, count, rfl, hk0, hk1, hcount, q⟩ := h
  refine ⟨_, (zq4 (ssv S 3 (kls (zq0 (kop op_mod (kff S 0 F_law_draw hr (zq0 (kv S 0) (zq0 (kv S 1) zq2))) (kv S 2)) (zq0 (kop op_mod (kop op_add (kv S 0) (kff S 0 F_law_draw hr (zq0 (kv S 0) (zq0 (kv S 1) zq2)))) (kv S 2)) (zq0 (kop op_sub (kv S 2) kint) (zq0 kint zq2))))))
      (zq5 (sret (kix (zq7 (K := X.K) rfl) (kv S 3) (kmodc (kff S 0 F_law_draw hr (zq0 (kv S 0) (zq0 (kop op_add (kv S 1) kint) zq2)))) (fun _ _ => rfl))))), ?_⟩
  walk_at "rd"
  refine zj6 ⟨by omega, by omega⟩ fun d1 _ => ?_
  walk_at "rd"
  refine ⟨by omega, ?_⟩
  refine zj6 ⟨by omega, by omega⟩ fun d2 _ => ?_
  walk_at "rd"
  refine ⟨by omega, by decide, fun p hp => ?_⟩
  have m1 := Int.emod_nonneg (d1 : Int) (show count ≠ 0 by omega)
  have m2 := Int.emod_lt_of_pos (d1 : Int) (show 0 < count by omega)
  have m3 := Int.emod_nonneg (cell + (d2 : Int)) (show count ≠ 0 by omega)
  have m4 := Int.emod_lt_of_pos (cell + (d2 : Int)) (show 0 < count by omega)
  generalize (d1 : Int) % count = v1 at m1 m2 ⊢
  generalize (cell + (d2 : Int)) % count = v2 at m3 m4 ⊢
  have sp := Same.new hp (.lst [.int v1, .int v2, .int (count - 1), .int 0])
  have hp1 : SqL X.K (upd H p (.lst [.int v1, .int v2, .int (count - 1), .int 0])) p (([v1, v2, count - 1, 0] : List Int).map V.int) := SqL.of zq1
  refine zj6 ⟨by omega, by omega⟩ fun d3 _ => ?_
  walk_at "rd"
  refine to_ixL hp1 (by omega) (by show _ < (4 : Int); omega) fun v hv => ?_
  have : 0 <= v /\ v < count := by
    simp only [List.mem_cons, List.not_mem_nil, or_false] at hv
    omega
  exact q v _ sp this.1 this.2
theorem ds_law_wrong_colour : DS (zq3 s_law_wrong_colour) ["cell", "count"] ["cell", "count"] ["_law_draw"] := ds_of (by decide +kernel)
theorem ok_wrong70 (B : Bn mg) (D : Def K mg "_law_wrong_colour" s_law_wrong_colour) (F_law_draw : Fn P w K mg base 1 "_law_draw" ["cell", "k"] spDraw) : Fn P w K mg base 2 "_law_wrong_colour" ["cell", "count"] spWrong70 := by
  refine D.gq ds_law_wrong_colour (fun _ _ _ _ _ _ us hl => match us, hl with | [_, _], _ => rfl) (fun vs H Q E h => ?_) ?_
  · obtain ⟨cell, count, rfl, _⟩ := h; rfl
  intro X S e1 e2 e3 e4 e5 hc hsc hxe hr hu H vs Q E h
  subst e1 e2 e3 e4 e5
  obtain ⟨cell, count, rfl, hcount, q⟩ := h
  refine ⟨_, (zq5 (sret (kix (zq7 (K := X.K) rfl) (kls (zq0 (kv S 1) (zq0 (kun un_neg kint) (zq0 (kop op_add (kop op_add (kv S 1) kint) (kop op_mod (kv S 0) (kpowc (v := 100000000000000000000000000000) cp10_29 pw10_29))) (zq0 (kop op_sub (kop op_sub kint (kop op_mod (kv S 0) (kpowc (v := 100000000000000000000000000000000000000000000000000) cp10_50 pw10_50))) kint) zq2))))) (kmodc (kff S 0 F_law_draw hr (zq0 (kv S 0) (zq0 kint zq2)))) (fun _ _ => rfl)))), ?_⟩
  simp only [q_ret, q_Op, q_lst, q_cons, q_C]
  simp only [L2.start, List.map_cons, List.map_nil, List.length_cons, List.length_nil, List.replicate, List.cons_append, List.nil_append, List.append_nil, q_var0, q_varS]
  walk_at "rd"
  refine ⟨by decide, by decide, by decide, fun p hp => ?_⟩
  have m3 := Int.emod_nonneg cell (show (100000000000000000000000000000 : Int) ≠ 0 by decide)
  have m4 := Int.emod_nonneg cell (show (100000000000000000000000000000000000000000000000000 : Int) ≠ 0 by decide)
  obtain ⟨v1, e1, h1⟩ : ∃ v : Int, count + 1 + cell % 100000000000000000000000000000 = v /\ count < v := ⟨_, rfl, by omega⟩
  obtain ⟨v2, e2, h2⟩ : ∃ v : Int, 0 - cell % 100000000000000000000000000000000000000000000000000 - 1 = v /\ v < 0 := ⟨_, rfl, by omega⟩
  rw [e1, e2]
  clear e1 e2 m3 m4
  have sp := Same.new hp (.lst [.int count, .int (-1), .int v1, .int v2])
  have hp1 : SqL X.K (upd H p (.lst [.int count, .int (-1), .int v1, .int v2])) p (([count, -1, v1, v2] : List Int).map V.int) := SqL.of zq1
  refine zj6 ⟨by omega, by omega⟩ fun d3 _ => ?_
  walk_at "rd"
  refine to_ixL hp1 (by omega) (by show _ < (4 : Int); omega) fun v hv => ?_
  refine q v _ sp fun z => ?_
  simp only [List.mem_cons, List.not_mem_nil, or_false] at hv
  omega
theorem kinds_name : kinds70 "NoName" = [false, true, false, false, false] := by decide
theorem kinds_hats : kinds70 "NoHats" = [true, false, false, false, false] := by decide
def Off2 (a w : Addr) (H H' : Hp) : Prop := ∀ b o, b ≠ a -> b ≠ w -> H b = some o -> H' b = some o
theorem hatsB_bad {cs hs : List Int} {i : Nat} {col : Int} (hi : i < cs.length) (hl : hs.length = cs.length) (hb : ¬ (0 <= col /\ col < cs.getD i 0)) : hatsB cs (hs.set i col) = false := by
  cases h : hatsB cs (hs.set i col) with
  | false => rfl
  | true =>
    unfold hatsB at h
    rw [Bool.and_eq_true, List.all_eq_true] at h
    have := h.2 i (List.mem_range.mpr hi)
    rw [Bool.and_eq_true, decide_eq_true_eq, decide_eq_true_eq, List.getD_eq_getElem?_getD, List.getElem?_set_self (by omega)] at this
    exact absurd this hb
theorem HN_set {cs hs : List Int} {i : Nat} {col : Int} (h : HN cs hs cs.length) (hb : 0 <= col /\ col < cs.getD i 0) : HN cs (hs.set i col) cs.length := by
  refine ⟨by rw [List.length_set]; exact h.1, fun k hk => ?_⟩
  by_cases e : k = i
  · subst e
    rw [List.getD_eq_getElem?_getD, List.getElem?_set_self (by rw [h.1]; exact hk)]
    exact hb
  · rw [List.getD_eq_getElem?_getD, List.getElem?_set_ne (Ne.symm e), <- List.getD_eq_getElem?_getD]
    exact h.2 k hk
def spOne70 (K : Frag) (C : Addr) : Sp := fun vs H Q _ => ∃ (a c g w : Addr) (cell : Int) (cs hs : List Int) (us : List V), vs = [.ref a, .int cell, .ref c, .ref w] /\ HallAt K C H a c g cs us hs /\ CsOk cs /\ H w = some (.lst (hs.map V.int)) /\ HN cs hs cs.length /\
  ∀ (hs' : List Int) (H' : Hp), Off2 a w H H' -> HallAt K C H' a c g cs us hs' -> H' w = some (.lst (hs'.map V.int)) -> HN cs hs' cs.length -> Q (.bl true) H'
theorem ds_law_put_one : DS (zq3 s_law_put_one) ["hall", "cell", "counts", "worn", "many", "nobody", "due", "i"] ["hall", "cell", "counts", "worn"] ["len", "_law_draw", "_law_done", "_law_wrong_colour", "_law_colour"] := ds_of (by decide +kernel)
theorem ok_putOne70 (B : Bn mg) (D : Def K mg "_law_put_one" s_law_put_one) (F_law_draw : Fn P w K mg base 1 "_law_draw" ["cell", "k"] spDraw) (F_law_done : Fn P w K mg base 4 "_law_done" ["hall", "i", "colours"] (spDone70 K cHall er)) (F_law_wrong_colour : Fn P w K mg base 2 "_law_wrong_colour" ["cell", "count"] spWrong70) (F_law_colour : Fn P w K mg base 2 "_law_colour" ["cell", "k", "count"] spColour70) : Fn P w K mg base 5 "_law_put_one" ["hall", "cell", "counts", "worn"] (spOne70 K cHall) := by
  refine D.gq ds_law_put_one (fun _ _ _ _ _ _ us hl => match us, hl with | [_, _, _, _], _ => rfl) (fun vs H Q E h => ?_) ?_
  · obtain ⟨a, c, g, w, cell, cs, hs, us, rfl, _⟩ := h; rfl
  intro X S e1 e2 e3 e4 e5 hc hsc hxe hr hu H vs Q E h
  subst e1 e2 e3 e4 e5
  obtain ⟨a, c, g, w, cell, cs, hs, us, rfl, hA, hcs, hw, hn, q⟩ := h
  obtain ⟨dx, n, ha, hnn⟩ := hA.ex
  have h8 := hcs.len
  have hpos := hcs.pos
  have hwa : w ≠ a := fun z => by rw [z, ha] at hw; cases hw
  refine ⟨_, (zq4 (ssv S 4 (kcb S 0 (zj3 (K := X.K) rfl) B.len boot_len (zq0 (kv S 2) zq2)))
      (zq4 (ssv S 5 (kix (zq7 (K := X.K) rfl) (kls (zq0 (kv S 4) (zq0 (kun un_neg kint) (zq0 (kop op_add (kop op_add (kv S 4) kint) (kop op_mod (kv S 1) (kpowc (v := 100000000000000000000000000000000000000000000000000) cp10_50 pw10_50))) (zq0 (kop op_sub (kop op_sub kint (kop op_mod (kv S 1) (kpowc (v := 100000000000000000000000000000000000000000000000000) cp10_50 pw10_50))) kint) zq2))))) (kmodc (kff S 1 F_law_draw hr (zq0 (kv S 1) (zq0 kint zq2)))) (fun _ _ => rfl)))
      (zq4 (sif (wpt (wor (tcmp op_eq (kv S 4) kint (zq9 _)) (wor1 (tcmp op_eq (kmodc (kff S 1 F_law_draw hr (zq0 (kv S 1) (zq0 kint zq2)))) kint (zq9 _))))) (zq4 (ssv S 6 (kls (zq0 kbl (zq0 kbl (zq0 kbl (zq0 kbl (zq0 kbl zq2)))))))
      (zq5 (sret (kcmp (op_eqK hu (K := X.K) rfl) (kff S 2 F_law_done hr (zq0 (kv S 0) (zq0 (kv S 5) (zq0 (kix (zq7 (K := X.K) rfl) (kls (zq0 kint (zq0 (kun un_neg kint) (zq0 (kpowc (v := 10000000000000000000000000000000000000000) cp10_40 pw10_40) zq2)))) (kmodc (kff S 1 F_law_draw hr (zq0 (kv S 1) (zq0 kint zq2)))) (fun _ _ => rfl)) zq2)))) (kv S 6) (zq9 _))))) zz0)
      (zq4 (ssv S 7 (kop op_mod (kff S 1 F_law_draw hr (zq0 (kv S 1) (zq0 kint zq2))) (kv S 4)))
      (zq4 (sif (tcmp op_eq (kmodc (kff S 1 F_law_draw hr (zq0 (kv S 1) (zq0 kint zq2)))) kint (zq9 _)) (zq5 (sret (kcmp (op_eqK hu (K := X.K) rfl) (kff S 2 F_law_done hr (zq0 (kv S 0) (zq0 (kv S 7) (zq0 (kff S 3 F_law_wrong_colour hr (zq0 (kv S 1) (zq0 (kix (zj5 (K := X.K) rfl) (kv S 2) (kv S 7) (fun _ _ => rfl)) zq2))) zq2)))) (kls (zq0 kbl (zq0 kbl (zq0 kbl (zq0 kbl (zq0 kbl zq2)))))) (zq9 _)))) zz0)
      (zq4 (sasg (kff S 4 F_law_colour hr (zq0 (kv S 1) (zq0 kint (zq0 (kix (zj5 (K := X.K) rfl) (kv S 2) (kv S 7) (fun _ _ => rfl)) zq2)))) (gsub (kv S 3) (kv S 7) set_list))
      (zq5 (sret (kcmp (op_eqK hu (K := X.K) rfl) (kff S 2 F_law_done hr (zq0 (kv S 0) (zq0 (kv S 7) (zq0 (kix (zq7 (K := X.K) rfl) (kv S 3) (kv S 7) (fun _ _ => rfl)) zq2)))) (kls zq2) (zq9 _)))))))))), ?_⟩
  rw [q_seq]
  walk_at "rs"
  refine zz7 (.inr hA.cts) ?_
  rw [List.length_map]
  walk_at "rs"
  rw [q_seq]
  simp only [q_asg, q_Op, q_lst, q_cons, q_C]
  simp only [L2.start, List.map_cons, List.map_nil, List.length_cons, List.length_nil, List.replicate, List.cons_append, List.nil_append, List.append_nil, q_var0, q_varS]
  walk_at "rs"
  refine ⟨by decide, by decide, by decide, fun p hp => ?_⟩
  have m4 := Int.emod_nonneg cell (show (100000000000000000000000000000000000000000000000000 : Int) ≠ 0 by decide)
  obtain ⟨v1, e1, h1⟩ : ∃ v : Int, (cs.length : Int) + 1 + cell % 100000000000000000000000000000000000000000000000000 = v /\ (cs.length : Int) < v := ⟨_, rfl, by omega⟩
  obtain ⟨v2, e2, h2⟩ : ∃ v : Int, 0 - cell % 100000000000000000000000000000000000000000000000000 - 1 = v /\ v < 0 := ⟨_, rfl, by omega⟩
  rw [e1, e2]
  clear e1 e2 m4
  have sp := Same.new hp (.lst [.int cs.length, .int (-1), .int v1, .int v2])
  have hp1 : SqL X.K (upd H p (.lst [.int cs.length, .int (-1), .int v1, .int v2])) p (([(cs.length : Int), -1, v1, v2] : List Int).map V.int) := SqL.of zq1
  generalize upd H p (.lst [.int cs.length, .int (-1), .int v1, .int v2]) = H1 at sp hp1 ⊢
  refine zj6 ⟨by omega, by omega⟩ fun d3 _ => ?_
  walk_at "rs"
  refine to_ixL hp1 (by omega) (by show _ < (4 : Int); omega) fun nb hv => ?_
  have hnb : ¬ (0 <= nb /\ nb < (cs.length : Int)) := fun z => by
    simp only [List.mem_cons, List.not_mem_nil, or_false] at hv
    omega
  clear hv
  rw [q_seq]
  walk_at "rs"
  refine ite2 (fun hz => ?_) (fun hz => ?_)
  · skip
    walk_at "rd"
    refine ⟨by decide, fun u hu1 => ⟨by decide, fun v hv1 => ?_⟩⟩
    have su := Same.new hu1 (.lst [.bl false, .bl true, .bl false, .bl false, .bl false])
    have hu2 : upd H1 u (.lst [.bl false, .bl true, .bl false, .bl false, .bl false]) u = some (.lst [.bl false, .bl true, .bl false, .bl false, .bl false]) := zq1
    generalize upd H1 u (.lst [.bl false, .bl true, .bl false, .bl false, .bl false]) = H2 at su hu2 hv1 ⊢
    have sv := Same.new hv1 (.lst [.int 0, .int (-1), .int 10000000000000000000000000000000000000000])
    have hv2 : SqL X.K (upd H2 v (.lst [.int 0, .int (-1), .int 10000000000000000000000000000000000000000])) v (([0, -1, 10000000000000000000000000000000000000000] : List Int).map V.int) := SqL.of zq1
    generalize upd H2 v (.lst [.int 0, .int (-1), .int 10000000000000000000000000000000000000000]) = H3 at sv hv2 ⊢
    refine zj6 ⟨by omega, by omega⟩ fun d5 _ => ?_
    walk_at "rd"
    refine to_ixL hv2 (by omega) (by show _ < (3 : Int); omega) fun col _ => ?_
    have s3 := sp.trans (su.trans sv)
    refine ⟨a, c, g, cs, hs, us, hA.mono s3, hn.1, by omega, .inr ⟨nb, col, rfl, fun _ l H4 s4 hl _ => ?_, fun z => absurd z hnb, fun z => absurd z hnb⟩⟩
    rw [kinds_name] at hl
    refine ⟨_, _, .lst (SqL.of hl) (dt_bls [false, true, false, false, false]), .lst (SqL.of (s4 _ _ (sv _ _ hu2))) (dt_bls [false, true, false, false, false]), by decide, by decide, ?_⟩
    rw [show PyData.eqv (.list ([false, true, false, false, false].map PyData.bool)) (.list ([false, true, false, false, false].map PyData.bool)) = true from by decide]
    exact q hs H4 (fun b o _ _ h => (s3.trans s4) b o h) (hA.mono (s3.trans s4)) ((s3.trans s4) _ _ hw) hn
  refine zj6 ⟨by omega, by omega⟩ fun d4 _ => ?_
  walk_at "rs"
  refine ite2 (fun _ => ?_) (fun _ => ?_)
  · skip
    walk_at "rd"
    refine ⟨by decide, fun u hu1 => ⟨by decide, fun v hv1 => ?_⟩⟩
    have su := Same.new hu1 (.lst [.bl false, .bl true, .bl false, .bl false, .bl false])
    have hu2 : upd H1 u (.lst [.bl false, .bl true, .bl false, .bl false, .bl false]) u = some (.lst [.bl false, .bl true, .bl false, .bl false, .bl false]) := zq1
    generalize upd H1 u (.lst [.bl false, .bl true, .bl false, .bl false, .bl false]) = H2 at su hu2 hv1 ⊢
    have sv := Same.new hv1 (.lst [.int 0, .int (-1), .int 10000000000000000000000000000000000000000])
    have hv2 : SqL X.K (upd H2 v (.lst [.int 0, .int (-1), .int 10000000000000000000000000000000000000000])) v (([0, -1, 10000000000000000000000000000000000000000] : List Int).map V.int) := SqL.of zq1
    generalize upd H2 v (.lst [.int 0, .int (-1), .int 10000000000000000000000000000000000000000]) = H3 at sv hv2 ⊢
    refine zj6 ⟨by omega, by omega⟩ fun d5 _ => ?_
    walk_at "rd"
    refine to_ixL hv2 (by omega) (by show _ < (3 : Int); omega) fun col _ => ?_
    have s3 := sp.trans (su.trans sv)
    refine ⟨a, c, g, cs, hs, us, hA.mono s3, hn.1, by omega, .inr ⟨nb, col, rfl, fun _ l H4 s4 hl _ => ?_, fun z => absurd z hnb, fun z => absurd z hnb⟩⟩
    rw [kinds_name] at hl
    refine ⟨_, _, .lst (SqL.of hl) (dt_bls [false, true, false, false, false]), .lst (SqL.of (s4 _ _ (sv _ _ hu2))) (dt_bls [false, true, false, false, false]), by decide, by decide, ?_⟩
    rw [show PyData.eqv (.list ([false, true, false, false, false].map PyData.bool)) (.list ([false, true, false, false, false].map PyData.bool)) = true from by decide]
    exact q hs H4 (fun b o _ _ h => (s3.trans s4) b o h) (hA.mono (s3.trans s4)) ((s3.trans s4) _ _ hw) hn
  walk_at "rd"
  refine zj6 ⟨by omega, by omega⟩ fun d6 _ => ?_
  walk_at "rd"
  refine ⟨by omega, ?_⟩
  rw [natmod]
  have hlt := Nat.mod_lt d6 (show cs.length > 0 by omega)
  generalize d6 % cs.length = i at hlt ⊢
  have hci := hpos _ (KM.getD_mem hlt)
  refine zj6 ⟨by omega, by omega⟩ fun d7 _ => ?_
  walk_at "rd"
  refine ite2 (fun _ => ?_) (fun _ => ?_)
  · refine zj9 (sp.seqT hA.cts) rfl hlt ?_
    refine ⟨cell, _, rfl, hci, fun col H2 s2 hbad => ?_⟩
    have hB : hatsB cs (hs.set i col) = false := hatsB_bad hlt hn.1 hbad
    have s3 := sp.trans s2
    refine ⟨a, c, g, cs, hs, us, hA.mono s3, hn.1, by omega, .inr ⟨(i : Int), col, rfl, fun z => absurd ⟨by omega, by omega⟩ z, fun _ _ l H4 s4 hl _ => ?_, fun _ z => ?_⟩⟩
    · rw [kinds_hats] at hl
      refine ⟨by decide, fun u hu1 => ?_⟩
      have su := Same.new hu1 (.lst [.bl true, .bl false, .bl false, .bl false, .bl false])
      refine ⟨_, _, .lst (SqL.of (su _ _ hl)) (dt_bls [true, false, false, false, false]), .lst (SqL.of zq1) (dt_bls [true, false, false, false, false]), by decide, by decide, ?_⟩
      rw [show PyData.eqv (.list ([true, false, false, false, false].map PyData.bool)) (.list ([true, false, false, false, false].map PyData.bool)) = true from by decide]
      have s5 := s3.trans (s4.trans su)
      exact q hs _ (fun b o _ _ h => s5 b o h) (hA.mono s5) (s5 _ _ hw) hn
    · have z' : hatsB cs (hs.set i col) = true := z
      rw [hB] at z'; cases z'
  · refine zj9 (sp.seqT hA.cts) rfl hlt ?_
    refine ⟨cell, 7, _, rfl, by decide, by decide, hci, fun col H2 s2 h0 h1 => ?_⟩
    have s3 := sp.trans s2
    have hw2 := s3 _ _ hw
    have hA2 := hA.mono s3
    have ha2 := s3 _ _ ha
    refine ⟨w, _, _, i, rfl, rfl, hw2, ixN_nat (by rw [List.length_map, hn.1]; exact hlt), ?_⟩
    rw [set_mapI]
    have hn2 := HN_set (i := i) (col := col) hn ⟨h0, h1⟩
    have hl2 : i < (hs.set i col).length := by rw [hn2.1]; exact hlt
    refine to_ixLk (SqL.of zq1) rfl hl2 ?_
    rw [show (hs.set i col).getD i 0 = col by rw [List.getD_eq_getElem?_getD, List.getElem?_set_self (by rw [hn.1]; exact hlt)]; rfl]
    have hA3 : HallAt X.K cHall (upd H2 w (.lst ((hs.set i col).map V.int))) a c g cs us hs := ⟨⟨dx, n, by rw [zj4 (Ne.symm hwa)]; exact ha2, (s3.seqT hnn).updL hw2⟩, hA2.cts.updL hw2, hA2.grp.updL hw2⟩
    have hw3 : upd H2 w (.lst ((hs.set i col).map V.int)) w = some (.lst ((hs.set i col).map V.int)) := zq1
    have o3 : Off2 a w H (upd H2 w (.lst ((hs.set i col).map V.int))) := fun b o _ nb h => by rw [zj4 nb]; exact s3 b o h
    generalize upd H2 w (.lst ((hs.set i col).map V.int)) = H3 at hA3 hw3 o3 ⊢
    refine ⟨a, c, g, cs, hs, us, hA3, hn.1, by omega, .inr ⟨(i : Int), col, rfl, fun z => absurd ⟨by omega, by omega⟩ z, fun _ z => ?_, fun _ _ l H4 o4 hA4 hl _ => ?_⟩⟩
    · have z' : hatsB cs (hs.set i col) = false := z
      rw [hatsB_of hn2] at z'; cases z'
    · refine ⟨by decide, fun u hu1 => ?_⟩
      have su := Same.new hu1 (.lst [])
      refine ⟨_, _, .lst (SqL.of (su _ _ hl)) .nil, .lst (SqL.of zq1) .nil, by decide, by decide, ?_⟩
      rw [show PyData.eqv (.list []) (.list []) = true from by decide]
      exact q (hs.set i col) _ (fun b o n1 n2 h => su _ _ (o4 _ _ n1 (o3 b o n1 n2 h))) (hA4.mono su) (su _ _ (o4 _ _ hwa hw3)) hn2
def InvP70 (H1 : Hp) (a c w hl : Addr) (cell : Int) (cs nw : List Int) (k : Nat) (σ : L2.St) (H : Hp) : Prop := ∃ (ms : List Int) (y : Option V), σ = [some (.ref a), some (.int cell), some (.ref c), some (.ref w), some (.int (cs.length : Int)), some (.ref hl), none, none, none, y] /\ H w = some (.lst (ms.map V.int)) /\ ms.length = cs.length /\ (∀ t, t < k -> ms.getD t 0 = nw.getD t 0) /\ Off w H1 H
def MidP70 (H0 : Hp) (a c w hl : Addr) (cell : Int) (cs nw : List Int) (ok : List Int -> Prop) (σ : L2.St) (H : Hp) : Prop := ∃ (at_ : Nat) (bl : Addr) (bad : List Int) (y : Option V), σ = [some (.ref a), some (.int cell), some (.ref c), some (.ref w), some (.int (cs.length : Int)), some (.ref hl), some (.int (at_ : Int)), y, some (.ref bl), none] /\ Same H0 H /\ H hl = some (.lst (nw.map V.int)) /\ H bl = some (.lst (bad.map V.int)) /\ bad.length <= 50 /\ ok bad
theorem hatsB_len {cs bad : List Int} (h : bad.length ≠ cs.length) : hatsB cs bad = false := by
  unfold hatsB
  rw [decide_eq_false h, Bool.false_and]
theorem hatsB_mid {cs nw : List Int} {i : Nat} {col : Int} (hi : i < cs.length) (hl : nw.length = cs.length) (hb : ¬ (0 <= col /\ col < cs.getD i 0)) : hatsB cs (nw.take i ++ [col] ++ nw.drop (i + 1)) = false := by
  have e : nw.take i ++ [col] ++ nw.drop (i + 1) = nw.set i col := by
    rw [List.set_eq_take_append_cons_drop, if_pos (by omega), List.append_assoc]
    rfl
  rw [e]
  exact hatsB_bad hi hl hb
theorem ds_law_put_all : DS (zq3 s_law_put_all) ["hall", "cell", "counts", "worn", "many", "hats", "at", "some", "bad", "k"] ["hall", "cell", "counts", "worn"] ["len", "range", "_law_draw", "_law_done", "tuple", "_law_wrong_colour"] := ds_of (by decide +kernel)
theorem ok_putAll70 (B : Bn mg) (D : Def K mg "_law_put_all" s_law_put_all) (F_law_draw : Fn P w K mg base 1 "_law_draw" ["cell", "k"] spDraw) (F_law_done : Fn P w K mg base 4 "_law_done" ["hall", "i", "colours"] (spDone70 K cHall er)) (F_law_wrong_colour : Fn P w K mg base 2 "_law_wrong_colour" ["cell", "count"] spWrong70) (F_law_colour : Fn P w K mg base 2 "_law_colour" ["cell", "k", "count"] spColour70) : Fn P w K mg base 5 "_law_put_all" ["hall", "cell", "counts", "worn"] (spOne70 K cHall) := by
  refine D.gq ds_law_put_all (fun _ _ _ _ _ _ us hl => match us, hl with | [_, _, _, _], _ => rfl) (fun vs H Q E h => ?_) ?_
  · obtain ⟨a, c, g, w, cell, cs, hs, us, rfl, _⟩ := h; rfl
  intro X S e1 e2 e3 e4 e5 hc hsc hxe hr hu H vs Q E h
  subst e1 e2 e3 e4 e5
  obtain ⟨a, c, g, w, cell, cs, hs, us, rfl, hA, hcs, hw, hn, q⟩ := h
  obtain ⟨dx, n, ha, hnn⟩ := hA.ex
  have h8 := hcs.len
  have hpos := hcs.pos
  have hwa : w ≠ a := fun z => by rw [z, ha] at hw; cases hw
  refine ⟨_, (zq4 (ssv S 4 (kcb S 0 (zj3 (K := X.K) rfl) B.len boot_len (zq0 (kv S 2) zq2)))
      (zq4 (slc (i := 5) S hc hsc (irg1 S 1 B.range (zq0 (kv S 4) zq2)) (N := ["k", "cell", "counts"]) (W := ["k"]) (G := ["_law_colour"]) (fv := [none, some 1, some 2]) (by decide +kernel) (fun cl C fp s H S2 => ⟨(kg S2 0), if_nil, (kff S2 0 F_law_colour hr (zq0 (kv S2 1) (zq0 (kop op_add kint (kcmul (kv S2 0))) (zq0 (kix (zj5 (K := X.K) rfl) (kv S2 2) (kv S2 0) (fun _ _ => rfl)) zq2))))⟩) (by rw [hsc]; decide +kernel) (by rw [sww_env, hsc]; rfl))
      (zq4 (sif (tcmp op_eq (kmodc (kff S 2 F_law_draw hr (zq0 (kv S 1) (zq0 kint zq2)))) kint (zq9 _)) (zq4 (ssv S 6 (kop op_mod (kff S 2 F_law_draw hr (zq0 (kv S 1) (zq0 kint zq2))) (kop op_add (kv S 4) kint)))
      (zq4 (ssv S 7 (kls (zq0 (kop (op_catLK (K := X.K) rfl) (kop (op_catLK (K := X.K) rfl) (ksl (sl_listK (K := X.K) rfl) (kv S 5) ko_none (zz6 (kv S 6))) (kls (zq0 kint zq2))) (ksl (sl_listK (K := X.K) rfl) (kv S 5) (zz6 (kv S 6)) ko_none)) (zq0 (kop (op_catLK (K := X.K) rfl) (kv S 5) (kls (zq0 kint zq2))) (zq0 (ksl (sl_listK (K := X.K) rfl) (kv S 5) ko_none (zz6 (kun un_neg kint))) (zq0 (ksl (sl_listK (K := X.K) rfl) (kv S 5) ko_none (zz6 (kv S 6))) zq2))))))
      (zq4 (ssv S 8 (kix (zq7 (K := X.K) rfl) (kv S 7) (kmodc (kff S 2 F_law_draw hr (zq0 (kv S 1) (zq0 kint zq2)))) (fun _ _ => rfl)))
      (zq4 (sif (tcmp op_eq (kcb S 0 (zj3 (K := X.K) rfl) B.len boot_len (zq0 (kv S 8) zq2)) (kv S 4) (zq9 _)) (zq5 (ssv S 8 (kop (op_catLK (K := X.K) rfl) (kv S 8) (kls (zq0 kint zq2))))) zz0)
      (zq4 (sif (wpt (wand (tcmp op_gt (kv S 4) kint (zq9 _)) (wand1 (tcmp op_eq (kmodc (kff S 2 F_law_draw hr (zq0 (kv S 1) (zq0 kint zq2)))) kint (zq9 _))))) (zq4 (ssv S 6 (kop op_mod (kv S 6) (kv S 4)))
      (zq5 (ssv S 8 (kop (op_catLK (K := X.K) rfl) (kop (op_catLK (K := X.K) rfl) (ksl (sl_listK (K := X.K) rfl) (kv S 5) ko_none (zz6 (kv S 6))) (kls (zq0 (kff S 5 F_law_wrong_colour hr (zq0 (kv S 1) (zq0 (kix (zj5 (K := X.K) rfl) (kv S 2) (kv S 6) (fun _ _ => rfl)) zq2))) zq2))) (ksl (sl_listK (K := X.K) rfl) (kv S 5) (zz6 (kop op_add (kv S 6) kint)) ko_none))))) zz0)
      (zq5 (sret (kcmp (op_eqK hu (K := X.K) rfl) (kff S 3 F_law_done hr (zq0 (kv S 0) (zq0 knon (zq0 (kct S 4 (call_tupK (K := X.K) rfl) B.tuple boot_tuple (zq0 (kv S 8) zq2)) zq2)))) (kls (zq0 kbl (zq0 kbl (zq0 kbl (zq0 kbl (zq0 kbl zq2)))))) (zq9 _))))))))) zz0)
      (zq4 (sfor hxe hc (irg1 S 1 B.range (zq0 (kv S 4) zq2)) (kg S 9) (zq5 (sasg (kix (zq7 (K := X.K) rfl) (kv S 5) (kv S 9) (fun _ _ => rfl)) (gsub (kv S 3) (kv S 9) set_list))))
      (zq5 (sret (kcmp (op_eqK hu (K := X.K) rfl) (kff S 3 F_law_done hr (zq0 (kv S 0) (zq0 knon (zq0 (kct S 4 (call_tupK (K := X.K) rfl) B.tuple boot_tuple (zq0 (kv S 5) zq2)) zq2)))) (kls zq2) (zq9 _)))))))), ?_⟩
  rw [q_seq]
  walk_at "rs"
  refine zz7 (.inr hA.cts) ?_
  rw [List.length_map]
  walk_at "rs"
  rw [q_seq]
  walk_at "rs"
  refine lcAnyI cs.length rfl (by omega) (fun k x => 0 <= x /\ x < cs.getD k 0) ?_ ?_
  · intro k H1 A hk hS hA'
    walk_at "rd"
    refine zj9 (hS.seqT hA.cts) rfl hk ?_
    exact ⟨cell, _, _, rfl, by omega, by omega, hpos _ (KM.getD_mem hk), fun v H2 s2 h0 h1 => hA' v H2 s2 ⟨h0, h1⟩⟩
  intro hl nw H1 hl0 s1 hl1 hlen hok
  have hn' : HN cs nw cs.length := ⟨hlen, hok⟩
  walk_at "rs"
  rw [q_seq]
  walk_at "rs"
  refine zj6 ⟨by omega, by omega⟩ fun d1 _ => ?_
  walk_at "rs"
  refine ite2 (fun _ => ?_) (fun _ => ?_)
  · have hla : hl ≠ a := fun z => by rw [z, ha] at hl0; cases hl0
    rw [q_seq]
    walk_at "rs"
    refine zj6 ⟨by omega, by omega⟩ fun d2 _ => ?_
    walk_at "rs"
    refine ⟨by omega, ?_⟩
    rw [show (d2 : Int) % ((cs.length : Int) + 1) = ((d2 % (cs.length + 1) : Nat) : Int) from by rw [Int.natCast_emod]; rfl]
    have hat := Nat.mod_lt d2 (show cs.length + 1 > 0 by omega)
    generalize d2 % (cs.length + 1) = at_ at hat ⊢
    rw [q_seq]
    walk_at "rs"
    refine to_slLt at_ (SqL.of hl1) rfl fun p1 hp1 => ?_
    have t1 := Same.new hp1 (.lst ((nw.take at_).map V.int))
    have k1 : upd H1 p1 (.lst ((nw.take at_).map V.int)) p1 = some (.lst ((nw.take at_).map V.int)) := zq1
    generalize upd H1 p1 (.lst ((nw.take at_).map V.int)) = J1 at t1 k1 ⊢
    refine ⟨by decide, fun p2 hp2 => ?_⟩
    have t2 := Same.new hp2 (.lst [.int 0])
    have k2 : upd J1 p2 (.lst [.int 0]) p2 = some (.lst (([0] : List Int).map V.int)) := zq1
    generalize upd J1 p2 (.lst [.int 0]) = J2 at t2 k2 ⊢
    refine to_catL (ns := nw.take at_) (ms := [0]) (SqL.of (t2 _ _ k1)) (SqL.of k2) (small8 (by rw [List.length_take]; show _ + 1 <= 100; omega)) fun p3 hp3 => ?_
    have t3 := Same.new hp3 (.lst ((nw.take at_ ++ [0]).map V.int))
    have k3 : upd J2 p3 (.lst ((nw.take at_ ++ [0]).map V.int)) p3 = some (.lst ((nw.take at_ ++ [0]).map V.int)) := zq1
    generalize upd J2 p3 (.lst ((nw.take at_ ++ [0]).map V.int)) = J3 at t3 k3 ⊢
    have t13 := t1.trans (t2.trans t3)
    refine to_slLd at_ (SqL.of (t13 _ _ hl1)) rfl fun p4 hp4 => ?_
    have t4 := Same.new hp4 (.lst ((nw.drop at_).map V.int))
    have k4 : upd J3 p4 (.lst ((nw.drop at_).map V.int)) p4 = some (.lst ((nw.drop at_).map V.int)) := zq1
    generalize upd J3 p4 (.lst ((nw.drop at_).map V.int)) = J4 at t4 k4 ⊢
    refine to_catL (ns := nw.take at_ ++ [0]) (ms := nw.drop at_) (SqL.of (t4 _ _ k3)) (SqL.of k4) (small8 (by rw [List.length_append, List.length_take, List.length_drop]; show _ + 1 + _ <= 100; omega)) fun p5 hp5 => ?_
    have e5 : (nw.take at_ ++ [0] ++ nw.drop at_).length <= 40 := by rw [List.length_append, List.length_append, List.length_take, List.length_drop]; show _ + 1 + _ <= 40; omega
    generalize nw.take at_ ++ [0] ++ nw.drop at_ = b1 at e5 ⊢
    have t5 := Same.new hp5 (.lst (b1.map V.int))
    have k5 : upd J4 p5 (.lst (b1.map V.int)) p5 = some (.lst (b1.map V.int)) := zq1
    generalize upd J4 p5 (.lst (b1.map V.int)) = J5 at t5 k5 ⊢
    refine ⟨by decide, fun p6 hp6 => ?_⟩
    have t6 := Same.new hp6 (.lst [.int 1])
    have k6 : upd J5 p6 (.lst [.int 1]) p6 = some (.lst (([1] : List Int).map V.int)) := zq1
    generalize upd J5 p6 (.lst [.int 1]) = J6 at t6 k6 ⊢
    have t16 := t13.trans (t4.trans (t5.trans t6))
    refine to_catL (ns := nw) (ms := [1]) (SqL.of (t16 _ _ hl1)) (SqL.of k6) (small8 (by show _ + 1 <= 100; omega)) fun p7 hp7 => ?_
    have e7 : (nw ++ [1]).length <= 40 := by rw [List.length_append]; show _ + 1 <= 40; omega
    generalize nw ++ [1] = b2 at e7 ⊢
    have t7 := Same.new hp7 (.lst (b2.map V.int))
    have k7 : upd J6 p7 (.lst (b2.map V.int)) p7 = some (.lst (b2.map V.int)) := zq1
    generalize upd J6 p7 (.lst (b2.map V.int)) = J7 at t7 k7 ⊢
    have t17 := t16.trans t7
    refine ⟨hl, _, rfl, SqL.of (t17 _ _ hl1), fun p8 hp8 => ?_⟩
    obtain ⟨b3, eb3, e8⟩ := cut_ints (ns := nw) (lo := none) (hi := some (-1))
    rw [eb3]
    have t8 := Same.new hp8 (.lst (b3.map V.int))
    have k8 : upd J7 p8 (.lst (b3.map V.int)) p8 = some (.lst (b3.map V.int)) := zq1
    generalize upd J7 p8 (.lst (b3.map V.int)) = J8 at t8 k8 ⊢
    have t18 := t17.trans t8
    refine to_slLt at_ (SqL.of (t18 _ _ hl1)) rfl fun p9 hp9 => ?_
    have t9 := Same.new hp9 (.lst ((nw.take at_).map V.int))
    have k9 : upd J8 p9 (.lst ((nw.take at_).map V.int)) p9 = some (.lst ((nw.take at_).map V.int)) := zq1
    generalize upd J8 p9 (.lst ((nw.take at_).map V.int)) = J9 at t9 k9 ⊢
    refine ⟨by decide, fun sm hsm => ?_⟩
    have t10 := Same.new hsm (.lst [.ref p5, .ref p7, .ref p8, .ref p9])
    have k10 : upd J9 sm (.lst [.ref p5, .ref p7, .ref p8, .ref p9]) sm = some (.lst [.ref p5, .ref p7, .ref p8, .ref p9]) := zq1
    generalize upd J9 sm (.lst [.ref p5, .ref p7, .ref p8, .ref p9]) = JA at t10 k10 ⊢
    have tA := t18.trans (t9.trans t10)
    have r5 := (t6.trans (t7.trans (t8.trans (t9.trans t10)))) _ _ k5
    have r7 := (t8.trans (t9.trans t10)) _ _ k7
    have r8 := (t9.trans t10) _ _ k8
    have r9 := t10 _ _ k9
    have hlA := tA _ _ hl1
    have sA := s1.trans tA
    clear k1 k2 k3 k4 k5 k6 k7 k8 k9 hp1 hp2 hp3 hp4 hp5 hp6 hp7 hp8 hp9 t1 t2 t3 t4 t5 t6 t7 t8 t9 t10 t13 t16 t17 t18
    refine seqJ (MidP70 H a c w hl cell cs nw fun _ => True) (fun σ J h => ?_) (fun R hR => ?_)
    rotate_left
    · walk_at "rs"
      refine zj6 ⟨by omega, by omega⟩ fun d3 _ => ?_
      walk_at "rs"
      have hj : (d3 : Int) % 4 = 0 ∨ (d3 : Int) % 4 = 1 ∨ (d3 : Int) % 4 = 2 ∨ (d3 : Int) % 4 = 3 := by omega
      rcases hj with z | z | z | z <;> rw [z]
      · exact zj1 (SqL.of k10) (v := .ref p5) rfl (hR _ _ ⟨at_, p5, b1, _, rfl, sA, hlA, r5, by omega, trivial⟩)
      · exact zj1 (SqL.of k10) (v := .ref p7) rfl (hR _ _ ⟨at_, p7, b2, _, rfl, sA, hlA, r7, by omega, trivial⟩)
      · exact zj1 (SqL.of k10) (v := .ref p8) rfl (hR _ _ ⟨at_, p8, b3, _, rfl, sA, hlA, r8, by omega, trivial⟩)
      · exact zj1 (SqL.of k10) (v := .ref p9) rfl (hR _ _ ⟨at_, p9, nw.take at_, _, rfl, sA, hlA, r9, by rw [List.length_take]; omega, trivial⟩)
    clear r5 r7 r8 r9 hlA sA tA k10 hat
    obtain ⟨at_, bl, bad, y, rfl, s3, hl3, hb3, hbl, _⟩ := h
    refine seqJ (MidP70 H a c w hl cell cs nw fun b => b.length ≠ cs.length) (fun σ J h => ?_) (fun R hR => ?_)
    rotate_left
    · walk_at "rs"
      refine zz7 (.inl (SqL.of hb3)) ?_
      rw [List.length_map]
      walk_at "rs"
      refine ite2 (fun z => ?_) (fun z => hR _ _ ⟨at_, bl, bad, _, rfl, s3, hl3, hb3, hbl, by omega⟩)
      walk_at "rd"
      refine ⟨by decide, fun u hu1 => ?_⟩
      have tu := Same.new hu1 (.lst [.int 0])
      refine to_catL (ns := bad) (ms := [0]) (SqL.of (tu _ _ hb3)) (SqL.of zq1) (small8 (by show _ + 1 <= 100; omega)) fun p hp => ?_
      have tp := Same.new hp (.lst ((bad ++ [0]).map V.int))
      exact hR _ _ ⟨at_, p, bad ++ [0], _, rfl, s3.trans (tu.trans tp), (tu.trans tp) _ _ hl3, zq1, by rw [List.length_append]; show _ + 1 <= 50; omega, by show (bad ++ [0]).length ≠ cs.length; rw [List.length_append]; show _ + 1 ≠ _; omega⟩
    clear s3 hl3 hb3 hbl
    obtain ⟨at_, bl, bad, y, rfl, s3, hl3, hb3, hbl, hne⟩ := h
    refine seqJ (MidP70 H a c w hl cell cs nw fun b => hatsB cs b = false) (fun σ J h => ?_) (fun R hR => ?_)
    rotate_left
    · have stay := hR _ _ ⟨at_, bl, bad, y, rfl, s3, hl3, hb3, hbl, hatsB_len hne⟩
      walk_at "rd"
      refine ite2 (fun hm => ?_) (fun _ => stay)
      refine zj6 ⟨by omega, by omega⟩ fun d4 _ => ?_
      walk_at "rd"
      refine ite2 (fun _ => ?_) (fun _ => stay)
      refine ⟨by omega, ?_⟩
      rw [natmod]
      have hlt := Nat.mod_lt at_ (show cs.length > 0 by omega)
      clear stay
      generalize at_ % cs.length = i at hlt ⊢
      refine to_slLt i (SqL.of hl3) rfl fun p1 hp1 => ?_
      have t1 := Same.new hp1 (.lst ((nw.take i).map V.int))
      have k1 : upd J p1 (.lst ((nw.take i).map V.int)) p1 = some (.lst ((nw.take i).map V.int)) := zq1
      generalize upd J p1 (.lst ((nw.take i).map V.int)) = J1 at t1 k1 ⊢
      refine zj9 ((s3.trans t1).seqT hA.cts) rfl hlt ?_
      refine ⟨cell, _, rfl, hpos _ (KM.getD_mem hlt), fun col J2 t2 hbad => ?_⟩
      refine ⟨by decide, fun p3 hp3 => ?_⟩
      have t3 := Same.new hp3 (.lst [.int col])
      have k3 : upd J2 p3 (.lst [.int col]) p3 = some (.lst (([col] : List Int).map V.int)) := zq1
      generalize upd J2 p3 (.lst [.int col]) = J3 at t3 k3 ⊢
      refine to_catL (ns := nw.take i) (ms := [col]) (SqL.of ((t2.trans t3) _ _ k1)) (SqL.of k3) (small8 (by rw [List.length_take]; show _ + 1 <= 100; omega)) fun p4 hp4 => ?_
      have t4 := Same.new hp4 (.lst ((nw.take i ++ [col]).map V.int))
      have k4 : upd J3 p4 (.lst ((nw.take i ++ [col]).map V.int)) p4 = some (.lst ((nw.take i ++ [col]).map V.int)) := zq1
      generalize upd J3 p4 (.lst ((nw.take i ++ [col]).map V.int)) = J4 at t4 k4 ⊢
      have t14 := t1.trans (t2.trans (t3.trans t4))
      refine to_slLd (i + 1) (SqL.of (t14 _ _ hl3)) (by rw [Int.natCast_add]; rfl) fun p5 hp5 => ?_
      have t5 := Same.new hp5 (.lst ((nw.drop (i + 1)).map V.int))
      have k5 : upd J4 p5 (.lst ((nw.drop (i + 1)).map V.int)) p5 = some (.lst ((nw.drop (i + 1)).map V.int)) := zq1
      generalize upd J4 p5 (.lst ((nw.drop (i + 1)).map V.int)) = J5 at t5 k5 ⊢
      refine to_catL (ns := nw.take i ++ [col]) (ms := nw.drop (i + 1)) (SqL.of (t5 _ _ k4)) (SqL.of k5) (small8 (by rw [List.length_append, List.length_take, List.length_drop]; show _ + 1 + _ <= 100; omega)) fun p6 hp6 => ?_
      have t6 := Same.new hp6 (.lst ((nw.take i ++ [col] ++ nw.drop (i + 1)).map V.int))
      have t16 := t14.trans (t5.trans t6)
      exact hR _ _ ⟨i, p6, nw.take i ++ [col] ++ nw.drop (i + 1), _, rfl, s3.trans t16, t16 _ _ hl3, zq1, by rw [List.length_append, List.length_append, List.length_take, List.length_drop]; show _ + 1 + _ <= 50; omega, hatsB_mid hlt hlen hbad⟩
    clear s3 hl3 hb3 hbl hne
    obtain ⟨at_, bl, bad, y, rfl, s3, hl3, hb3, hbl, hB⟩ := h
    walk_at "rd"
    refine ⟨bl, _, rfl, .inl ⟨SqL.of hb3, fun t ht => ?_⟩⟩
    have tt := Same.new ht (.tup (bad.map V.int))
    have s4 := s3.trans tt
    refine ⟨a, c, g, cs, hs, us, hA.mono s4, hn.1, by omega, .inl ⟨t, bad, rfl, SqT.of zq1, fun _ l H4 s5 hl5 _ => ?_, fun z => ?_⟩⟩
    · rw [kinds_hats] at hl5
      refine ⟨by decide, fun u hu1 => ?_⟩
      have su := Same.new hu1 (.lst [.bl true, .bl false, .bl false, .bl false, .bl false])
      refine ⟨_, _, .lst (SqL.of (su _ _ hl5)) (dt_bls [true, false, false, false, false]), .lst (SqL.of zq1) (dt_bls [true, false, false, false, false]), by decide, by decide, ?_⟩
      rw [show PyData.eqv (.list ([true, false, false, false, false].map PyData.bool)) (.list ([true, false, false, false, false].map PyData.bool)) = true from by decide]
      have s6 := s4.trans (s5.trans su)
      exact q hs _ (fun b o _ _ h => s6 b o h) (hA.mono s6) (s6 _ _ hw) hn
    · rw [hB] at z; cases z
  · walk_at "rd"
    have hlw : hl ≠ w := fun z => by rw [z, hw] at hl0; cases hl0
    refine forR cs.length (InvP70 H1 a c w hl cell cs nw) rfl (by omega) ⟨hs, _, rfl, s1 _ _ hw, hn.1, (fun t z => absurd z (Nat.not_lt_zero t)), fun b o _ h => h⟩ ?_ ?_
    · rintro k σ H2 hk ⟨ms, y, rfl, hw2, hml, hms, o2⟩
      walk_at "rd"
      refine to_ixLk (SqL.of (o2 _ _ hlw hl1)) rfl (by rw [hlen]; exact hk) ?_
      refine ⟨w, _, _, k, rfl, rfl, hw2, ixN_nat (by rw [List.length_map, hml]; exact hk), ?_⟩
      rw [set_mapI]
      refine ⟨ms.set k (nw.getD k 0), _, rfl, zq1, by rw [List.length_set]; exact hml, fun t ht => ?_, fun b o nb h => by rw [zj4 nb]; exact o2 b o nb h⟩
      by_cases e : t = k
      · subst e
        rw [List.getD_eq_getElem?_getD, List.getElem?_set_self (by rw [hml]; exact hk)]
        rfl
      · rw [List.getD_eq_getElem?_getD, List.getElem?_set_ne (Ne.symm e), <- List.getD_eq_getElem?_getD]
        exact hms t (by omega)
    · rintro σ H2 ⟨ms, y, rfl, hw2, hml, hms, o2⟩
      have e : ms = nw := by
        apply List.ext_getElem (by rw [hml, hlen])
        intro t h1 h2
        have := hms t (by omega)
        rw [List.getD_eq_getElem?_getD, List.getElem?_eq_getElem h1, List.getD_eq_getElem?_getD, List.getElem?_eq_getElem h2] at this
        exact this
      subst e
      walk_at "rd"
      have hl2 := o2 _ _ hlw hl1
      refine ⟨hl, _, rfl, .inl ⟨SqL.of hl2, fun t ht => ?_⟩⟩
      have tt := Same.new ht (.tup (ms.map V.int))
      have hw1 := s1 _ _ hw
      have hA1 := hA.mono s1
      have hA2 : HallAt X.K cHall H2 a c g cs us hs := ⟨⟨dx, n, o2 _ _ (Ne.symm hwa) (s1 _ _ ha), SqT.off o2 hw1 (s1.seqT hnn)⟩, SqT.off o2 hw1 hA1.cts, SqT.off o2 hw1 hA1.grp⟩
      refine ⟨a, c, g, cs, hs, us, hA2.mono tt, hn.1, by omega, .inl ⟨t, ms, rfl, SqT.of zq1, fun z => ?_, fun _ l H4 o4 hA4 hl4 _ => ?_⟩⟩
      · rw [hatsB_of hn'] at z; cases z
      refine ⟨by decide, fun u hu1 => ?_⟩
      have su := Same.new hu1 (.lst [])
      refine ⟨_, _, .lst (SqL.of (su _ _ hl4)) .nil, .lst (SqL.of zq1) .nil, by decide, by decide, ?_⟩
      rw [show PyData.eqv (.list []) (.list []) = true from by decide]
      exact q ms _ (fun b o n1 n2 h => su _ _ (o4 _ _ n1 (tt _ _ (o2 _ _ n2 (s1 b o h))))) (hA4.mono su) (su _ _ (o4 _ _ hwa (tt _ _ hw2))) hn'
def spHats70 (K : Frag) (C : Addr) : Sp := fun vs H Q _ => ∃ (a c g : Addr) (cs hs : List Int) (us : List V), vs = [.ref a] /\ HallAt K C H a c g cs us hs /\ ∀ n, SqT K H n (hs.map V.int) -> Q (.ref n) H
theorem ds_Hall_hats : DS (zq3 s_Hall_hats) ["self"] ["self"] [] := ds_of (by decide +kernel)
theorem ok_hHats (B : Bn mg) (T_Hall : ClsT K mg "Hall" cHall ["counts", "groups", "worn"]) (D : MDef K cHall "hats" "Hall.hats" s_Hall_hats) : FnM P w K mg base 1 cHall "hats" ["self"] (spHats70 K cHall) := by
  refine D.gq ds_Hall_hats (fun _ _ _ _ _ _ us hl => match us, hl with | [_], _ => rfl) (fun vs H Q E h => ?_) ?_
  · obtain ⟨a, c, g, cs, hs, us, rfl, _⟩ := h; rfl
  intro X S e1 e2 e3 e4 e5 hc hsc hxe hr hu H vs Q E h
  subst e1 e2 e3 e4 e5
  obtain ⟨a, c, g, cs, hs, us, rfl, hA, q⟩ := h
  obtain ⟨dx, n, ha, hn⟩ := hA.ex
  refine ⟨_, (zq5 (sret (kfl T_Hall (kv S 0)))), ?_⟩
  walk_at "rd"
  exact ⟨a, dx, _, _, rfl, ha, hf_worn, q n hn⟩
def spRight70 (K : Frag) (C : Addr) : Sp := fun vs H Q _ => ∃ (a c g : Addr) (cs hs : List Int) (ws : List Nat) (us : List V) (L : List (Bool × List Nat)), vs = [.ref a] /\ HallAt K C H a c g cs us hs /\ GF K H us L /\ CsOk cs /\ HN cs hs cs.length /\ GsOk cs ws L /\ ∀ (l : Addr) (H' : Hp), Same H H' -> H l = none -> H' l = some (.lst ((asI (rights71 cs hs L)).map V.int)) -> Q (.ref l) H'
theorem ds_Hall_right : DS (zq3 s_Hall_right) ["self"] ["self"] ["enumerate"] := ds_of (by decide +kernel)
theorem ok_hRight (B : Bn mg) (T_Hall : ClsT K mg "Hall" cHall ["counts", "groups", "worn"]) (D : MDef K cHall "right" "Hall.right" s_Hall_right) (F_Hall_guess : FnM P w K mg base 4 cHall "guess" ["self", "i"] (spHGuess K cHall)) : FnM P w K mg base 5 cHall "right" ["self"] (spRight70 K cHall) := by
  refine D.gq ds_Hall_right (fun _ _ _ _ _ _ us hl => match us, hl with | [_], _ => rfl) (fun vs H Q E h => ?_) ?_
  · obtain ⟨a, c, g, cs, hs, ws, us, L, rfl, _⟩ := h; rfl
  intro X S e1 e2 e3 e4 e5 hc hsc hxe hr hu H vs Q E h
  subst e1 e2 e3 e4 e5
  obtain ⟨a, c, g, cs, hs, ws, us, L, rfl, hA, hL, hcs, hN, hG, q⟩ := h
  obtain ⟨dx, n, ha, hn⟩ := hA.ex
  refine ⟨_, (zq5 (sret (klc S hc hsc (ienT S 0 B.enumerate (K := X.K) rfl (zq0 (kfl T_Hall (kv S 0)) zq2)) (N := ["i", "colour", "self"]) (W := ["i", "colour"]) (G := []) (fv := [none, none, some 0]) (by decide +kernel) (fun cl C fp s H S2 => ⟨(gtup rfl (K := X.K) (n := 2) rfl (zz3 (kg S2 0) (zz3 (kg S2 1) gs_nil))), (if_one (tcmp op_eq (kmt T_Hall F_Hall_guess passE hr (kv S2 2) (zq0 (kv S2 0) zq2)) (kv S2 1) (zq9 _))), (kv S2 0)⟩)))), ?_⟩
  walk_at "rd"
  refine ⟨a, dx, _, _, rfl, ha, hf_worn, ?_⟩
  refine lcEn (fun i => decide (ggu cs L hs i = hs.getD i 0)) (fun i => (i : Int)) hn (by rw [hN.1]; exact zj7 (by have := hcs.len; omega)) ?_ ?_
  · intro i H1 A B' hi hS hA' hB
    rw [hN.1] at hi
    walk_at "rd"
    refine ⟨a, dx, _, rfl, hS _ _ ha, hf_no, a, c, g, cs, hs, ws, us, L, i, rfl, hA.mono hS, hL.mono hS, hcs, hN, hG, hi, fun H2 s2 => ?_⟩
    walk_at "rd"
    by_cases e : ggu cs L hs i = hs.getD i 0
    · rw [if_pos e]
      exact hA' (decide_eq_true e) H2 s2
    · rw [if_neg e]
      exact hB (decide_eq_false e) H2 s2
  · intro acc H1 h0 s1 hacc
    rw [hN.1] at hacc
    exact q acc H1 s1 h0 hacc
theorem ds_law_hats_right : DS (zq3 s_law_hats_right) ["hall", "worn", "found"] ["hall", "worn"] ["isinstance", "tuple"] := ds_of (by decide +kernel)
theorem ok_hatsRight70 (B : Bn mg) (T_Hall : ClsT K mg "Hall" cHall ["counts", "groups", "worn"]) (D : Def K mg "_law_hats_right" s_law_hats_right) (F_Hall_hats : FnM P w K mg base 1 cHall "hats" ["self"] (spHats70 K cHall)) : Fn P w K mg base 2 "_law_hats_right" ["hall", "worn"] (fun vs H Q _ => ∃ (a c g w : Addr) (cs hs : List Int) (us : List V), vs = [.ref a, .ref w] /\ HallAt K cHall H a c g cs us hs /\ H w = some (.lst (hs.map V.int)) /\ hs.length <= 8 /\ ∀ H', Same H H' -> Q (.bl true) H') := by
  refine D.gq ds_law_hats_right (fun _ _ _ _ _ _ us hl => match us, hl with | [_, _], _ => rfl) (fun vs H Q E h => ?_) ?_
  · obtain ⟨a, c, g, w, cs, hs, us, rfl, _⟩ := h; rfl
  intro X S e1 e2 e3 e4 e5 hc hsc hxe hr hu H vs Q E h
  subst e1 e2 e3 e4 e5
  obtain ⟨a, c, g, w, cs, hs, us, rfl, hA, hw, h8, q⟩ := h
  obtain ⟨dx, n, ha, hn⟩ := hA.ex
  refine ⟨_, (zq4 (ssv S 2 (kmt0 T_Hall F_Hall_hats passE hr (kv S 0)))
      (zq5 (sret (kand (kcb S 0 (call_isiTK (K := X.K) rfl) B.isinstance boot_isinstance (zq0 (kv S 2) (zq0 (kty S 1 B.tuple boot_tuple) zq2))) (kand (kcmp (op_eqK hu (K := X.K) rfl) (kv S 2) (kct S 1 (call_tupK (K := X.K) rfl) B.tuple boot_tuple (zq0 (kv S 1) zq2)) (zq9 _)) (kone (kcmp (op_eqK hu (K := X.K) rfl) (klc S hc hsc (itupK (kv S 2) (K := X.K) rfl) (N := ["c"]) (W := ["c"]) (G := ["isinstance", "bool"]) (fv := [none]) (by decide +kernel) (fun cl C fp s H S2 => ⟨(kg S2 0), (if_one (tval (kcb S2 0 call_isiK B.isinstance boot_isinstance (zq0 (kv S2 0) (zq0 (kty S2 1 B.bool boot_bool) zq2))))), (kv S2 0)⟩)) (kls zq2) (zq9 _)))))))), ?_⟩
  walk_at "rd"
  refine ⟨a, dx, _, rfl, ha, hf_no, a, c, g, cs, hs, us, rfl, hA, fun n hn => ?_⟩
  refine ⟨n, _, rfl, hn, ?_⟩
  walk_at "rd"
  refine ⟨w, _, rfl, .inl ⟨SqL.of hw, fun t ht => ?_⟩⟩
  have st := Same.new ht (.tup (hs.map V.int))
  have ht1 : SqT X.K (upd H t (.tup (hs.map V.int))) t (hs.map V.int) := SqT.of zq1
  generalize upd H t (.tup (hs.map V.int)) = H1 at st ht1 ⊢
  refine ⟨_, _, .tup (st.seqT hn) (DtAll.ints _), .tup ht1 (DtAll.ints _), shaped_intsT _, shaped_intsT _, ?_⟩
  rw [eqv_intsT, decide_eq_true rfl]
  walk_at "rd"
  refine lcT (fun _ => false) (fun k => hs.getD k 0) (st.seqT hn) (zj7 (by omega)) ?_ ?_
  · intro k H2 A B' hk hS hA' hB
    walk_at "rd"
    refine to_isi (n := "int") (b := false) rfl rfl ?_
    walk_at "rd"
    exact hB rfl _ (Same.refl _)
  · intro acc H2 h0 s2 hacc
    have e : (((List.range hs.length).filter fun _ => false).map fun k => hs.getD k 0).map V.int = [] := by simp
    rw [e] at hacc
    refine ⟨by decide, fun p hp => ?_⟩
    have sp := Same.new hp (.lst [])
    refine ⟨_, _, .lst (SqL.of (sp _ _ hacc)) .nil, .lst (SqL.of zq1) .nil, by decide, by decide, ?_⟩
    rw [show PyData.eqv (.list []) (.list []) = true from by decide]
    exact q _ (st.trans (s2.trans sp))
def Held (H : Hp) (av : List Addr) (us : List V) : Prop := ∀ u ∈ us, ∃ (p f d : Addr) (xs : List Int), u = .ref p /\ H p = some (.lst [.ref f, .ref d]) /\ H f = some (.lst (xs.map V.int)) /\ H d = some (.lst (xs.map V.int)) /\ p ∉ av /\ f ∉ av /\ d ∉ av
def spLook70 (K : Frag) (C : Addr) : Sp := fun vs H Q _ => ∃ (a t c wb g w hd : Addr) (cell : Int) (cs hs : List Int) (ws : List Nat) (us hv : List V) (L : List (Bool × List Nat)) (av : List Addr), vs = [.ref a, .int cell, .ref t, .ref w, .ref hd] /\ HallAt K C H a c g cs us hs /\ House K H t c wb g cs ws us L /\ GsOk cs ws L /\ H w = some (.lst (hs.map V.int)) /\ HN cs hs cs.length /\ H hd = some (.lst hv) /\ hv.length < 1000 /\ Held H av hv /\ hd ∈ av /\ (∀ b ∈ av, ∃ o, H b = some o) /\
  ∀ (hv' : List V) (H' : Hp), Off hd H H' -> H' hd = some (.lst hv') -> hv'.length <= hv.length + 1 -> Held H' av hv' -> Q (.bl true) H'
theorem Held.mono {H H' : Hp} {av : List Addr} {us : List V} (h : Held H av us) (s : Same H H') : Held H' av us := fun u hu => by
  obtain ⟨p, f, d, xs, e, a, b, c, r⟩ := h u hu
  exact ⟨p, f, d, xs, e, s _ _ a, s _ _ b, s _ _ c, r⟩
theorem Held.updA {H : Hp} {av : List Addr} {us : List V} {hd : Addr} (h : Held H av us) (m : hd ∈ av) (o : HO) : Held (upd H hd o) av us := fun u hu => by
  obtain ⟨p, f, d, xs, e, a, b, c, n1, n2, n3⟩ := h u hu
  exact ⟨p, f, d, xs, e, by rw [zj4 fun z => n1 (by rw [z]; exact m)]; exact a, by rw [zj4 fun z => n2 (by rw [z]; exact m)]; exact b, by rw [zj4 fun z => n3 (by rw [z]; exact m)]; exact c, n1, n2, n3⟩
def MidL70 (H0 : Hp) (σ0 : L2.St) (σ : L2.St) (H : Hp) : Prop := σ = σ0 /\ H = H0
theorem ds_law_looked : DS (zq3 s_law_looked) ["hall", "cell", "made", "worn", "held", "many", "kind", "i", "found", "due"] ["hall", "cell", "made", "worn", "held"] ["len", "_law_draw", "isinstance", "int", "bool", "_law_guess", "range", "list"] := ds_of (by decide +kernel)
theorem ok_looked70 (B : Bn mg) (T_Hall : ClsT K mg "Hall" cHall ["counts", "groups", "worn"]) (D : Def K mg "_law_looked" s_law_looked) (F_law_draw : Fn P w K mg base 1 "_law_draw" ["cell", "k"] spDraw) (F_law_guess : Fn P w K mg base 3 "_law_guess" ["made", "worn", "i"] (spGuess70 K)) (F_Hall_guess : FnM P w K mg base 4 cHall "guess" ["self", "i"] (spHGuess K cHall)) (F_Hall_right : FnM P w K mg base 5 cHall "right" ["self"] (spRight70 K cHall)) : Fn P w K mg base 6 "_law_looked" ["hall", "cell", "made", "worn", "held"] (spLook70 K cHall) := by
  refine D.gq ds_law_looked (fun _ _ _ _ _ _ us hl => match us, hl with | [_, _, _, _, _], _ => rfl) (fun vs H Q E h => ?_) ?_
  · obtain ⟨a, t, c, wb, g, w, hd, cell, cs, hs, ws, us, hv, L, av, rfl, _⟩ := h; rfl
  intro X S e1 e2 e3 e4 e5 hc hsc hxe hr hu H vs Q E h
  subst e1 e2 e3 e4 e5
  obtain ⟨a, t, c, wb, g, w, hd, cell, cs, hs, ws, us, hv, L, av, rfl, hA, hO, go, hw, hn, hhd, h1000, hHd, hav, hall, q⟩ := h
  obtain ⟨dx, n, ha, hnn⟩ := hA.ex
  have hcs := hO.cok
  have h8 := hcs.len
  refine ⟨_, (zq4 (ssv S 5 (kcb S 0 (zj3 (K := X.K) rfl) B.len boot_len (zq0 (kv S 3) zq2)))
      (zq4 (ssv S 6 (kmodc (kff S 1 F_law_draw hr (zq0 (kv S 1) (zq0 kint zq2)))))
      (zq4 (sif (wpt (wand (tcmp op_eq (kv S 6) kint (zq9 _)) (wand1 (tcmp op_gt (kv S 5) kint (zq9 _))))) (zq4 (ssv S 7 (kop op_mod (kff S 1 F_law_draw hr (zq0 (kv S 1) (zq0 kint zq2))) (kv S 5)))
      (zq4 (ssv S 8 (kmt T_Hall F_Hall_guess passE hr (kv S 0) (zq0 (kv S 7) zq2)))
      (zq5 (sret (kand (kcb S 2 call_isiK B.isinstance boot_isinstance (zq0 (kv S 8) (zq0 (kty S 3 B.int boot_int) zq2))) (kand (knot (kcb S 2 call_isiK B.isinstance boot_isinstance (zq0 (kv S 8) (zq0 (kty S 4 B.bool boot_bool) zq2)))) (kone (kcmp op_eq (kv S 8) (kff S 5 F_law_guess hr (zq0 (kv S 2) (zq0 (kv S 3) (zq0 (kv S 7) zq2)))) (zq9 _))))))))) zz0)
      (zq4 (sif (tcmp op_eq (kv S 6) kint (zq9 _)) (zq4 (ssv S 8 (kmt0 T_Hall F_Hall_right passE hr (kv S 0)))
      (zq4 (slc (i := 9) S hc hsc (irg1 S 6 B.range (zq0 (kv S 5) zq2)) (N := ["i", "made", "worn"]) (W := ["i"]) (G := ["_law_guess"]) (fv := [none, some 2, some 3]) (by decide +kernel) (fun cl C fp s H S2 => ⟨(kg S2 0), (if_one (tcmp op_eq (kff S2 0 F_law_guess hr (zq0 (kv S2 1) (zq0 (kv S2 2) (zq0 (kv S2 0) zq2)))) (kix (zq7 (K := X.K) rfl) (kv S2 2) (kv S2 0) (fun _ _ => rfl)) (zq9 _))), (kv S2 0)⟩) (by rw [hsc]; decide +kernel) (by rw [sww_env, hsc]; rfl))
      (zq4 (sif (wpt (wor (tnot (tval (kcb S 2 call_isiK B.isinstance boot_isinstance (zq0 (kv S 8) (zq0 (kty S 7 B.list boot_list) zq2))))) (wor (tcmp (op_neK hu (K := X.K) rfl) (klc S hc hsc (ilistK (kv S 8) (K := X.K) rfl) (N := ["i"]) (W := ["i"]) (G := ["isinstance", "bool"]) (fv := [none]) (by decide +kernel) (fun cl C fp s H S2 => ⟨(kg S2 0), (if_one (tval (kcb S2 0 call_isiK B.isinstance boot_isinstance (zq0 (kv S2 0) (zq0 (kty S2 1 B.bool boot_bool) zq2))))), (kv S2 0)⟩)) (kls zq2) (zq9 _)) (wor1 (tcmp (op_neK hu (K := X.K) rfl) (kv S 8) (kv S 9) (zq9 _)))))) (zq5 (sret kbl)) zz0)
      (zq4 (sexpr (kmb PySem.F.plainAttrs_list PySem.F.slot_list_append PySem.F.type_list_append mt_append (K := X.K) rfl (kv S 8) (zq0 (kv S 5) zq2)))
      (zq5 (sexpr (kmb PySem.F.plainAttrs_list PySem.F.slot_list_append PySem.F.type_list_append mt_append (K := X.K) rfl (kv S 4) (zq0 (kls (zq0 (kv S 8) (zq0 (kop (op_catLK (K := X.K) rfl) (kv S 9) (kls (zq0 (kv S 5) zq2))) zq2))) zq2)))))))) zz0)
      (zq5 (sret kbl)))))), ?_⟩
  rw [q_seq]
  walk_at "rs"
  refine zz7 (.inl (SqL.of hw)) ?_
  rw [List.length_map, hn.1]
  walk_at "rs"
  rw [q_seq]
  walk_at "rs"
  refine zj6 ⟨by omega, by omega⟩ fun d1 _ => ?_
  walk_at "rs"
  generalize (d1 : Int) % 3 = kind
  refine seqJ (MidL70 H [some (.ref a), some (.int cell), some (.ref t), some (.ref w), some (.ref hd), some (.int (cs.length : Int)), some (.int kind), none, none, none]) (fun σ J h => ?_) (fun R hR => ?_)
  rotate_left
  · walk_at "rd"
    refine ite2 (fun _ => ?_) (fun _ => hR _ _ ⟨rfl, rfl⟩)
    refine ite2 (fun hpos => ?_) (fun _ => hR _ _ ⟨rfl, rfl⟩)
    refine zj6 ⟨by omega, by omega⟩ fun d2 _ => ?_
    walk_at "rd"
    refine ⟨by omega, ?_⟩
    rw [natmod]
    have hlt := Nat.mod_lt d2 (show cs.length > 0 by omega)
    generalize d2 % cs.length = i at hlt ⊢
    refine ⟨a, dx, _, rfl, ha, hf_no, a, c, g, cs, hs, ws, us, L, i, rfl, hA, hO.hL, hcs, hn, go, hlt, fun H2 s2 => ?_⟩
    refine to_isi (n := "int") (b := true) rfl rfl ?_
    walk_at "rd"
    refine to_isi (n := "int") (b := false) rfl rfl ?_
    walk_at "rd"
    refine ⟨t, c, wb, g, w, cs, hs, ws, us, L, i, rfl, hO.mono s2, go, SqL.of (s2 _ _ hw), hn, hlt, fun H3 s3 => ?_⟩
    walk_at "rd"
    have s := s2.trans s3
    exact q hv H3 s.offTo (s _ _ hhd) (by omega) (hHd.mono s)
  obtain ⟨rfl, rfl⟩ := h
  walk_at "rd"
  refine ite2 (fun _ => ?_) (fun _ => q hv _ (Same.refl _).offTo hhd (by omega) hHd)
  refine ⟨a, dx, _, rfl, ha, hf_no, a, c, g, cs, hs, ws, us, L, rfl, hA, hO.hL, hcs, hn, go, fun fl H1 s1 hf0 hf1 => ?_⟩
  refine lcR cs.length (fun i => decide (ggu cs L hs i = hs.getD i 0)) (fun i => (i : Int)) rfl (by omega) ?_ ?_
  · intro i H2 A B' hi hS hA' hB
    walk_at "rd"
    refine ⟨t, c, wb, g, w, cs, hs, ws, us, L, i, rfl, hO.mono (s1.trans hS), go, SqL.of ((s1.trans hS) _ _ hw), hn, hi, fun H3 s3 => ?_⟩
    refine to_ixLk (SqL.of ((s1.trans (hS.trans s3)) _ _ hw)) rfl (by rw [hn.1]; exact hi) ?_
    walk_at "rd"
    by_cases e : ggu cs L hs i = hs.getD i 0
    · rw [if_pos e]
      exact hA' (decide_eq_true e) H3 s3
    · rw [if_neg e]
      exact hB (decide_eq_false e) H3 s3
  intro du H2 hdu0 s2 hdu
  have hdu' : H2 du = some (.lst ((asI (rights71 cs hs L)).map V.int)) := hdu
  have hf2 := s2 _ _ hf1
  have hxl : (asI (rights71 cs hs L)).length <= 8 := by
    rw [zq6]
    unfold rights71
    have := List.length_filter_le (fun i => decide (ggu cs L hs i = hs.getD i 0)) (List.range cs.length)
    rw [List.length_range] at this
    omega
  have hfd : fl ≠ du := zj0 hf1 hdu0
  clear hdu
  generalize asI (rights71 cs hs L) = xs at hf1 hf2 hdu' hxl
  refine to_isi (n := "list") (b := true) (ty_lst hf2) rfl ?_
  walk_at "rd"
  refine lcL (fun _ => false) (fun k => xs.getD k 0) (SqL.of hf2) (zj7 (by omega)) ?_ ?_
  · intro k H3 A B' hk hS hA' hB
    walk_at "rd"
    refine to_isi (n := "int") (b := false) rfl rfl ?_
    walk_at "rd"
    exact hB rfl _ (Same.refl _)
  intro acc H3 h30 s3 hacc
  rw [show (((List.range xs.length).filter fun _ => false).map fun k => xs.getD k 0).map V.int = [] by simp] at hacc
  refine ⟨by decide, fun p hp => ?_⟩
  have sp := Same.new hp (.lst [])
  refine ⟨_, _, .lst (SqL.of (sp _ _ hacc)) .nil, .lst (SqL.of zq1) .nil, by decide, by decide, ?_⟩
  rw [show PyData.eqv (.list []) (.list []) = true from by decide]
  have hf4 := (s3.trans sp) _ _ hf2
  have hd4 := (s3.trans sp) _ _ hdu'
  have s4 := s1.trans (s2.trans (s3.trans sp))
  generalize upd H3 p (.lst []) = H4 at hf4 hd4 s4 ⊢
  walk_at "rd"
  refine ⟨_, _, .lst (SqL.of hf4) (DtAll.ints _), .lst (SqL.of hd4) (DtAll.ints _), zz1 _, zz1 _, ?_⟩
  rw [eqv_ints, decide_eq_true rfl]
  walk_at "rd"
  refine ⟨.inl ⟨rfl, _, SqL.of hf4⟩, fl, _, _, rfl, rfl, hf4, by rw [List.length_map]; exact zj7 (by omega), ?_⟩
  rw [show xs.map V.int ++ [V.int (cs.length : Int)] = (xs ++ [(cs.length : Int)]).map V.int by rw [List.map_append]; rfl]
  have s5 := s4.set hf0 (.lst ((xs ++ [(cs.length : Int)]).map V.int))
  have hd5 : upd H4 fl (.lst ((xs ++ [(cs.length : Int)]).map V.int)) du = some (.lst (xs.map V.int)) := by rw [zj4 (Ne.symm hfd)]; exact hd4
  have hf5 : upd H4 fl (.lst ((xs ++ [(cs.length : Int)]).map V.int)) fl = some (.lst ((xs ++ [(cs.length : Int)]).map V.int)) := zq1
  generalize upd H4 fl (.lst ((xs ++ [(cs.length : Int)]).map V.int)) = H5 at s5 hd5 hf5 ⊢
  refine ⟨.inl ⟨rfl, _, SqL.of (s5 _ _ hhd)⟩, by decide, fun p1 hp1 => ?_⟩
  have t1 := Same.new hp1 (.lst [.int (cs.length : Int)])
  refine to_catL (ns := xs) (ms := [(cs.length : Int)]) (SqL.of (t1 _ _ hd5)) (SqL.of zq1) (small8 (by show _ + 1 <= 100; omega)) fun p2 hp2 => ?_
  have t2 := Same.new hp2 (.lst ((xs ++ [(cs.length : Int)]).map V.int))
  have k2 : upd (upd H5 p1 (.lst [.int (cs.length : Int)])) p2 (.lst ((xs ++ [(cs.length : Int)]).map V.int)) p2 = some (.lst ((xs ++ [(cs.length : Int)]).map V.int)) := zq1
  have f2 := (s5.trans t1).free hp2
  have t12 := t1.trans t2
  generalize upd (upd H5 p1 (.lst [.int (cs.length : Int)])) p2 (.lst ((xs ++ [(cs.length : Int)]).map V.int)) = H6 at k2 t12 ⊢
  refine ⟨by decide, fun p3 hp3 => ?_⟩
  have t3 := Same.new hp3 (.lst [.ref fl, .ref p2])
  have k3 : upd H6 p3 (.lst [.ref fl, .ref p2]) p3 = some (.lst [.ref fl, .ref p2]) := zq1
  have f3 := (s5.trans t12).free hp3
  generalize upd H6 p3 (.lst [.ref fl, .ref p2]) = H7 at t3 k3 ⊢
  have s7 := s5.trans (t12.trans t3)
  refine ⟨hd, _, _, rfl, rfl, s7 _ _ hhd, zj7 (by omega), ?_⟩
  have no : ∀ b, J b = none -> b ∉ av := fun b e z => by
    obtain ⟨o, h⟩ := hall b z
    rw [e] at h; cases h
  have ne : ∀ b, J b = none -> b ≠ hd := fun b e z => no b e (by rw [z]; exact hav)
  refine q (hv ++ [.ref p3]) _ (s7.offTo.trans Off.upd) zq1 (by rw [List.length_append]; exact Nat.le_refl _) fun u hu1 => ?_
  rcases List.mem_append.mp hu1 with z | z
  · exact (hHd.mono s7).updA hav _ u z
  · rw [List.mem_singleton.mp z]
    exact ⟨p3, fl, p2, _, rfl, by rw [zj4 (ne _ f3)]; exact k3, by rw [zj4 (ne _ hf0)]; exact (t12.trans t3) _ _ hf5, by rw [zj4 (ne _ f2)]; exact t3 _ _ k2, no _ f3, no _ hf0, no _ f2⟩
def MidB70 (K : Frag) (H0 : Hp) (t g : Addr) (cell : Int) (k : Nat) (σ : L2.St) (H : Hp) : Prop := ∃ (c w p : Addr) (cs : List Int) (ws : List Nat) (b : Bool) (ns : List Int) (y8 y9 y10 y11 : Option V), σ = [some (.ref t), some (.int cell), some (.ref c), some (.ref w), some (.ref g), some (.int (k : Int)), some (.str (kd b)), some (.ref p), y8, y9, y10, y11] /\ Same H0 H /\ SqT K H c (cs.map V.int) /\ SqT K H w ((asI ws).map V.int) /\ SqT K H p (ns.map V.int) /\ CsOk cs /\ ws.length = cs.length /\ WebOk ws /\ ns.length <= 30 /\ (TyT K H p ∨ (b = true /\ ns.length <= 1))
theorem ds_law_bent : DS (zq3 s_law_bent) ["made", "cell", "counts", "seen", "groups", "at", "kind", "people", "way", "one", "other", "more"] ["made", "cell"] ["len", "_law_draw", "int"] := ds_of (by decide +kernel)
theorem ok_bent70 (B : Bn mg) (D : Def K mg "_law_bent" s_law_bent) (F_law_draw : Fn P w K mg base 1 "_law_draw" ["cell", "k"] spDraw) : Fn P w K mg base 2 "_law_bent" ["made", "cell"] (spBent70 K) := by
  refine D.gq ds_law_bent (fun _ _ _ _ _ _ us hl => match us, hl with | [_, _], _ => rfl) (fun vs H Q E h => ?_) ?_
  · obtain ⟨t, c, w, g, cell, cs, ws, us, L, rfl, _⟩ := h; rfl
  intro X S e1 e2 e3 e4 e5 hc hsc hxe hr hu H vs Q E h
  subst e1 e2 e3 e4 e5
  obtain ⟨t, c, w, g, cell, cs, ws, us, L, rfl, hO, hA, go, hL8, q⟩ := h
  have hcs := hO.cok
  have h8 := hcs.len
  have hlen := hO.hL.length
  have h30 : ∀ g ∈ gI L, g.2.length <= 30 := gI_take_len h8 hA fun g hg => (hA.each g hg).nd
  refine ⟨_, (zq4 (sasg (kv S 0) (gtup hc (K := X.K) (n := 3) rfl (zz3 (kg S 2) (zz3 (kg S 3) (zz3 (kg S 4) gs_nil)))))
      (zq4 (sif (tcmp (op_eqK hu (K := X.K) rfl) (kv S 4) (ktp zq2) (zq9 _)) (zq5 (sret (ktp (zq0 (kv S 2) (zq0 (kv S 3) (zq0 (ktp (zq0 (ktp (zq0 kstr (zq0 (ktp (zq0 (kop op_add (kcb S 0 (zj3 (K := X.K) rfl) B.len boot_len (zq0 (kv S 2) zq2)) (kop op_mod (kv S 1) (kpowc (v := 100000000000000000000000000000000000000000000000000) cp10_50 pw10_50))) zq2)) zq2))) zq2)) zq2)))))) zz0)
      (zq4 (ssv S 5 (kop op_mod (kff S 1 F_law_draw hr (zq0 (kv S 1) (zq0 kint zq2))) (kcb S 0 (zj3 (K := X.K) rfl) B.len boot_len (zq0 (kv S 4) zq2))))
      (zq4 (sasg (kix (zj5 (K := X.K) rfl) (kv S 4) (kv S 5) (fun _ _ => rfl)) (gtup hc (K := X.K) (n := 2) rfl (zz3 (kg S 6) (zz3 (kg S 7) gs_nil))))
      (zq4 (ssv S 8 (kmodc (kff S 1 F_law_draw hr (zq0 (kv S 1) (zq0 kint zq2)))))
      (zq4 (ssv S 9 (kix (zj5 (K := X.K) rfl) (kv S 7) (kop op_mod (kff S 1 F_law_draw hr (zq0 (kv S 1) (zq0 kint zq2))) (kcb S 0 (zj3 (K := X.K) rfl) B.len boot_len (zq0 (kv S 7) zq2))) (fun _ _ => rfl)))
      (zq4 (ssv S 10 (kix (zj5 (K := X.K) rfl) (kv S 7) (kop op_mod (kff S 1 F_law_draw hr (zq0 (kv S 1) (zq0 kint zq2))) (kcb S 0 (zj3 (K := X.K) rfl) B.len boot_len (zq0 (kv S 7) zq2))) (fun _ _ => rfl)))
      (zq4 (ssv S 11 (kix (zq7 (K := X.K) rfl) (kls (zq0 (kop op_mod (kff S 1 F_law_draw hr (zq0 (kv S 1) (zq0 kint zq2))) (kcb S 0 (zj3 (K := X.K) rfl) B.len boot_len (zq0 (kv S 2) zq2))) (zq0 (kun un_neg kint) (zq0 (kcb S 0 (zj3 (K := X.K) rfl) B.len boot_len (zq0 (kv S 2) zq2)) (zq0 (kop op_sub (kop op_sub kint kint) (kop op_mod (kv S 1) (kpowc (v := 100000000000000000000000000000000000000000000000000) cp10_50 pw10_50))) zq2))))) (kmodc (kff S 1 F_law_draw hr (zq0 (kv S 1) (zq0 kint zq2)))) (fun _ _ => rfl)))
      (zq4 (sif (tcmp op_eq (kv S 8) kint (zq9 _)) (zq5 (ssv S 7 (krvf (kv S 7) (kun un_neg kint) (K := X.K) rfl))) (zq5 (sif (tcmp op_eq (kv S 8) kint (zq9 _)) (zq5 (ssv S 7 (kop (op_catTF (K := X.K) rfl) (kv S 7) (ktp (zq0 (kv S 9) zq2))))) (zq5 (sif (tcmp op_eq (kv S 8) kint (zq9 _)) (zq5 (ssv S 7 (kop (op_catTF (K := X.K) rfl) (kv S 7) (ktp (zq0 (kv S 11) zq2))))) (zq5 (sif (tcmp op_eq (kv S 8) kint (zq9 _)) (zq5 (spar (i := 6) (j := 7) S hc (zq0 kstr (zq0 (ksl (sl_tupW (K := X.K) rfl) (kv S 7) ko_none (zz6 kint)) zq2)) (hx := by rw [hsc]; decide +kernel) (hy := by rw [hsc]; decide +kernel) (hw := by rw [swp_env, hsc]; rfl))) (zq5 (sif (tcmp op_eq (kv S 8) kint (zq9 _)) (zq5 (ssv S 6 (kix (zq7 (K := X.K) rfl) (kls (zq0 kstr (zq0 kstr zq2))) (kct S 2 call_int1 B.int boot_int (zq0 (kcmp op_eq (kv S 6) kstr (zq9 _)) zq2)) (fun _ _ => rfl)))) (zq5 (sif (wpt (wand (tcmp op_eq (kv S 8) kint (zq9 _)) (wand1 (tcmp op_ne (kv S 9) (kv S 10) (zq9 _))))) (zq5 (ssv S 3 (kop (op_catTK (K := X.K) rfl) (kop (op_catTK (K := X.K) rfl) (ksl (sl_tupK (K := X.K) rfl) (kv S 3) ko_none (zz6 (kv S 9))) (ktp (zq0 (kop op_xor (kix (zj5 (K := X.K) rfl) (kv S 3) (kv S 9) (fun _ _ => rfl)) (kop op_shl kint (kv S 10))) zq2))) (ksl (sl_tupK (K := X.K) rfl) (kv S 3) (zz6 (kop op_add (kv S 9) kint)) ko_none)))) (zq5 (sif (tcmp op_eq (kv S 8) kint (zq9 _)) (zq5 (ssv S 2 (kop (op_catTK (K := X.K) rfl) (kop (op_catTK (K := X.K) rfl) (ksl (sl_tupK (K := X.K) rfl) (kv S 2) ko_none (zz6 (kv S 9))) (ktp (zq0 (kix (zq7 (K := X.K) rfl) (kls (zq0 kint (zq0 kint zq2))) (kmodc (kff S 1 F_law_draw hr (zq0 (kv S 1) (zq0 kint zq2)))) (fun _ _ => rfl)) zq2))) (ksl (sl_tupK (K := X.K) rfl) (kv S 2) (zz6 (kop op_add (kv S 9) kint)) ko_none)))) (zq5 (sif (tcmp op_eq (kv S 8) kint (zq9 _)) (zq5 (sret (ktp (zq0 (kv S 2) (zq0 (kv S 3) (zq0 (kop (op_catTK (K := X.K) rfl) (kv S 4) (ktp (zq0 (kix (zj5 (K := X.K) rfl) (kv S 4) (kv S 5) (fun _ _ => rfl)) zq2))) zq2)))))) zz0)))))))))))))))
      (zq5 (sret (ktp (zq0 (kv S 2) (zq0 (kv S 3) (zq0 (kop (op_catTK (K := X.K) rfl) (kop (op_catTK (K := X.K) rfl) (ksl (sl_tupK (K := X.K) rfl) (kv S 4) ko_none (zz6 (kv S 5))) (ktp (zq0 (ktp (zq0 (kv S 6) (zq0 (kv S 7) zq2))) zq2))) (ksl (sl_tupK (K := X.K) rfl) (kv S 4) (zz6 (kop op_add (kv S 5) kint)) ko_none)) zq2))))))))))))))), ?_⟩
  rw [q_seq]
  walk_at "rs"
  refine ⟨t, _, rfl, hO.ht, rfl, _, _, rfl, _, _, rfl, _, _, rfl, rfl, ?_⟩
  rw [q_seq]
  walk_at "rs"
  refine ⟨by decide, fun z hz => ?_⟩
  have sz := Same.new hz (.tup [])
  refine ⟨_, _, .tup (sz.seqT hO.hg) (hO.hL.mono sz).dt, .tup (SqT.of zq1) .nil, shaped_groups L, by decide, ?_⟩
  rw [eqv_nilT]
  generalize upd H z (.tup []) = H1 at sz ⊢
  by_cases hLe : L = []
  · rw [decide_eq_true (by rw [hLe]; rfl)]
    walk_at "rd"
    refine zz7 (.inr (sz.seqT hO.hc)) ?_
    rw [List.length_map]
    walk_at "rd"
    have m4 := Int.emod_nonneg cell (show (100000000000000000000000000000000000000000000000000 : Int) ≠ 0 by decide)
    obtain ⟨v, ev, hv⟩ : ∃ v : Int, (cs.length : Int) + cell % 100000000000000000000000000000000000000000000000000 = v /\ (cs.length : Int) <= v := ⟨_, rfl, by omega⟩
    rw [ev]
    clear ev m4
    refine ⟨by decide, by decide, fun p1 h1 => ⟨by decide, fun p2 h2 => ⟨by decide, fun p3 h3 => ⟨by decide, fun p4 h4 => ?_⟩⟩⟩⟩
    have s1 := Same.new h1 (.tup [.int v])
    have s2 := Same.new h2 (.tup [.str "circle", .ref p1])
    have s3 := Same.new h3 (.tup [.ref p2])
    have s4 := Same.new h4 (.tup [.ref c, .ref w, .ref p3])
    have sA := sz.trans (s1.trans (s2.trans (s3.trans s4)))
    refine q p4 c w p3 cs ws [.ref p2] [(false, [v])] _ sA ⟨SqT.of zq1, sA.seqT hO.hc, sA.seqT hO.hw, s4.seqT (SqT.of zq1), ⟨⟨p2, p1, rfl, (s3.trans s4).seqT (SqT.of zq1), (s2.trans (s3.trans s4)).seqT (SqT.of zq1)⟩, trivial⟩, hcs, hO.wl, hO.wok, (by show 1 <= 30; omega), fun g hg => ?_, fun z => ?_⟩
    · rw [List.mem_singleton.mp hg]; show 1 <= 30; omega
    · have := (((gf_back z).2.1).each (false, nats [v]) (List.mem_map.mpr ⟨_, List.mem_cons_self, rfl⟩)).lt v.toNat List.mem_cons_self
      omega
  have hL1 : 0 < L.length := List.length_pos_iff.mpr hLe
  rw [decide_eq_false (fun e => hLe (List.map_eq_nil_iff.mp e))]
  walk_at "rs"
  rw [q_seq]
  walk_at "rs"
  refine zj6 ⟨by omega, by omega⟩ fun d2 _ => ?_
  walk_at "rs"
  refine zz7 (.inr (sz.seqT hO.hg)) ?_
  rw [hlen]
  walk_at "rs"
  refine ⟨by omega, ?_⟩
  rw [natmod]
  have hk := Nat.mod_lt d2 hL1
  generalize d2 % L.length = k at hk ⊢
  rw [q_seq]
  walk_at "rs"
  obtain ⟨u, hu1⟩ : ∃ u, us[k]? = some u := ⟨_, List.getElem?_eq_getElem (by omega)⟩
  obtain ⟨⟨b, l⟩, r, p, hgk, rfl, hr1, hp1, hty⟩ := (hO.hL.mono sz).get hu1
  have hgm := List.mem_of_getElem? hgk
  have hgA := hA.each _ hgm
  have hne : 1 <= l.length := hgA.ne
  have hlt : ∀ x ∈ l, x < cs.length := hgA.lt
  have hl8 : l.length <= 8 := Nat.le_trans (nodup_le hgA.nd hgA.lt) h8
  have hr1 : SqT X.K H1 r [.str (kd b), .ref p] := hr1
  have hp1 : SqT X.K H1 p ((asI l).map V.int) := hp1
  refine to_ixT (sz.seqT hO.hg) (atI_nat hu1) ?_
  refine ⟨r, _, rfl, hr1, rfl, _, _, rfl, _, _, rfl, rfl, ?_⟩
  rw [q_seq]
  walk_at "rs"
  refine zj6 ⟨by omega, by omega⟩ fun d3 _ => ?_
  walk_at "rs"
  generalize (d3 : Int) % 9 = way
  rw [q_seq]
  walk_at "rs"
  refine zj6 ⟨by omega, by omega⟩ fun d4 _ => ?_
  walk_at "rs"
  refine zz7 (.inr hp1) ?_
  rw [List.length_map, zq6]
  walk_at "rs"
  refine ⟨by omega, ?_⟩
  rw [natmod]
  have hi1 := Nat.mod_lt d4 hne
  generalize d4 % l.length = i1 at hi1 ⊢
  refine zj9 hp1 rfl (by rw [zq6]; exact hi1) ?_
  rw [zz2]
  have ho1 := hlt _ (getD_memN hi1)
  generalize l.getD i1 0 = one at ho1 ⊢
  rw [q_seq]
  walk_at "rs"
  refine zj6 ⟨by omega, by omega⟩ fun d5 _ => ?_
  walk_at "rs"
  refine zz7 (.inr hp1) ?_
  rw [List.length_map, zq6]
  walk_at "rs"
  refine ⟨by omega, ?_⟩
  rw [natmod]
  have hi2 := Nat.mod_lt d5 hne
  generalize d5 % l.length = i2 at hi2 ⊢
  refine zj9 hp1 rfl (by rw [zq6]; exact hi2) ?_
  rw [zz2]
  have ho2 := hlt _ (getD_memN hi2)
  generalize l.getD i2 0 = other at ho2 ⊢
  rw [q_seq]
  simp only [q_asg, q_Op, q_lst, q_cons, q_C]
  simp only [L2.start, List.map_cons, List.map_nil, List.length_cons, List.length_nil, List.replicate, List.cons_append, List.nil_append, List.append_nil, q_var0, q_varS]
  walk_at "rs"
  refine zj6 ⟨by omega, by omega⟩ fun d6 _ => ?_
  walk_at "rs"
  refine zz7 (.inr (sz.seqT hO.hc)) ?_
  rw [List.length_map]
  walk_at "rs"
  refine ⟨by omega, ?_⟩
  refine zz7 (.inr (sz.seqT hO.hc)) ?_
  rw [List.length_map]
  walk_at "rs"
  refine ⟨by decide, by decide, fun ml hml => ?_⟩
  obtain ⟨v0, e0⟩ : ∃ v : Int, (d6 : Int) % (cs.length : Int) = v := ⟨_, rfl⟩
  obtain ⟨v1, e1⟩ : ∃ v : Int, 0 - 1 - cell % 100000000000000000000000000000000000000000000000000 = v := ⟨_, rfl⟩
  rw [e0, e1]
  clear e0 e1
  have sm := sz.trans (Same.new hml (.lst [.int v0, .int (-1), .int (cs.length : Int), .int v1]))
  have hml1 : SqL X.K (upd H1 ml (.lst [.int v0, .int (-1), .int (cs.length : Int), .int v1])) ml (([v0, -1, (cs.length : Int), v1] : List Int).map V.int) := SqL.of zq1
  have sm1 : Same H1 (upd H1 ml (.lst [.int v0, .int (-1), .int (cs.length : Int), .int v1])) := Same.new hml _
  generalize upd H1 ml (.lst [.int v0, .int (-1), .int (cs.length : Int), .int v1]) = H2 at sm sm1 hml1 ⊢
  have hp2 := sm1.seqT hp1
  have hty2 := hty.mono sm1
  have hr2 := sm1.seqT hr1
  have hO2 := hO.mono sm
  clear hp1 hty hr1 sm1
  refine zj6 ⟨by omega, by omega⟩ fun d7 _ => ?_
  walk_at "rs"
  refine to_ixL hml1 (by omega) (by show _ < (4 : Int); omega) fun more _ => ?_
  refine seqJ (MidB70 X.K H t g cell k) (fun σ J h => ?_) (fun R hR => ?_)
  rotate_left
  · have hp30 : (asI l).length <= 8 := by rw [zq6]; exact hl8
    have same : ∀ (y8 y9 y10 y11 : Option V), R [some (.ref t), some (.int cell), some (.ref c), some (.ref w), some (.ref g), some (.int (k : Int)), some (.str (kd b)), some (.ref p), y8, y9, y10, y11] H2 := fun _ _ _ _ => hR _ _ ⟨c, w, p, cs, ws, b, asI l, _, _, _, _, rfl, sm, hO2.hc, hO2.hw, hp2, hcs, hO.wl, hO.wok, by omega, .inl hty2⟩
    walk_at "rd"
    refine ite2 (fun _ => ?_) (fun _ => ?_)
    · refine ⟨trivial, p, _, rfl, hp2, fun p' o h0 hoc hod => ?_⟩
      have s3 := Same.new h0 (.frz o (.tup ((asI l).map V.int).reverse))
      exact hR _ _ ⟨c, w, p', cs, ws, b, (asI l).reverse, _, _, _, _, rfl, sm.trans s3, s3.seqT hO2.hc, s3.seqT hO2.hw, by rw [List.map_reverse]; exact SqT.frz zq1, hcs, hO.wl, hO.wok, by rw [List.length_reverse]; omega, .inl (.inr ⟨o, _, zq1, hoc, hod⟩)⟩
    refine ite2 (fun _ => ?_) (fun _ => ?_)
    · refine ⟨by decide, fun z1 h1 => ?_⟩
      have s3 := Same.new h1 (.tup [.int (one : Int)])
      refine ⟨p, z1, _, _, rfl, rfl, s3.seqT hp2, SqT.of zq1, fun e => ?_, (fun e => nomatch e), by rw [List.length_map]; exact small8 (by show _ + 1 <= 100; omega), fun p' o h0 hoc hod => ?_⟩
      · have : ((asI l).map V.int).length = 0 := by rw [e]; rfl
        rw [List.length_map, zq6] at this; omega
      have s4 := s3.trans (Same.new h0 (.frz o (.tup ((asI l).map V.int ++ [.int (one : Int)]))))
      exact hR _ _ ⟨c, w, p', cs, ws, b, asI l ++ [(one : Int)], _, _, _, _, rfl, sm.trans s4, s4.seqT hO2.hc, s4.seqT hO2.hw, by rw [List.map_append]; exact SqT.frz zq1, hcs, hO.wl, hO.wok, by rw [List.length_append]; show _ + 1 <= 30; omega, .inl (.inr ⟨o, _, zq1, hoc, hod⟩)⟩
    refine ite2 (fun _ => ?_) (fun _ => ?_)
    · refine ⟨by decide, fun z1 h1 => ?_⟩
      have s3 := Same.new h1 (.tup [.int more])
      refine ⟨p, z1, _, _, rfl, rfl, s3.seqT hp2, SqT.of zq1, fun e => ?_, (fun e => nomatch e), by rw [List.length_map]; exact small8 (by show _ + 1 <= 100; omega), fun p' o h0 hoc hod => ?_⟩
      · have : ((asI l).map V.int).length = 0 := by rw [e]; rfl
        rw [List.length_map, zq6] at this; omega
      have s4 := s3.trans (Same.new h0 (.frz o (.tup ((asI l).map V.int ++ [.int more]))))
      exact hR _ _ ⟨c, w, p', cs, ws, b, asI l ++ [more], _, _, _, _, rfl, sm.trans s4, s4.seqT hO2.hc, s4.seqT hO2.hw, by rw [List.map_append]; exact SqT.frz zq1, hcs, hO.wl, hO.wok, by rw [List.length_append]; show _ + 1 <= 30; omega, .inl (.inr ⟨o, _, zq1, hoc, hod⟩)⟩
    refine ite2 (fun _ => ?_) (fun _ => ?_)
    · refine ⟨p, _, rfl, hp2, fun p' H3 s3 hp' => ?_⟩
      refine ⟨_, _, rfl, hR _ _ ⟨c, w, p', cs, ws, true, (asI l).take 1, _, _, _, _, rfl, sm.trans s3, s3.seqT hO2.hc, s3.seqT hO2.hw, ?_, hcs, hO.wl, hO.wok, by rw [List.length_take]; omega, .inr ⟨rfl, by rw [List.length_take]; omega⟩⟩⟩
      rw [show (some (1 : Int)) = some ((1 : Nat) : Int) from rfl, cut_takeM, <- List.map_take] at hp'
      exact hp'
    refine ite2 (fun _ => ?_) (fun _ => ?_)
    · refine ⟨by decide, fun z1 h1 => ?_⟩
      have s3 := Same.new h1 (.lst [.str "circle", .str "ring"])
      refine .inr ⟨_, rfl, ?_⟩
      have hsw : atI [V.str "circle", V.str "ring"] (if decide (kd b = "circle") = true then 1 else 0) = some (.str (kd (!b))) := by cases b <;> rfl
      refine zj1 (SqL.of zq1) hsw ?_
      exact hR _ _ ⟨c, w, p, cs, ws, !b, asI l, _, _, _, _, rfl, sm.trans s3, s3.seqT hO2.hc, s3.seqT hO2.hw, s3.seqT hp2, hcs, hO.wl, hO.wok, by omega, .inl (hty2.mono s3)⟩
    refine ite2 (fun _ => ite2 (fun hd => ?_) (fun _ => ?_)) (fun _ => ?_)
    · skip
      refine to_slTt one hO2.hw rfl (by rw [zq6, hO.wl]; exact ho1) fun s1 hs1 => ?_
      have t1 := Same.new hs1 (.tup (((asI ws).take one).map V.int))
      have k1 : SqT X.K (upd H2 s1 (.tup (((asI ws).take one).map V.int))) s1 (((asI ws).take one).map V.int) := SqT.of zq1
      generalize upd H2 s1 (.tup (((asI ws).take one).map V.int)) = H3 at t1 k1 ⊢
      refine zj9 (t1.seqT hO2.hw) rfl (by rw [zq6, hO.wl]; exact ho1) ?_
      rw [zz2]
      refine ⟨cpow1 (by omega), ?_⟩
      walk_at "rd"
      obtain ⟨xv, hxv⟩ : ∃ xv : Nat, xv = ws.getD one 0 ^^^ 2 ^ other := ⟨_, rfl⟩
      rw [<- hxv]
      refine ⟨by decide, fun s2 hs2 => ?_⟩
      have t2 := Same.new hs2 (.tup [.int (xv : Int)])
      have k2 : SqT X.K (upd H3 s2 (.tup [.int (xv : Int)])) s2 (([(xv : Int)] : List Int).map V.int) := SqT.of zq1
      generalize upd H3 s2 (.tup [.int (xv : Int)]) = H4 at t2 k2 ⊢
      refine to_catT (t2.seqT k1) k2 (small8 (by rw [List.length_take, zq6]; have := hO.wl; show _ + 1 <= 100; omega)) fun s3 H5 t3 k3 => ?_
      refine to_slTd one ((t1.trans (t2.trans t3)).seqT hO2.hw) rfl (by rw [zq6, hO.wl]; exact ho1) fun s4 hs4 => ?_
      have t4 := Same.new hs4 (.tup (((asI ws).drop (one + 1)).map V.int))
      have k4 : SqT X.K (upd H5 s4 (.tup (((asI ws).drop (one + 1)).map V.int))) s4 (((asI ws).drop (one + 1)).map V.int) := SqT.of zq1
      generalize upd H5 s4 (.tup (((asI ws).drop (one + 1)).map V.int)) = H6 at t4 k4 ⊢
      refine to_catT (t4.seqT k3) k4 (small8 (by rw [List.length_append, List.length_take, List.length_drop, zq6]; have := hO.wl; show _ + 1 + _ <= 100; omega)) fun s5 H7 t5 k5 => ?_
      have sA := t1.trans (t2.trans (t3.trans (t4.trans t5)))
      have ew : asI (ws.set one xv) = ((asI ws).take one ++ [(xv : Int)]) ++ (asI ws).drop (one + 1) := by
        rw [cut_set (by rw [zq6, hO.wl]; exact ho1)]
        unfold asI
        rw [List.map_set]
      refine hR _ _ ⟨c, s5, p, cs, ws.set one xv, b, asI l, _, _, _, _, rfl, sm.trans sA, sA.seqT hO2.hc, by rw [ew]; exact k5, sA.seqT hp2, hcs, by rw [List.length_set]; exact hO.wl, ?_, by omega, .inl (hty2.mono sA)⟩
      rw [hxv]
      exact web_xor hO.wok (by rw [hO.wl]; exact ho1) (by rw [hO.wl]; exact ho2) (fun z => by rw [z] at hd; simp at hd)
    · skip
      refine ite2 (fun _ => ?_) (fun _ => ?_)
      · refine to_slTt one hO2.hc rfl ho1 fun s1 hs1 => ?_
        have t1 := Same.new hs1 (.tup ((cs.take one).map V.int))
        have k1 : SqT X.K (upd H2 s1 (.tup ((cs.take one).map V.int))) s1 ((cs.take one).map V.int) := SqT.of zq1
        generalize upd H2 s1 (.tup ((cs.take one).map V.int)) = H3 at t1 k1 ⊢
        refine ⟨by decide, fun ll hll => ?_⟩
        have t0 := Same.new hll (.lst [.int 1, .int 3])
        have k0 : SqL X.K (upd H3 ll (.lst [.int 1, .int 3])) ll (([1, 3] : List Int).map V.int) := SqL.of zq1
        generalize upd H3 ll (.lst [.int 1, .int 3]) = H3b at t0 k0 ⊢
        refine zj6 ⟨by omega, by omega⟩ fun d8 _ => ?_
        walk_at "rd"
        refine to_ixL k0 (by omega) (by show _ < (2 : Int); omega) fun xv hxv => ?_
        have hcn : Cn xv := by
          simp only [List.mem_cons, List.not_mem_nil, or_false] at hxv
          exact ⟨by omega, by omega⟩
        refine ⟨by decide, fun s2 hs2 => ?_⟩
        have t2 := t0.trans (Same.new hs2 (.tup [.int xv]))
        have k2 : SqT X.K (upd H3b s2 (.tup [.int xv])) s2 (([xv] : List Int).map V.int) := SqT.of zq1
        generalize upd H3b s2 (.tup [.int xv]) = H4 at t2 k2 ⊢
        refine to_catT (t2.seqT k1) k2 (small8 (by rw [List.length_take]; show _ + 1 <= 100; omega)) fun s3 H5 t3 k3 => ?_
        refine to_slTd one ((t1.trans (t2.trans t3)).seqT hO2.hc) rfl ho1 fun s4 hs4 => ?_
        have t4 := Same.new hs4 (.tup ((cs.drop (one + 1)).map V.int))
        have k4 : SqT X.K (upd H5 s4 (.tup ((cs.drop (one + 1)).map V.int))) s4 ((cs.drop (one + 1)).map V.int) := SqT.of zq1
        generalize upd H5 s4 (.tup ((cs.drop (one + 1)).map V.int)) = H6 at t4 k4 ⊢
        refine to_catT (t4.seqT k3) k4 (small8 (by rw [List.length_append, List.length_take, List.length_drop]; show _ + 1 + _ <= 100; omega)) fun s5 H7 t5 k5 => ?_
        have sA := t1.trans (t2.trans (t3.trans (t4.trans t5)))
        exact hR _ _ ⟨s5, w, p, cs.take one ++ [xv] ++ cs.drop (one + 1), ws, b, asI l, _, _, _, _, rfl, sm.trans sA, k5, sA.seqT hO2.hw, sA.seqT hp2, hcs.set ho1 hcn, by rw [cut_len ho1]; exact hO.wl, hO.wok, by omega, .inl (hty2.mono sA)⟩
      refine ite2 (fun _ => ?_) (fun _ => same _ _ _ _)
      refine to_ixT hO2.hg (atI_nat hu1) ?_
      refine ⟨by decide, fun z1 h1 => ?_⟩
      have t1 := Same.new h1 (.tup [.ref r])
      refine ⟨g, z1, us, [.ref r], rfl, rfl, t1.seqT hO2.hg, SqT.of zq1, small8 (by show _ + 1 <= 100; omega), fun g' H3 t2 k2 => ?_⟩
      refine ⟨by decide, fun t' h3 => ?_⟩
      have t3 := Same.new h3 (.tup [.ref c, .ref w, .ref g'])
      have sA := t1.trans (t2.trans t3)
      have hO3 := hO2.mono sA
      have gfo : GF X.K (upd H3 t' (.tup [.ref c, .ref w, .ref g'])) (us ++ [.ref r]) (L ++ [(b, l)]) := hO3.hL.append ⟨⟨r, p, rfl, sA.seqT hr2, sA.seqT hp2, hty2.mono sA⟩, trivial⟩
      refine q t' c w g' cs ws (us ++ [.ref r]) (gI (L ++ [(b, l)])) _ (sm.trans sA) ⟨SqT.of zq1, hO3.hc, hO3.hw, t3.seqT k2, gfo.gi, hcs, hO.wl, hO.wok, by rw [gI_len, List.length_append]; show _ + 1 <= 30; omega, fun g2 hg2 => ?_, fun _ => by rw [gN_gI]; exact gfo⟩
      exact h30 g2 (gI_sub (fun x hx => by
        rcases List.mem_append.mp hx with e | e
        · exact e
        · rw [List.mem_singleton.mp e]; exact hgm) g2 hg2)
    · skip
      refine ite2 (fun _ => ?_) (fun _ => ?_)
      · refine to_slTt one hO2.hc rfl ho1 fun s1 hs1 => ?_
        have t1 := Same.new hs1 (.tup ((cs.take one).map V.int))
        have k1 : SqT X.K (upd H2 s1 (.tup ((cs.take one).map V.int))) s1 ((cs.take one).map V.int) := SqT.of zq1
        generalize upd H2 s1 (.tup ((cs.take one).map V.int)) = H3 at t1 k1 ⊢
        refine ⟨by decide, fun ll hll => ?_⟩
        have t0 := Same.new hll (.lst [.int 1, .int 3])
        have k0 : SqL X.K (upd H3 ll (.lst [.int 1, .int 3])) ll (([1, 3] : List Int).map V.int) := SqL.of zq1
        generalize upd H3 ll (.lst [.int 1, .int 3]) = H3b at t0 k0 ⊢
        refine zj6 ⟨by omega, by omega⟩ fun d8 _ => ?_
        walk_at "rd"
        refine to_ixL k0 (by omega) (by show _ < (2 : Int); omega) fun xv hxv => ?_
        have hcn : Cn xv := by
          simp only [List.mem_cons, List.not_mem_nil, or_false] at hxv
          exact ⟨by omega, by omega⟩
        refine ⟨by decide, fun s2 hs2 => ?_⟩
        have t2 := t0.trans (Same.new hs2 (.tup [.int xv]))
        have k2 : SqT X.K (upd H3b s2 (.tup [.int xv])) s2 (([xv] : List Int).map V.int) := SqT.of zq1
        generalize upd H3b s2 (.tup [.int xv]) = H4 at t2 k2 ⊢
        refine to_catT (t2.seqT k1) k2 (small8 (by rw [List.length_take]; show _ + 1 <= 100; omega)) fun s3 H5 t3 k3 => ?_
        refine to_slTd one ((t1.trans (t2.trans t3)).seqT hO2.hc) rfl ho1 fun s4 hs4 => ?_
        have t4 := Same.new hs4 (.tup ((cs.drop (one + 1)).map V.int))
        have k4 : SqT X.K (upd H5 s4 (.tup ((cs.drop (one + 1)).map V.int))) s4 ((cs.drop (one + 1)).map V.int) := SqT.of zq1
        generalize upd H5 s4 (.tup ((cs.drop (one + 1)).map V.int)) = H6 at t4 k4 ⊢
        refine to_catT (t4.seqT k3) k4 (small8 (by rw [List.length_append, List.length_take, List.length_drop]; show _ + 1 + _ <= 100; omega)) fun s5 H7 t5 k5 => ?_
        have sA := t1.trans (t2.trans (t3.trans (t4.trans t5)))
        exact hR _ _ ⟨s5, w, p, cs.take one ++ [xv] ++ cs.drop (one + 1), ws, b, asI l, _, _, _, _, rfl, sm.trans sA, k5, sA.seqT hO2.hw, sA.seqT hp2, hcs.set ho1 hcn, by rw [cut_len ho1]; exact hO.wl, hO.wok, by omega, .inl (hty2.mono sA)⟩
      refine ite2 (fun _ => ?_) (fun _ => same _ _ _ _)
      refine to_ixT hO2.hg (atI_nat hu1) ?_
      refine ⟨by decide, fun z1 h1 => ?_⟩
      have t1 := Same.new h1 (.tup [.ref r])
      refine ⟨g, z1, us, [.ref r], rfl, rfl, t1.seqT hO2.hg, SqT.of zq1, small8 (by show _ + 1 <= 100; omega), fun g' H3 t2 k2 => ?_⟩
      refine ⟨by decide, fun t' h3 => ?_⟩
      have t3 := Same.new h3 (.tup [.ref c, .ref w, .ref g'])
      have sA := t1.trans (t2.trans t3)
      have hO3 := hO2.mono sA
      have gfo : GF X.K (upd H3 t' (.tup [.ref c, .ref w, .ref g'])) (us ++ [.ref r]) (L ++ [(b, l)]) := hO3.hL.append ⟨⟨r, p, rfl, sA.seqT hr2, sA.seqT hp2, hty2.mono sA⟩, trivial⟩
      refine q t' c w g' cs ws (us ++ [.ref r]) (gI (L ++ [(b, l)])) _ (sm.trans sA) ⟨SqT.of zq1, hO3.hc, hO3.hw, t3.seqT k2, gfo.gi, hcs, hO.wl, hO.wok, by rw [gI_len, List.length_append]; show _ + 1 <= 30; omega, fun g2 hg2 => ?_, fun _ => by rw [gN_gI]; exact gfo⟩
      exact h30 g2 (gI_sub (fun x hx => by
        rcases List.mem_append.mp hx with e | e
        · exact e
        · rw [List.mem_singleton.mp e]; exact hgm) g2 hg2)
  · obtain ⟨c, w, p, cs, ws, b, ns, y8, y9, y10, y11, rfl, sJ, hcq, hwq, hpq, hcs, hwl, hwo, hn30, hty⟩ := h
    clear hr2 hp2 hty2 hO2
    have hO3 := hO.mono sJ
    walk_at "rd"
    refine to_slTtV k hO3.hg rfl (by omega) fun s1 hs1 => ?_
    have t1 := Same.new hs1 (.tup (us.take k))
    have k1 : SqT X.K (upd J s1 (.tup (us.take k))) s1 (us.take k) := SqT.of zq1
    generalize upd J s1 (.tup (us.take k)) = J1 at t1 k1 ⊢
    refine ⟨by decide, fun qq hq => ⟨by decide, fun s2 hs2 => ?_⟩⟩
    have tq := Same.new hq (.tup [.str (kd b), .ref p])
    have t2 := Same.new hs2 (.tup [.ref qq])
    have kq : SqT X.K (upd (upd J1 qq (.tup [.str (kd b), .ref p])) s2 (.tup [.ref qq])) qq [.str (kd b), .ref p] := t2.seqT (SqT.of zq1)
    have k2 : SqT X.K (upd (upd J1 qq (.tup [.str (kd b), .ref p])) s2 (.tup [.ref qq])) s2 [.ref qq] := SqT.of zq1
    have tq2 := tq.trans t2
    generalize upd (upd J1 qq (.tup [.str (kd b), .ref p])) s2 (.tup [.ref qq]) = J2 at tq2 kq k2 ⊢
    refine ⟨s1, s2, us.take k, [.ref qq], rfl, rfl, tq2.seqT k1, k2, small8 (by rw [List.length_take]; show _ + 1 <= 100; omega), fun s3 J3 t3 k3 => ?_⟩
    refine to_slTdV k ((t1.trans (tq2.trans t3)).seqT hO3.hg) rfl (by omega) fun s4 hs4 => ?_
    have t4 := Same.new hs4 (.tup (us.drop (k + 1)))
    have k4 : SqT X.K (upd J3 s4 (.tup (us.drop (k + 1)))) s4 (us.drop (k + 1)) := SqT.of zq1
    generalize upd J3 s4 (.tup (us.drop (k + 1))) = J4 at t4 k4 ⊢
    refine ⟨s3, s4, us.take k ++ [.ref qq], us.drop (k + 1), rfl, rfl, t4.seqT k3, k4, small8 (by rw [List.length_append, List.length_take, List.length_drop]; show _ + 1 + _ <= 100; omega), fun g' J5 t5 k5 => ?_⟩
    refine ⟨by decide, fun t' h6 => ?_⟩
    have t6 := Same.new h6 (.tup [.ref c, .ref w, .ref g'])
    have tB := t3.trans (t4.trans (t5.trans t6))
    have sA := t1.trans (tq2.trans tB)
    have hO4 := hO3.mono sA
    have hty4 : TyT X.K (upd J5 t' (.tup [.ref c, .ref w, .ref g'])) p ∨ (b = true /\ ns.length <= 1) := hty.imp (fun h => h.mono sA) id
    exact q t' c w g' cs ws _ _ _ (sJ.trans sA) ⟨SqT.of zq1, sA.seqT hcq, sA.seqT hwq, t6.seqT k5, mid_gi hO4.hL (tB.seqT kq) (sA.seqT hpq), hcs, hwl, hwo, mid_len hL8, mid_each h30 hn30, fun z => mid_gf hO4.hL (tB.seqT kq) (sA.seqT hpq) hty4 z⟩
theorem kinds_groups : kinds70 "NoGroups" = [false, false, true, false, false] := by decide
theorem ds_law_refused : DS (zq3 s_law_refused) ["made", "cell", "bent", "many", "kinds", "guesses", "hall", "e"] ["made", "cell"] ["_law_bent", "len", "HatError", "Hall", "_law_kinds", "range", "group_fault"] := ds_of (by decide +kernel)
theorem ok_refused70 (B : Bn mg) (ER : ErrT K mg ERN er) (T_Hall : ClsT K mg "Hall" cHall ["counts", "groups", "worn"]) (D : Def K mg "_law_refused" s_law_refused) (F_law_bent : Fn P w K mg base 2 "_law_bent" ["made", "cell"] (spBent70 K)) (F_law_kinds : FnH P w K mg base 1 "_law_kinds" ["e"] (spKinds70 er)) (F_Hall___init__ : FnM P w K mg base 5 cHall "__init__" ["self", "counts", "web", "groups"] (spHInit K cHall er)) (F_Hall_guess : FnM P w K mg base 4 cHall "guess" ["self", "i"] (spHGuess K cHall)) (F_group_fault : Fn P w K mg base 4 "group_fault" ["counts", "web", "groups"] (spGFault K)) (F_law_guess : Fn P w K mg base 3 "_law_guess" ["made", "worn", "i"] (spGuess70 K)) : Fn P w K mg base 7 "_law_refused" ["made", "cell"] (spRef70 K) := by
  refine D.gz ds_law_refused (fun _ _ _ _ _ _ us hl => match us, hl with | [_, _], _ => rfl) (fun vs H Q E h => ?_) ?_
  · obtain ⟨t, c, w, g, cell, cs, ws, us, L, rfl, _⟩ := h; rfl
  intro X S e1 e2 e3 e4 e5 hc hsc hown hex hxe hr hu H vs Q E h
  subst e1 e2 e3 e4 e5
  obtain ⟨t, c, w, g, cell, cs, ws, us, L, rfl, hO, hA, go, hL8, q⟩ := h
  refine ⟨_, (zq4 (ssv S 2 (kff S 0 F_law_bent hr (zq0 (kv S 0) (zq0 (kv S 1) zq2))))
      (zq4 (ssv S 3 (kcb S 1 (zj3 (K := X.K) rfl) B.len boot_len (zq0 (kix (zj5 (K := X.K) rfl) (kv S 2) kint (fun _ _ => rfl)) zq2)))
      (zq4 (ssv S 4 (kls zq2))
      (zq4 (ssv S 5 (kls zq2))
      (zq4 (stryH (names := ERN) (er := er) S 2 7 hxe hc hown hex ER (by decide) (xs_cons (xset S 6 (kmkx S hxe 3 T_Hall F_Hall___init__ hr (zq0 (kix (zj5 (K := X.K) rfl) (kv S 2) kint (fun _ _ => rfl)) (zq0 (kix (zj5 (K := X.K) rfl) (kv S 2) kint (fun _ _ => rfl)) (zq0 (kix (zj5 (K := X.K) rfl) (kv S 2) kint (fun _ _ => rfl)) zq2))))) (xs_one (xof hxe (slc (i := 5) S hc hsc (irg1 S 5 B.range (zq0 (kv S 3) zq2)) (N := ["i", "hall"]) (W := ["i"]) (G := []) (fv := [none, some 6]) (by decide +kernel) (fun cl C fp s H S2 => ⟨(kg S2 0), if_nil, (kmt T_Hall F_Hall_guess passE hr (kv S2 1) (zq0 (kv S2 0) zq2))⟩) (by rw [hsc]; decide +kernel) (by rw [sww_env, hsc]; rfl)))))
      (fun a S4 => (zq5 (ssv S4 4 (kfh S4 4 F_law_kinds (RoomH.held hr) (zq0 (kv S4 7) zq2))))) (by rw [hsc]; decide +kernel))
      (zq4 (sif (tcmp op_notNK (kff S 6 F_group_fault hr (zq0 (kix (zj5 (K := X.K) rfl) (kv S 2) kint (fun _ _ => rfl)) (zq0 (kix (zj5 (K := X.K) rfl) (kv S 2) kint (fun _ _ => rfl)) (zq0 (kix (zj5 (K := X.K) rfl) (kv S 2) kint (fun _ _ => rfl)) zq2)))) knon (zq9 _)) (zq5 (sret (kcmp (op_eqK hu (K := X.K) rfl) (kv S 4) (kls (zq0 kbl (zq0 kbl (zq0 kbl (zq0 kbl (zq0 kbl zq2)))))) (zq9 _)))) zz0)
      (zq5 (sret (kand (kcmp (op_eqK hu (K := X.K) rfl) (kv S 4) (kls zq2) (zq9 _)) (kone (kcmp (op_eqK hu (K := X.K) rfl) (kv S 5) (klc S hc hsc (irg1 S 5 B.range (zq0 (kv S 3) zq2)) (N := ["i", "bent", "many"]) (W := ["i"]) (G := ["_law_guess"]) (fv := [none, some 2, some 3]) (by decide +kernel) (fun cl C fp s H S2 => ⟨(kg S2 0), if_nil, (kff S2 0 F_law_guess hr (zq0 (kv S2 1) (zq0 (kop op_rep (kls (zq0 kint zq2)) (kv S2 2)) (zq0 (kv S2 0) zq2))))⟩)) (zq9 _)))))))))))), ?_⟩
  walk_at "rd"
  refine ⟨t, c, w, g, cell, cs, ws, us, L, rfl, hO, hA, go, hL8, fun t' c' w' g' cs' ws' us' L' H1 s1 hB => ?_⟩
  have h8 := hB.cok.len
  walk_at "rd"
  refine to_ixT hB.ht rfl ?_
  refine zz7 (.inr hB.hc) ?_
  rw [List.length_map]
  walk_at "rd"
  refine ⟨by decide, fun p1 hp1 => ⟨by decide, fun p2 hp2 => ?_⟩⟩
  have s2 : Same H1 (upd (upd H1 p1 (.lst [])) p2 (.lst [])) := (Same.new hp1 _).trans (Same.new hp2 _)
  have k1 : upd (upd H1 p1 (.lst [])) p2 (.lst []) p1 = some (.lst []) := (Same.new hp2 _) _ _ zq1
  generalize upd (upd H1 p1 (.lst [])) p2 (.lst []) = H2 at s2 k1 ⊢
  have hB2 := hB.mono s2
  refine to_ixT hB2.ht rfl ?_
  refine to_ixT hB2.ht rfl ?_
  refine to_ixT hB2.ht rfl ?_
  intro a dx hax hdx hne
  have s5 : Same H2 (upd (upd H2 dx (.own a)) a (.ins cHall dx [])) := (Same.new hdx _).trans (Same.new (by rw [zj4 (Ne.symm hne)]; exact hax) _)
  have ha5 : upd (upd H2 dx (.own a)) a (.ins cHall dx []) a = some (.ins cHall dx []) := zq1
  generalize upd (upd H2 dx (.own a)) a (.ins cHall dx []) = H5 at s5 ha5 ⊢
  have hB5 := hB2.mono s5
  have k5 := s5 _ _ k1
  have s15 := s1.trans (s2.trans s5)
  refine ⟨a, dx, c', w', g', cs', ws', us', L', rfl, ha5, hB5.hc, hB5.hw, hB5.hg, hB5.hL, hB5.wl, h8, hB5.each, hB5.len, fun nz H6 s6 => ?_, fun z H6 o6 hH6 => ?_⟩
  · refine ⟨"NoGroups", by decide, rfl, by decide, fun e he => ?_⟩
    walk_at "rd"
    have se := Same.new he (errH e (er "NoGroups") none)
    have hB7 := hB5.mono (s6.trans se)
    refine ⟨e, "NoGroups", rfl, by decide, zq1, fun l H7 s7 hl hl0 => ?_⟩
    walk_at "rd"
    have hB8 := hB7.mono s7
    refine to_ixT hB8.ht rfl ?_
    refine to_ixT hB8.ht rfl ?_
    refine to_ixT hB8.ht rfl ?_
    refine ⟨c', w', g', cs', ws', us', L', rfl, hB8.hc, hB8.hw, hB8.hg, hB8.hL, hB8.wl, h8, hB8.each, hB8.len, fun H9 s9 => ?_⟩
    obtain ⟨k, hk⟩ : ∃ k, gfF cs' ws' [] 0 L' = some k := by
      cases hg : gfF cs' ws' [] 0 L' with
      | none => exact absurd hg nz
      | some k => exact ⟨k, rfl⟩
    rw [hk, show oV (some k) = .int (k : Int) from rfl]
    walk_at "rd"
    rw [kinds_groups] at hl
    refine ⟨by decide, fun u hu1 => ?_⟩
    have su := Same.new hu1 (.lst [.bl false, .bl false, .bl true, .bl false, .bl false])
    refine ⟨_, _, .lst (SqL.of ((s9.trans su) _ _ hl)) (dt_bls [false, false, true, false, false]), .lst (SqL.of zq1) (dt_bls [false, false, true, false, false]), by decide, by decide, ?_⟩
    rw [show PyData.eqv (.list ([false, false, true, false, false].map PyData.bool)) (.list ([false, false, true, false, false].map PyData.bool)) = true from by decide]
    exact q _ (s15.trans (s6.trans (se.trans (s7.trans (s9.trans su)))))
  · refine ⟨rfl, ?_⟩
    walk_at "rd"
    have hG := (gf_back z).2.1
    have hB6 := hB5.offI o6 ha5
    have hf6 := hB6.gf z
    have hn : HN cs' (List.replicate cs'.length 0) cs'.length := HN.zero71 hB.cok.pos
    have hpa : p1 ≠ a := ne_of k5 ha5 fun z => nomatch z
    have k6 := o6 _ _ hpa k5
    have hHa : H a = none := (s1.trans s2).free2 hax
    have s16 : Same H H6 := s15.off hHa o6
    obtain ⟨dx6, n6, ha6, hn6⟩ := hH6.ex
    refine lcR cs'.length (fun _ => true) (fun i => ggu cs' (gN L') (List.replicate cs'.length 0) i) rfl (by omega) ?_ ?_
    · intro i H7 A B' hi hS hA' _
      walk_at "rd"
      exact ⟨a, dx6, _, rfl, hS _ _ ha6, hf_no, a, c', g', cs', _, ws', us', gN L', i, rfl, hH6.mono hS, hf6.mono hS, hB.cok, hn, hG, hi, fun H8 s8 => hA' rfl H8 s8⟩
    intro acc H7 h70 s7 hacc
    walk_at "rd"
    have hB7 := hB6.mono s7
    refine to_ixT hB7.ht rfl ?_
    refine to_ixT hB7.ht rfl ?_
    refine to_ixT hB7.ht rfl ?_
    refine ⟨c', w', g', cs', ws', us', L', rfl, hB7.hc, hB7.hw, hB7.hg, hB7.hL, hB7.wl, h8, hB7.each, hB7.len, fun H8 s8 => ?_⟩
    rw [z, show oV none = .non from rfl]
    walk_at "rd"
    refine ⟨by decide, fun u hu1 => ?_⟩
    have su := Same.new hu1 (.lst [])
    refine ⟨_, _, .lst (SqL.of ((s7.trans (s8.trans su)) _ _ k6)) .nil, .lst (SqL.of zq1) .nil, by decide, by decide, ?_⟩
    rw [show PyData.eqv (.list []) (.list []) = true from by decide]
    walk_at "rd"
    have hacc9 := (s8.trans su) _ _ hacc
    have s9 := s7.trans (s8.trans su)
    generalize upd H8 u (.lst []) = H9 at hacc9 s9 ⊢
    have hB9 := hB6.mono s9
    refine lcR cs'.length (fun _ => true) (fun i => ggu cs' (gN L') (List.replicate cs'.length 0) i) rfl (by omega) ?_ ?_
    · intro i J A B' hi hS hA' _
      walk_at "rd"
      refine ⟨by decide, fun u hu1 => ?_⟩
      have su := Same.new hu1 (.lst [.int 0])
      refine ⟨u, _, _, rfl, rfl, zq1, by omega, by omega, ?_, fun v hv => ?_⟩
      · rw [Int.toNat_natCast]; exact small8 (by show 1 * _ <= 100; omega)
      have sv := Same.new hv (.lst ((List.replicate ((cs'.length : Int)).toNat [V.int 0]).flatten))
      have kv : upd (upd J u (.lst [.int 0])) v (.lst ((List.replicate ((cs'.length : Int)).toNat [V.int 0]).flatten)) v = some (.lst ((List.replicate cs'.length (0 : Int)).map V.int)) := by
        rw [zq1, Int.toNat_natCast, flat_zero]
      generalize upd (upd J u (.lst [.int 0])) v (.lst ((List.replicate ((cs'.length : Int)).toNat [V.int 0]).flatten)) = J2 at sv kv ⊢
      exact ⟨t', c', w', g', v, cs', _, ws', us', gN L', i, rfl, ((hB9.mono hS).mono (su.trans sv)).house z, hG, SqL.of kv, hn, hi, fun J3 s3 => hA' rfl J3 (su.trans (sv.trans s3))⟩
    intro ac2 J h20 sJ hac2
    refine ⟨_, _, .lst (SqL.of (sJ _ _ hacc9)) (DtAll.ints _), .lst (SqL.of hac2) (DtAll.ints _), zz1 _, zz1 _, ?_⟩
    rw [eqv_ints, decide_eq_true rfl]
    exact q _ (s16.trans (s9.trans sJ))
theorem cxC_scope {X : Cx} {N : List Str} {scope osc : Scope} {cl : List (Str × Addr)} {C : Addr} {fp : List Addr} {s : Shared} {H : Hp} (h1 : X.env.scope = osc) : (cxC X N scope cl C fp s H).env.scope = rl scope osc := by rw [<- h1]; rfl
section
variable {a w r C dx : Addr} {fs : List (Str × V)} {H H' : Hp} {xs ys : List V}
theorem SqT.off2 (s : Off2 a w H H') (ha : H a = some (.ins C dx fs)) (hw : H w = some (.lst ys)) (h : SqT K H r xs) : SqT K H' r xs := by
  rcases h with (h | ⟨o, h⟩) | h
  · exact .inl (.inl (s _ _ (ne_of h ha fun z => nomatch z) (ne_of h hw fun z => nomatch z) h))
  · exact .inl (.inr ⟨o, s _ _ (ne_of h ha fun z => nomatch z) (ne_of h hw fun z => nomatch z) h⟩)
  · exact .inr h
theorem TyT.off2 (s : Off2 a w H H') (ha : H a = some (.ins C dx fs)) (hw : H w = some (.lst ys)) (h : TyT K H r) : TyT K H' r := by
  rcases h with h | ⟨o, u, h, c⟩
  · exact .inl h
  · exact .inr ⟨o, u, s _ _ (ne_of h ha fun z => nomatch z) (ne_of h hw fun z => nomatch z) h, c⟩
theorem GF.off2 (s : Off2 a w H H') (ha : H a = some (.ins C dx fs)) (hw : H w = some (.lst ys)) : ∀ {vs : List V} {L : List (Bool × List Nat)}, GF K H vs L -> GF K H' vs L
  | [], [], h => h
  | _ :: _, _ :: _, ⟨⟨r, p, e, h, h2, h3⟩, t⟩ => ⟨⟨r, p, e, SqT.off2 s ha hw h, SqT.off2 s ha hw h2, TyT.off2 s ha hw h3⟩, GF.off2 s ha hw t⟩
  | [], _ :: _, h => h.elim
  | _ :: _, [], h => h.elim
theorem House.off2 {t c b g : Addr} {cs : List Int} {ws : List Nat} {us : List V} {L : List (Bool × List Nat)} (s : Off2 a w H H') (ha : H a = some (.ins C dx fs)) (hw : H w = some (.lst ys)) (h : House K H t c b g cs ws us L) : House K H' t c b g cs ws us L :=
  ⟨SqT.off2 s ha hw h.ht, SqT.off2 s ha hw h.hc, SqT.off2 s ha hw h.hw, SqT.off2 s ha hw h.hg, GF.off2 s ha hw h.hL, h.cok, h.wl, h.wok⟩
theorem House.offL {t c b g : Addr} {cs : List Int} {ws : List Nat} {us : List V} {L : List (Bool × List Nat)} (s : Off w H H') (hw : H w = some (.lst ys)) (h : House K H t c b g cs ws us L) : House K H' t c b g cs ws us L :=
  ⟨SqT.off s hw h.ht, SqT.off s hw h.hc, SqT.off s hw h.hw, SqT.off s hw h.hg, GF.off s hw h.hL, h.cok, h.wl, h.wok⟩
theorem HallAt.updA {c g : Addr} {cs hs : List Int} {us : List V} {o : HO} (h : HallAt K C H a c g cs us hs) (hw : H w = some (.lst ys)) (n : w ≠ a) : HallAt K C (upd H w o) a c g cs us hs := by
  obtain ⟨dx, m, h1, h2⟩ := h.ex
  exact ⟨⟨dx, m, by rw [zj4 (Ne.symm n)]; exact h1, h2.updL hw⟩, h.cts.updL hw, h.grp.updL hw⟩
end
structure One70 (K : Frag) (C : Addr) (H : Hp) (t a w c b g : Addr) (cs hs : List Int) (ws : List Nat) (us : List V) (L : List (Bool × List Nat)) : Prop where
  hall : HallAt K C H a c g cs us hs
  house : House K H t c b g cs ws us L
  gs : GsOk cs ws L
  hn : HN cs hs cs.length
  worn : H w = some (.lst (hs.map V.int))
section
variable {C t a w c b g : Addr} {H H' : Hp} {cs hs : List Int} {ws : List Nat} {us : List V} {L : List (Bool × List Nat)}
theorem One70.mono (h : One70 K C H t a w c b g cs hs ws us L) (s : Same H H') : One70 K C H' t a w c b g cs hs ws us L := ⟨h.hall.mono s, h.house.mono s, h.gs, h.hn, s _ _ h.worn⟩
theorem One70.own {hs' : List Int} (h : One70 K C H t a w c b g cs hs ws us L) (s : Off2 a w H H') (h1 : HallAt K C H' a c g cs us hs') (h2 : H' w = some (.lst (hs'.map V.int))) (h3 : HN cs hs' cs.length) : One70 K C H' t a w c b g cs hs' ws us L := by
  obtain ⟨dx, n, ha, _⟩ := h.hall.ex
  exact ⟨h1, House.off2 s ha h.worn h.house, h.gs, h3, h2⟩
theorem One70.other {C' a' w' dx' : Addr} {fs : List (Str × V)} {ys : List V} (h : One70 K C H t a w c b g cs hs ws us L) (s : Off2 a' w' H H') (ha' : H a' = some (.ins C' dx' fs)) (hw' : H w' = some (.lst ys)) (na : a ≠ a') (nw : w ≠ w') : One70 K C H' t a w c b g cs hs ws us L := by
  obtain ⟨dx, n, ha, hn⟩ := h.hall.ex
  exact ⟨⟨⟨dx, n, s _ _ na (ne_of ha hw' fun z => nomatch z) ha, SqT.off2 s ha' hw' hn⟩, SqT.off2 s ha' hw' h.hall.cts, SqT.off2 s ha' hw' h.hall.grp⟩, House.off2 s ha' hw' h.house, h.gs, h.hn, s _ _ (ne_of h.worn ha' fun z => nomatch z) nw h.worn⟩
theorem One70.look {hd : Addr} {ys : List V} (h : One70 K C H t a w c b g cs hs ws us L) (s : Off hd H H') (hd' : H hd = some (.lst ys)) (nw : w ≠ hd) : One70 K C H' t a w c b g cs hs ws us L := by
  obtain ⟨dx, n, ha, hn⟩ := h.hall.ex
  exact ⟨⟨⟨dx, n, s _ _ (ne_of ha hd' fun z => nomatch z) ha, SqT.off s hd' hn⟩, SqT.off s hd' h.hall.cts, SqT.off s hd' h.hall.grp⟩, House.offL s hd' h.house, h.gs, h.hn, s _ _ nw h.worn⟩
end
structure Two70 (K : Frag) (C : Addr) (H : Hp) (z made halls wl held t0 a0 w0 c0 b0 g0 t1 a1 w1 c1 b1 g1 : Addr) (cs0 cs1 ms : List Int) (ws0 ws1 : List Nat) (us0 us1 : List V) (L0 L1 : List (Bool × List Nat)) (hs0 hs1 : List Int) (hv : List V) : Prop where
  one0 : One70 K C H t0 a0 w0 c0 b0 g0 cs0 hs0 ws0 us0 L0
  one1 : One70 K C H t1 a1 w1 c1 b1 g1 cs1 hs1 ws1 us1 L1
  hm : H made = some (.lst [.ref t0, .ref t1])
  hh : H halls = some (.lst [.ref a0, .ref a1])
  hw : H wl = some (.lst [.ref w0, .ref w1])
  hz : H z = some (.lst (ms.map V.int))
  hd : H held = some (.lst hv)
  pairs : Held H [held, w0, w1] hv
structure Ap70 (z made halls wl held a0 w0 a1 w1 : Addr) : Prop where
  aa : a0 ≠ a1
  ww : w0 ≠ w1
  h0 : w0 ≠ held
  h1 : w1 ≠ held
  zz : z ≠ w0 /\ z ≠ w1 /\ z ≠ held
  mm : made ≠ w0 /\ made ≠ w1 /\ made ≠ held
  hh : halls ≠ w0 /\ halls ≠ w1 /\ halls ≠ held
  wl : wl ≠ w0 /\ wl ≠ w1 /\ wl ≠ held
theorem Held.off2 {H H' : Hp} {av : List Addr} {us ys : List V} {a w C dx : Addr} {fs : List (Str × V)} (h : Held H av us) (s : Off2 a w H H') (ha : H a = some (.ins C dx fs)) (m : w ∈ av) : Held H' av us := fun u hu => by
  obtain ⟨p, f, d, xs, e, h1, h2, h3, n1, n2, n3⟩ := h u hu
  exact ⟨p, f, d, xs, e, s _ _ (ne_of h1 ha fun z => nomatch z) (fun z => n1 (by rw [z]; exact m)) h1, s _ _ (ne_of h2 ha fun z => nomatch z) (fun z => n2 (by rw [z]; exact m)) h2, s _ _ (ne_of h3 ha fun z => nomatch z) (fun z => n3 (by rw [z]; exact m)) h3, n1, n2, n3⟩
section
variable {C z made halls wl held t0 a0 w0 c0 b0 g0 t1 a1 w1 c1 b1 g1 : Addr} {H H' : Hp} {cs0 cs1 ms : List Int} {ws0 ws1 : List Nat} {us0 us1 : List V} {L0 L1 : List (Bool × List Nat)} {hs0 hs1 : List Int} {hv : List V}
theorem Two70.mono (T : Two70 K C H z made halls wl held t0 a0 w0 c0 b0 g0 t1 a1 w1 c1 b1 g1 cs0 cs1 ms ws0 ws1 us0 us1 L0 L1 hs0 hs1 hv) (s : Same H H') : Two70 K C H' z made halls wl held t0 a0 w0 c0 b0 g0 t1 a1 w1 c1 b1 g1 cs0 cs1 ms ws0 ws1 us0 us1 L0 L1 hs0 hs1 hv :=
  ⟨T.one0.mono s, T.one1.mono s, s _ _ T.hm, s _ _ T.hh, s _ _ T.hw, s _ _ T.hz, s _ _ T.hd, T.pairs.mono s⟩
theorem Two70.put0 {hs' : List Int} (T : Two70 K C H z made halls wl held t0 a0 w0 c0 b0 g0 t1 a1 w1 c1 b1 g1 cs0 cs1 ms ws0 ws1 us0 us1 L0 L1 hs0 hs1 hv) (A : Ap70 z made halls wl held a0 w0 a1 w1) (s : Off2 a0 w0 H H') (h1 : HallAt K C H' a0 c0 g0 cs0 us0 hs') (h2 : H' w0 = some (.lst (hs'.map V.int))) (h3 : HN cs0 hs' cs0.length) : Two70 K C H' z made halls wl held t0 a0 w0 c0 b0 g0 t1 a1 w1 c1 b1 g1 cs0 cs1 ms ws0 ws1 us0 us1 L0 L1 hs' hs1 hv := by
  obtain ⟨dx, n, ha, _⟩ := T.one0.hall.ex
  have na : ∀ {x : Addr} {ys : List V}, H x = some (.lst ys) -> x ≠ a0 := fun h => ne_of h ha fun z => nomatch z
  exact ⟨T.one0.own s h1 h2 h3, T.one1.other s ha T.one0.worn (Ne.symm A.aa) (Ne.symm A.ww), s _ _ (na T.hm) A.mm.1 T.hm, s _ _ (na T.hh) A.hh.1 T.hh, s _ _ (na T.hw) A.wl.1 T.hw, s _ _ (na T.hz) A.zz.1 T.hz, s _ _ (na T.hd) (Ne.symm A.h0) T.hd, Held.off2 (ys := []) T.pairs s ha (by simp)⟩
theorem Two70.put1 {hs' : List Int} (T : Two70 K C H z made halls wl held t0 a0 w0 c0 b0 g0 t1 a1 w1 c1 b1 g1 cs0 cs1 ms ws0 ws1 us0 us1 L0 L1 hs0 hs1 hv) (A : Ap70 z made halls wl held a0 w0 a1 w1) (s : Off2 a1 w1 H H') (h1 : HallAt K C H' a1 c1 g1 cs1 us1 hs') (h2 : H' w1 = some (.lst (hs'.map V.int))) (h3 : HN cs1 hs' cs1.length) : Two70 K C H' z made halls wl held t0 a0 w0 c0 b0 g0 t1 a1 w1 c1 b1 g1 cs0 cs1 ms ws0 ws1 us0 us1 L0 L1 hs0 hs' hv := by
  obtain ⟨dx, n, ha, _⟩ := T.one1.hall.ex
  have na : ∀ {x : Addr} {ys : List V}, H x = some (.lst ys) -> x ≠ a1 := fun h => ne_of h ha fun z => nomatch z
  exact ⟨T.one0.other s ha T.one1.worn A.aa A.ww, T.one1.own s h1 h2 h3, s _ _ (na T.hm) A.mm.2.1 T.hm, s _ _ (na T.hh) A.hh.2.1 T.hh, s _ _ (na T.hw) A.wl.2.1 T.hw, s _ _ (na T.hz) A.zz.2.1 T.hz, s _ _ (na T.hd) (Ne.symm A.h1) T.hd, Held.off2 (ys := []) T.pairs s ha (by simp)⟩
theorem Two70.look {hv' : List V} (T : Two70 K C H z made halls wl held t0 a0 w0 c0 b0 g0 t1 a1 w1 c1 b1 g1 cs0 cs1 ms ws0 ws1 us0 us1 L0 L1 hs0 hs1 hv) (A : Ap70 z made halls wl held a0 w0 a1 w1) (s : Off held H H') (h1 : H' held = some (.lst hv')) (h2 : Held H' [held, w0, w1] hv') : Two70 K C H' z made halls wl held t0 a0 w0 c0 b0 g0 t1 a1 w1 c1 b1 g1 cs0 cs1 ms ws0 ws1 us0 us1 L0 L1 hs0 hs1 hv' :=
  ⟨T.one0.look s T.hd A.h0, T.one1.look s T.hd A.h1, s _ _ A.mm.2.2 T.hm, s _ _ A.hh.2.2 T.hh, s _ _ A.wl.2.2 T.hw, s _ _ A.zz.2.2 T.hz, h1, h2⟩
theorem Two70.live (T : Two70 K C H z made halls wl held t0 a0 w0 c0 b0 g0 t1 a1 w1 c1 b1 g1 cs0 cs1 ms ws0 ws1 us0 us1 L0 L1 hs0 hs1 hv) : ∀ x ∈ [held, w0, w1], ∃ o, H x = some o := fun x hx => by
  simp only [List.mem_cons, List.not_mem_nil, or_false] at hx
  rcases hx with rfl | rfl | rfl
  · exact ⟨_, T.hd⟩
  · exact ⟨_, T.one0.worn⟩
  · exact ⟨_, T.one1.worn⟩
end
def InvA70 (H0 : Hp) (scr made halls wl z : Addr) (ms : List Int) (_ : Nat) (σ : L2.St) (H : Hp) : Prop := ∃ (y : Option V), σ = [some (.ref scr), some (.ref made), some (.ref halls), some (.ref wl), y, none, none, none, none] /\ Same H0 H /\ H z = some (.lst (ms.map V.int))
def InvL70 (K : Frag) (C scr z made halls wl held t0 a0 w0 c0 b0 g0 t1 a1 w1 c1 b1 g1 : Addr) (cs0 cs1 ms : List Int) (ws0 ws1 : List Nat) (us0 us1 : List V) (L0 L1 : List (Bool × List Nat)) (P : Option V -> Prop) (i : Nat) (σ : L2.St) (H : Hp) : Prop :=
  ∃ (hs0 hs1 : List Int) (hv : List V) (y4 y6 y7 y8 : Option V), σ = [some (.ref scr), some (.ref made), some (.ref halls), some (.ref wl), y4, some (.ref held), y6, y7, y8] /\ P y8 /\ hv.length <= i /\ Two70 K C H z made halls wl held t0 a0 w0 c0 b0 g0 t1 a1 w1 c1 b1 g1 cs0 cs1 ms ws0 ws1 us0 us1 L0 L1 hs0 hs1 hv
def OkH70 (K : Frag) (C c0 g0 c1 g1 : Addr) (cs0 cs1 : List Int) (us0 us1 : List V) (i : Nat) (r : Addr) (H : Hp) : Prop := (i = 0 -> HallAt K C H r c0 g0 cs0 us0 (List.replicate cs0.length 0)) /\ (i = 1 -> HallAt K C H r c1 g1 cs1 us1 (List.replicate cs1.length 0)) /\ ∃ dx fs, H r = some (.ins C dx fs)
def OkW70 (cs0 cs1 : List Int) (i : Nat) (r : Addr) (H : Hp) : Prop := (i = 0 -> H r = some (.lst ((List.replicate cs0.length (0 : Int)).map V.int))) /\ (i = 1 -> H r = some (.lst ((List.replicate cs1.length (0 : Int)).map V.int))) /\ ∃ ys, H r = some (.lst ys)
theorem range_zero (n : Nat) : (((List.range n).filter fun _ => true).map fun _ => (0 : Int)) = List.replicate n 0 := by
  rw [fil_all]
  induction n with
  | zero => rfl
  | succ k ih => rw [List.range_succ, List.map_append, ih, List.replicate_succ']; rfl
theorem ds_law : DS (zq3 s_law) ["script", "made", "halls", "worn", "cell", "held", "k", "kind", "good"] ["script"] ["_law_house", "_law_cell_at", "range", "_law_refused", "int", "_law_draw", "_law_put_one", "_law_put_all", "_law_looked", "_law_hats_right", "len"] := ds_of (by decide +kernel)
theorem ok_law (B : Bn mg) (T_Hall : ClsT K mg "Hall" cHall ["counts", "groups", "worn"]) {f : Addr} {fd : FuncData} (FL : Fun K "law" "law" s_law f fd) (F_law_cell_at : Fn P w K mg base 1 "_law_cell_at" ["script", "k"] (spAt K)) (F_law_draw : Fn P w K mg base 1 "_law_draw" ["cell", "k"] spDraw) (F_law_house : Fn P w K mg base 3 "_law_house" ["cell"] (spHouse70 K)) (F_Hall___init__ : FnM P w K mg base 5 cHall "__init__" ["self", "counts", "web", "groups"] (spHInit K cHall er)) (F_law_refused : Fn P w K mg base 7 "_law_refused" ["made", "cell"] (spRef70 K)) (F_law_put_one : Fn P w K mg base 5 "_law_put_one" ["hall", "cell", "counts", "worn"] (spOne70 K cHall)) (F_law_put_all : Fn P w K mg base 5 "_law_put_all" ["hall", "cell", "counts", "worn"] (spOne70 K cHall)) (F_law_looked : Fn P w K mg base 6 "_law_looked" ["hall", "cell", "made", "worn", "held"] (spLook70 K cHall))
    (F_law_hats_right : Fn P w K mg base 2 "_law_hats_right" ["hall", "worn"] (fun vs H Q _ => ∃ (a c g w : Addr) (cs hs : List Int) (us : List V), vs = [.ref a, .ref w] /\ HallAt K cHall H a c g cs us hs /\ H w = some (.lst (hs.map V.int)) /\ hs.length <= 8 /\ ∀ H', Same H H' -> Q (.bl true) H')) (F_Hall_right : FnM P w K mg base 5 cHall "right" ["self"] (spRight70 K cHall)) (F_law_guess : Fn P w K mg base 3 "_law_guess" ["made", "worn", "i"] (spGuess70 K)) : FnOk P w K mg base CX0 8 f fd ["script"] (spLaw K) := by
  refine FL.gq ds_law (fun vs H Q E h => ?_) ?_
  · obtain ⟨a, ns, rfl, _⟩ := h; rfl
  intro X S e1 e2 e3 e4 e5 hc hsc hxe hr hu H vs Q E h
  subst e1 e2 e3 e4 e5
  obtain ⟨scr, ns, rfl, ha, hl, q⟩ := h
  refine ⟨_, (zq4 (ssv S 1 (kls (zq0 (kff S 0 F_law_house hr (zq0 (kff S 1 F_law_cell_at hr (zq0 (kv S 0) (zq0 kint zq2))) zq2)) (zq0 (kff S 0 F_law_house hr (zq0 (kff S 1 F_law_cell_at hr (zq0 (kv S 0) (zq0 kint zq2))) zq2)) zq2))))
      (zq4 (slc (i := 2) S hc hsc (irg1 S 2 B.range (zq0 kint zq2)) (N := ["k", "made"]) (W := ["k"]) (G := ["Hall"]) (fv := [none, some 1]) (by decide +kernel) (fun cl C fp s H S2 => ⟨(kg S2 0), if_nil, (kmk S2 0 T_Hall F_Hall___init__ passE hr (zq0 (kix (zj5 (K := X.K) rfl) (kix (zq7 (K := X.K) rfl) (kv S2 1) (kv S2 0) (fun _ _ => rfl)) kint (fun _ _ => rfl)) (zq0 (kix (zj5 (K := X.K) rfl) (kix (zq7 (K := X.K) rfl) (kv S2 1) (kv S2 0) (fun _ _ => rfl)) kint (fun _ _ => rfl)) (zq0 (kix (zj5 (K := X.K) rfl) (kix (zq7 (K := X.K) rfl) (kv S2 1) (kv S2 0) (fun _ _ => rfl)) kint (fun _ _ => rfl)) zq2))))⟩) (by rw [hsc]; decide +kernel) (by rw [sww_env, hsc]; rfl))
      (zq4 (ssv S 3 (klc S hc hsc (irg1 S 2 B.range (zq0 kint zq2)) (N := ["k", "made"]) (W := ["k"]) (G := []) (fv := [none, some 1]) (by decide +kernel) (fun cl C fp s H S2 => ⟨(kg S2 0), if_nil, (klc S2 rfl (cxC_scope hsc) (itupK (kix (zj5 (K := X.K) rfl) (kix (zq7 (K := X.K) rfl) (kv S2 1) (kv S2 0) (fun _ _ => rfl)) kint (fun _ _ => rfl)) (K := X.K) rfl) (N := ["count"]) (W := ["count"]) (G := []) (fv := [none]) (by decide +kernel) (fun cl C fp s H S3 => ⟨(kg S3 0), if_nil, kint⟩))⟩)) (hs := by rw [sww_env, hsc]; rfl))
      (zq4 (sif (wpt (wor (tnot (tval (kff S 3 F_law_refused hr (zq0 (kix (zq7 (K := X.K) rfl) (kv S 1) kint (fun _ _ => rfl)) (zq0 (kff S 1 F_law_cell_at hr (zq0 (kv S 0) (zq0 kint zq2))) zq2))))) (wor1 (tnot (tval (kff S 3 F_law_refused hr (zq0 (kix (zq7 (K := X.K) rfl) (kv S 1) kint (fun _ _ => rfl)) (zq0 (kff S 1 F_law_cell_at hr (zq0 (kv S 0) (zq0 kint zq2))) zq2)))))))) (zq5 (sret kbl)) zz0)
      (zq4 (sfor hxe hc (ilistK (ksl (sl_listK (K := X.K) rfl) (kv S 0) (zz6 kint) (zz6 kint)) (K := X.K) rfl) (kg S 4) (zq5 (sif (tnot (tval (kff S 3 F_law_refused hr (zq0 (kix (zq7 (K := X.K) rfl) (kv S 1) (kmodc (kv S 4)) (fun _ _ => rfl)) (zq0 (kv S 4) zq2))))) (zq5 (sret kbl)) zz0)))
      (zq4 (ssv S 5 (kls zq2))
      (zq4 (sfor hxe hc (ilistK (ksl (sl_listK (K := X.K) rfl) (kv S 0) (zz6 kint) ko_none) (K := X.K) rfl) (kg S 4) (zq4 (ssv S 6 (kct S 4 call_int1 B.int boot_int (zq0 (kcmp op_eq (kmodc (kff S 5 F_law_draw hr (zq0 (kv S 4) (zq0 kint zq2)))) kint (zq9 _)) zq2)))
      (zq4 (ssv S 7 (kmodc (kff S 5 F_law_draw hr (zq0 (kv S 4) (zq0 kint zq2)))))
      (zq4 (ssv S 8 kbl)
      (zq4 (sif (tcmp op_lt (kv S 7) kint (zq9 _)) (zq5 (ssv S 8 (kff S 6 F_law_put_one hr (zq0 (kix (zq7 (K := X.K) rfl) (kv S 2) (kv S 6) (fun _ _ => rfl)) (zq0 (kv S 4) (zq0 (kix (zj5 (K := X.K) rfl) (kix (zq7 (K := X.K) rfl) (kv S 1) (kv S 6) (fun _ _ => rfl)) kint (fun _ _ => rfl)) (zq0 (kix (zq7 (K := X.K) rfl) (kv S 3) (kv S 6) (fun _ _ => rfl)) zq2))))))) (zq5 (sif (tcmp op_eq (kv S 7) kint (zq9 _)) (zq5 (ssv S 8 (kff S 7 F_law_put_all hr (zq0 (kix (zq7 (K := X.K) rfl) (kv S 2) (kv S 6) (fun _ _ => rfl)) (zq0 (kv S 4) (zq0 (kix (zj5 (K := X.K) rfl) (kix (zq7 (K := X.K) rfl) (kv S 1) (kv S 6) (fun _ _ => rfl)) kint (fun _ _ => rfl)) (zq0 (kix (zq7 (K := X.K) rfl) (kv S 3) (kv S 6) (fun _ _ => rfl)) zq2))))))) (zq5 (ssv S 8 (kff S 8 F_law_looked hr (zq0 (kix (zq7 (K := X.K) rfl) (kv S 2) (kv S 6) (fun _ _ => rfl)) (zq0 (kv S 4) (zq0 (kix (zq7 (K := X.K) rfl) (kv S 1) (kv S 6) (fun _ _ => rfl)) (zq0 (kix (zq7 (K := X.K) rfl) (kv S 3) (kv S 6) (fun _ _ => rfl)) (zq0 (kv S 5) zq2)))))))))))
      (zq5 (sif (wpt (wor (tnot (tval (kv S 8))) (wor (tnot (tval (kff S 9 F_law_hats_right hr (zq0 (kix (zq7 (K := X.K) rfl) (kv S 2) kint (fun _ _ => rfl)) (zq0 (kix (zq7 (K := X.K) rfl) (kv S 3) kint (fun _ _ => rfl)) zq2))))) (wor1 (tnot (tval (kff S 9 F_law_hats_right hr (zq0 (kix (zq7 (K := X.K) rfl) (kv S 2) kint (fun _ _ => rfl)) (zq0 (kix (zq7 (K := X.K) rfl) (kv S 3) kint (fun _ _ => rfl)) zq2))))))))) (zq5 (sret kbl)) zz0)))))))
      (zq4 (sfor hxe hc (irg1 S 2 B.range (zq0 kint zq2)) (kg S 6) (zq5 (sif (tcmp (op_neK hu (K := X.K) rfl) (kmt0 T_Hall F_Hall_right passE hr (kix (zq7 (K := X.K) rfl) (kv S 2) (kv S 6) (fun _ _ => rfl))) (klc S hc hsc (irg1 S 2 B.range (zq0 (kcb S 10 (zj3 (K := X.K) rfl) B.len boot_len (zq0 (kix (zq7 (K := X.K) rfl) (kv S 3) (kv S 6) (fun _ _ => rfl)) zq2)) zq2)) (N := ["i", "made", "k", "worn"]) (W := ["i"]) (G := ["_law_guess"]) (fv := [none, some 1, some 6, some 3]) (by decide +kernel) (fun cl C fp s H S2 => ⟨(kg S2 0), (if_one (tcmp op_eq (kff S2 0 F_law_guess hr (zq0 (kix (zq7 (K := X.K) rfl) (kv S2 1) (kv S2 2) (fun _ _ => rfl)) (zq0 (kix (zq7 (K := X.K) rfl) (kv S2 3) (kv S2 2) (fun _ _ => rfl)) (zq0 (kv S2 0) zq2)))) (kix (zq7 (K := X.K) rfl) (kix (zq7 (K := X.K) rfl) (kv S2 3) (kv S2 2) (fun _ _ => rfl)) (kv S2 0) (fun _ _ => rfl)) (zq9 _))), (kv S2 0)⟩)) (zq9 _)) (zq5 (sret kbl)) zz0)))
      (zq5 (sret (kcmp (op_eqK hu (K := X.K) rfl) (klc S hc hsc (ilistK (kv S 5) (K := X.K) rfl) (N := ["pair"]) (W := ["pair"]) (G := []) (fv := [none]) (by decide +kernel) (fun cl C fp s H S2 => ⟨(kg S2 0), (if_one (tcmp (op_neK hu (K := X.K) rfl) (kix (zq7 (K := X.K) rfl) (kv S2 0) kint (fun _ _ => rfl)) (kix (zq7 (K := X.K) rfl) (kv S2 0) kint (fun _ _ => rfl)) (zq9 _))), (kv S2 0)⟩)) (kls zq2) (zq9 _)))))))))))), ?_⟩
  rw [q_seq]
  walk_at "rs"
  refine ⟨scr, ns, 0, rfl, ha, fun cell0 => ?_⟩
  refine ⟨cell0, rfl, fun t0 c0 b0 g0 cs0 ws0 us0 L0 H1 s1 O0 A0 G0 l80 => ?_⟩
  refine ⟨scr, ns, 1, rfl, s1.seq ha, fun cell1 => ?_⟩
  refine ⟨cell1, rfl, fun t1 c1 b1 g1 cs1 ws1 us1 L1 H2 s2 O1 A1 G1 l81 => ?_⟩
  refine ⟨by decide, fun made hmade => ?_⟩
  have O0 := O0.mono s2
  have s3 := Same.new hmade (.lst [.ref t0, .ref t1])
  have hm : upd H2 made (.lst [.ref t0, .ref t1]) made = some (.lst [.ref t0, .ref t1]) := zq1
  have O0 := O0.mono s3
  have O1 := O1.mono s3
  have ha := (s1.trans (s2.trans s3)).seq ha
  generalize upd H2 made (.lst [.ref t0, .ref t1]) = H3 at hm O0 O1 ha
  clear s1 s2 s3 hmade
  have gn0 : gfF cs0 ws0 [] 0 (gI L0) = none := gf_none (gone := []) (fun g' hg' => ⟨G0.each g' hg', A0.each g' hg'⟩) A0.disj (fun _ _ _ _ z => nomatch z)
  have gn1 : gfF cs1 ws1 [] 0 (gI L1) = none := gf_none (gone := []) (fun g' hg' => ⟨G1.each g' hg', A1.each g' hg'⟩) A1.disj (fun _ _ _ _ z => nomatch z)
  have e30 : ∀ g ∈ gI L0, g.2.length <= 30 := gI_take_len O0.cok.len A0 fun g hg => (A0.each g hg).nd
  have e31 : ∀ g ∈ gI L1, g.2.length <= 30 := gI_take_len O1.cok.len A1 fun g hg => (A1.each g hg).nd
  have k80 := O0.cok.len
  have k81 := O1.cok.len
  rw [q_seq]
  walk_at "rs"
  refine lcNew 2 (OkH70 X.K cHall c0 g0 c1 g1 cs0 cs1 us0 us1) rfl (by omega) (fun i r H h => ?_) (fun i r H H' s h => ?_) (fun i r acc ys zs H ha hne h => ?_) (fun i J A hi hS hA' => ?_) ?_
  · obtain ⟨_, _, dx, fs, h⟩ := h; exact ⟨_, h⟩
  · obtain ⟨h1, h2, dx, fs, h3⟩ := h; exact ⟨fun e => (h1 e).mono s, fun e => (h2 e).mono s, dx, fs, s _ _ h3⟩
  · obtain ⟨h1, h2, dx, fs, h3⟩ := h; exact ⟨fun e => HallAt.updA (h1 e) ha hne, fun e => HallAt.updA (h2 e) ha hne, dx, fs, by rw [zj4 (Ne.symm hne)]; exact h3⟩
  · walk_at "rd"
    have O0 := O0.mono hS
    have O1 := O1.mono hS
    have mk : ∀ (a dx : Addr), J a = none -> J dx = none -> dx ≠ a -> Same J (upd (upd J dx (.own a)) a (.ins cHall dx [])) := fun a dx hax hdx hne => (Same.new hdx _).trans (Same.new (by rw [zj4 (Ne.symm hne)]; exact hax) _)
    obtain rfl | rfl : i = 0 ∨ i = 1 := by omega
    · refine zj1 (SqL.of (hS _ _ hm)) rfl ?_
      refine to_ixT O0.ht rfl ?_
      refine zj1 (SqL.of (hS _ _ hm)) rfl ?_
      refine to_ixT O0.ht rfl ?_
      refine zj1 (SqL.of (hS _ _ hm)) rfl ?_
      refine to_ixT O0.ht rfl ?_
      intro a dx hax hdx hne
      have s5 := mk a dx hax hdx hne
      have O5 := O0.mono s5
      refine ⟨a, dx, c0, b0, g0, cs0, ws0, us0, gI L0, rfl, zq1, O5.hc, O5.hw, O5.hg, O5.hL.gi, O5.wl, k80, e30, by rw [gI_len]; omega, fun z => absurd gn0 z, fun _ H6 o6 hH6 => ⟨rfl, ?_⟩⟩
      obtain ⟨dx6, n6, h6, _⟩ := hH6.ex
      exact hA' a H6 (s5.off hax o6) hax ⟨fun _ => hH6, (fun e => absurd e (by decide)), dx6, _, h6⟩
    · refine zj1 (SqL.of (hS _ _ hm)) rfl ?_
      refine to_ixT O1.ht rfl ?_
      refine zj1 (SqL.of (hS _ _ hm)) rfl ?_
      refine to_ixT O1.ht rfl ?_
      refine zj1 (SqL.of (hS _ _ hm)) rfl ?_
      refine to_ixT O1.ht rfl ?_
      intro a dx hax hdx hne
      have s5 := mk a dx hax hdx hne
      have O5 := O1.mono s5
      refine ⟨a, dx, c1, b1, g1, cs1, ws1, us1, gI L1, rfl, zq1, O5.hc, O5.hw, O5.hg, O5.hL.gi, O5.wl, k81, e31, by rw [gI_len]; omega, fun z => absurd gn1 z, fun _ H6 o6 hH6 => ⟨rfl, ?_⟩⟩
      obtain ⟨dx6, n6, h6, _⟩ := hH6.ex
      exact hA' a H6 (s5.off hax o6) hax ⟨(fun e => absurd e (by decide)), fun _ => hH6, dx6, _, h6⟩
  intro halls rs H4 hh0 s4 hhl hl2 hnd hhn hOk
  obtain ⟨a0, a1, rfl⟩ : ∃ a0 a1, rs = [a0, a1] := by
    match rs, hl2 with
    | [x, y], _ => exact ⟨x, y, rfl⟩
  have aa : a0 ≠ a1 := fun z => by rw [z] at hnd; simp at hnd
  have hA0 := (hOk 0 a0 rfl).1.1 rfl
  have hA1 := (hOk 1 a1 rfl).1.2.1 rfl
  have hm := s4 _ _ hm
  have O0 := O0.mono s4
  have O1 := O1.mono s4
  have ha := s4.seq ha
  rw [q_seq]
  walk_at "rs"
  refine lcNew 2 (OkW70 cs0 cs1) rfl (by omega) (fun i r H h => ?_) (fun i r H H' s h => ?_) (fun i r acc ys zs H ha hne h => ?_) (fun i J A hi hS hA' => ?_) ?_
  · obtain ⟨_, _, ys, h⟩ := h; exact ⟨_, h⟩
  · obtain ⟨h1, h2, ys, h3⟩ := h; exact ⟨fun e => s _ _ (h1 e), fun e => s _ _ (h2 e), ys, s _ _ h3⟩
  · obtain ⟨h1, h2, ys', h3⟩ := h; exact ⟨fun e => by rw [zj4 (Ne.symm hne)]; exact h1 e, fun e => by rw [zj4 (Ne.symm hne)]; exact h2 e, ys', by rw [zj4 (Ne.symm hne)]; exact h3⟩
  · walk_at "rd"
    obtain rfl | rfl : i = 0 ∨ i = 1 := by omega
    · refine zj1 (SqL.of (hS _ _ hm)) rfl ?_
      refine to_ixT (O0.mono hS).ht rfl ?_
      refine lcT (fun _ => true) (fun _ => 0) (O0.mono hS).hc (zj7 (by omega)) (fun k J2 A2 B2 hk s2 h2 _ => ?_) (fun acc J2 h0 s2 hacc => ?_)
      · walk_at "rd"
        exact h2 rfl _ (Same.refl _)
      · rw [range_zero] at hacc
        exact hA' acc J2 s2 h0 ⟨fun _ => hacc, (fun e => absurd e (by decide)), _, hacc⟩
    · refine zj1 (SqL.of (hS _ _ hm)) rfl ?_
      refine to_ixT (O1.mono hS).ht rfl ?_
      refine lcT (fun _ => true) (fun _ => 0) (O1.mono hS).hc (zj7 (by omega)) (fun k J2 A2 B2 hk s2 h2 _ => ?_) (fun acc J2 h0 s2 hacc => ?_)
      · walk_at "rd"
        exact h2 rfl _ (Same.refl _)
      · rw [range_zero] at hacc
        exact hA' acc J2 s2 h0 ⟨(fun e => absurd e (by decide)), fun _ => hacc, _, hacc⟩
  intro wl rs H5 hw0 s5 hwl hl3 hnd3 hwn hOkW
  obtain ⟨w0, w1, rfl⟩ : ∃ w0 w1, rs = [w0, w1] := by
    match rs, hl3 with
    | [x, y], _ => exact ⟨x, y, rfl⟩
  have ww : w0 ≠ w1 := fun z => by rw [z] at hnd3; simp at hnd3
  have hW0 := (hOkW 0 w0 rfl).1.1 rfl
  have hW1 := (hOkW 1 w1 rfl).1.2.1 rfl
  have n0 := (hOkW 0 w0 rfl).2
  have n1 := (hOkW 1 w1 rfl).2
  have m0 : made ≠ w0 := zj0 hm n0
  have m1 : made ≠ w1 := zj0 hm n1
  have x0 : halls ≠ w0 := zj0 hhl n0
  have x1 : halls ≠ w1 := zj0 hhl n1
  have v0 : wl ≠ w0 := fun z => hwn (by rw [z]; simp)
  have v1 : wl ≠ w1 := fun z => hwn (by rw [z]; simp)
  have one0 : One70 X.K cHall H5 t0 a0 w0 c0 b0 g0 cs0 (List.replicate cs0.length 0) ws0 us0 L0 := ⟨hA0.mono s5, O0.mono s5, G0, HN.zero71 O0.cok.pos, hW0⟩
  have one1 : One70 X.K cHall H5 t1 a1 w1 c1 b1 g1 cs1 (List.replicate cs1.length 0) ws1 us1 L1 := ⟨hA1.mono s5, O1.mono s5, G1, HN.zero71 O1.cok.pos, hW1⟩
  have hm := s5 _ _ hm
  have hhl := s5 _ _ hhl
  have ha := s5.seq ha
  clear hOk hOkW hA0 hA1 O0 O1 hW0 hW1 n0 n1 s4 s5
  rw [q_seq]
  walk_at "rs"
  refine zj1 (SqL.of hm) rfl ?_
  refine ⟨scr, ns, 1, rfl, ha, fun k1 => ?_⟩
  refine ⟨t0, c0, b0, g0, k1, cs0, ws0, us0, L0, rfl, one0.house, A0, G0, l80, fun H6 s6 => ?_⟩
  walk_at "rs"
  refine zj1 (SqL.of (s6 _ _ hm)) rfl ?_
  refine ⟨scr, ns, 0, rfl, s6.seq ha, fun k0 => ?_⟩
  refine ⟨t1, c1, b1, g1, k0, cs1, ws1, us1, L1, rfl, one1.house.mono s6, A1, G1, l81, fun H7 s7 => ?_⟩
  walk_at "rs"
  have s8 := s6.trans s7
  have one0 := one0.mono s8
  have one1 := one1.mono s8
  have hm := s8 _ _ hm
  have hhl := s8 _ _ hhl
  have hwl := s8 _ _ hwl
  have ha := s8.seq ha
  clear s8 s7 s6
  rw [q_seq]
  walk_at "rs"
  obtain ⟨ms1, em1⟩ : ∃ ms : List Int, cutV (ns.map V.int) (some 2) (some 14) = ms.map V.int := ⟨_, by unfold cutV; rw [<- List.map_drop, <- List.map_take]⟩
  refine ⟨scr, _, rfl, ha, fun z1 hz1 => ?_⟩
  rw [em1]
  have sz1 := Same.new hz1 (.lst (ms1.map V.int))
  refine forL (InvA70 H7 scr made halls wl z1 ms1) (SqL.of zq1) ⟨_, rfl, sz1, zq1⟩ (fun i σ H h => by obtain ⟨_, _, _, h⟩ := h; exact SqL.of h) ?_ ?_
  · rintro i σ J hi ⟨y, rfl, sJ, hzJ⟩
    generalize ms1.getD i 0 = cell
    walk_at "rd"
    have m2 : cell % 2 = 0 ∨ cell % 2 = 1 := by omega
    rcases m2 with m2 | m2
    · rw [m2]
      refine zj1 (SqL.of (sJ _ _ hm)) rfl ?_
      refine ⟨t0, c0, b0, g0, cell, cs0, ws0, us0, L0, rfl, one0.house.mono sJ, A0, G0, l80, fun J2 s2 => ?_⟩
      walk_at "rd"
      exact ⟨_, rfl, sJ.trans s2, s2 _ _ hzJ⟩
    · rw [m2]
      refine zj1 (SqL.of (sJ _ _ hm)) rfl ?_
      refine ⟨t1, c1, b1, g1, cell, cs1, ws1, us1, L1, rfl, one1.house.mono sJ, A1, G1, l81, fun J2 s2 => ?_⟩
      walk_at "rd"
      exact ⟨_, rfl, sJ.trans s2, s2 _ _ hzJ⟩
  rintro σ J ⟨y, rfl, sJ, _⟩
  have one0 := one0.mono sJ
  have one1 := one1.mono sJ
  have hm := sJ _ _ hm
  have hhl := sJ _ _ hhl
  have hwl := sJ _ _ hwl
  have ha := sJ.seq ha
  clear sz1 hz1 em1 sJ
  dsimp only
  rw [q_seq]
  walk_at "rs"
  refine ⟨by decide, fun held hheld => ?_⟩
  have sh := Same.new hheld (.lst [])
  have y0 : w0 ≠ held := zj0 one0.worn hheld
  have y1 : w1 ≠ held := zj0 one1.worn hheld
  have y2 : made ≠ held := zj0 hm hheld
  have y3 : halls ≠ held := zj0 hhl hheld
  have y4 : wl ≠ held := zj0 hwl hheld
  have hd1 : upd J held (.lst []) held = some (.lst []) := zq1
  generalize upd J held (.lst []) = J1 at sh hd1 ⊢
  rw [q_seq]
  walk_at "rs"
  refine to_slLd 2 (sh.seq ha) rfl fun z hz => ?_
  have sz := Same.new hz (.lst ((ns.drop 2).map V.int))
  have hz2 : upd J1 z (.lst ((ns.drop 2).map V.int)) z = some (.lst ((ns.drop 2).map V.int)) := zq1
  have u0 : z ≠ w0 := (zj0 (sh _ _ one0.worn) hz).symm
  have u1 : z ≠ w1 := (zj0 (sh _ _ one1.worn) hz).symm
  have u2 : z ≠ held := (zj0 hd1 hz).symm
  generalize upd J1 z (.lst ((ns.drop 2).map V.int)) = J2 at sz hz2 ⊢
  have sA := sh.trans sz
  have A : Ap70 z made halls wl held a0 w0 a1 w1 := ⟨aa, ww, y0, y1, ⟨u0, u1, u2⟩, ⟨m0, m1, y2⟩, ⟨x0, x1, y3⟩, ⟨v0, v1, y4⟩⟩
  have T : Two70 X.K cHall J2 z made halls wl held t0 a0 w0 c0 b0 g0 t1 a1 w1 c1 b1 g1 cs0 cs1 (ns.drop 2) ws0 ws1 us0 us1 L0 L1 (List.replicate cs0.length 0) (List.replicate cs1.length 0) [] := ⟨one0.mono sA, one1.mono sA, sA _ _ hm, sA _ _ hhl, sA _ _ hwl, hz2, sz _ _ hd1, fun u hu => nomatch hu⟩
  have hns : (ns.drop 2).length <= 63 := by rw [List.length_drop]; omega
  clear one0 one1 hm hhl hwl sA sz sh hd1
  refine forL (InvL70 X.K cHall scr z made halls wl held t0 a0 w0 c0 b0 g0 t1 a1 w1 c1 b1 g1 cs0 cs1 (ns.drop 2) ws0 ws1 us0 us1 L0 L1 (fun _ => True)) (SqL.of hz2) ⟨_, _, [], _, _, _, _, rfl, trivial, Nat.le_refl _, T⟩ (fun i σ H h => by obtain ⟨_, _, _, _, _, _, _, _, _, _, T⟩ := h; exact SqL.of T.hz) ?_ ?_
  · clear T
    rintro i σ J hi ⟨hs0, hs1, hv, y4, y6, y7, y8, rfl, _, hvl, T⟩
    generalize (ns.drop 2).getD i 0 = cell
    walk_at "rs"
    rw [q_seq]
    walk_at "rs"
    refine zj6 ⟨by omega, by omega⟩ fun d0 _ => ?_
    walk_at "rs"
    refine .inr ⟨_, rfl, ?_⟩
    generalize decide ((d0 : Int) % 4 = 0) = kb
    rw [q_seq]
    walk_at "rs"
    refine zj6 ⟨by omega, by omega⟩ fun d9 _ => ?_
    walk_at "rs"
    generalize (d9 : Int) % 5 = kind
    rw [q_seq]
    walk_at "rs"
    refine seqJ (InvL70 X.K cHall scr z made halls wl held t0 a0 w0 c0 b0 g0 t1 a1 w1 c1 b1 g1 cs0 cs1 (ns.drop 2) ws0 ws1 us0 us1 L0 L1 (fun y => y = some (.bl true)) (i + 1)) (fun σ J h => ?_) (fun R hR => ?_)
    rotate_left
    · cases kb with
      | false =>
        walk_at "rd"
        refine ite2 (fun _ => ?_) (fun _ => ?_)
        · skip
          refine zj1 (SqL.of T.hh) rfl ?_
          refine zj1 (SqL.of T.hm) rfl ?_
          refine to_ixT T.one0.house.ht rfl ?_
          refine zj1 (SqL.of T.hw) rfl ?_
          exact ⟨a0, c0, g0, w0, cell, cs0, hs0, us0, rfl, T.one0.hall, T.one0.house.cok, T.one0.worn, T.one0.hn, fun hs' H' o h1 h2 h3 => hR _ _ ⟨hs', hs1, hv, _, _, _, _, rfl, rfl, by omega, T.put0 A o h1 h2 h3⟩⟩
        refine ite2 (fun _ => ?_) (fun _ => ?_)
        · skip
          refine zj1 (SqL.of T.hh) rfl ?_
          refine zj1 (SqL.of T.hm) rfl ?_
          refine to_ixT T.one0.house.ht rfl ?_
          refine zj1 (SqL.of T.hw) rfl ?_
          exact ⟨a0, c0, g0, w0, cell, cs0, hs0, us0, rfl, T.one0.hall, T.one0.house.cok, T.one0.worn, T.one0.hn, fun hs' H' o h1 h2 h3 => hR _ _ ⟨hs', hs1, hv, _, _, _, _, rfl, rfl, by omega, T.put0 A o h1 h2 h3⟩⟩
        · refine zj1 (SqL.of T.hh) rfl ?_
          refine zj1 (SqL.of T.hm) rfl ?_
          refine zj1 (SqL.of T.hw) rfl ?_
          exact ⟨a0, t0, c0, b0, g0, w0, held, cell, cs0, hs0, ws0, us0, hv, L0, [held, w0, w1], rfl, T.one0.hall, T.one0.house, T.one0.gs, T.one0.worn, T.one0.hn, T.hd, by omega, T.pairs, by simp, T.live, fun hv' H' o h1 h2 h3 => hR _ _ ⟨hs0, hs1, hv', _, _, _, _, rfl, rfl, by omega, T.look A o h1 h3⟩⟩
      | true =>
        walk_at "rd"
        refine ite2 (fun _ => ?_) (fun _ => ?_)
        · skip
          refine zj1 (SqL.of T.hh) rfl ?_
          refine zj1 (SqL.of T.hm) rfl ?_
          refine to_ixT T.one1.house.ht rfl ?_
          refine zj1 (SqL.of T.hw) rfl ?_
          exact ⟨a1, c1, g1, w1, cell, cs1, hs1, us1, rfl, T.one1.hall, T.one1.house.cok, T.one1.worn, T.one1.hn, fun hs' H' o h1 h2 h3 => hR _ _ ⟨hs0, hs', hv, _, _, _, _, rfl, rfl, by omega, T.put1 A o h1 h2 h3⟩⟩
        refine ite2 (fun _ => ?_) (fun _ => ?_)
        · skip
          refine zj1 (SqL.of T.hh) rfl ?_
          refine zj1 (SqL.of T.hm) rfl ?_
          refine to_ixT T.one1.house.ht rfl ?_
          refine zj1 (SqL.of T.hw) rfl ?_
          exact ⟨a1, c1, g1, w1, cell, cs1, hs1, us1, rfl, T.one1.hall, T.one1.house.cok, T.one1.worn, T.one1.hn, fun hs' H' o h1 h2 h3 => hR _ _ ⟨hs0, hs', hv, _, _, _, _, rfl, rfl, by omega, T.put1 A o h1 h2 h3⟩⟩
        · refine zj1 (SqL.of T.hh) rfl ?_
          refine zj1 (SqL.of T.hm) rfl ?_
          refine zj1 (SqL.of T.hw) rfl ?_
          exact ⟨a1, t1, c1, b1, g1, w1, held, cell, cs1, hs1, ws1, us1, hv, L1, [held, w0, w1], rfl, T.one1.hall, T.one1.house, T.one1.gs, T.one1.worn, T.one1.hn, T.hd, by omega, T.pairs, by simp, T.live, fun hv' H' o h1 h2 h3 => hR _ _ ⟨hs0, hs1, hv', _, _, _, _, rfl, rfl, by omega, T.look A o h1 h3⟩⟩
    · obtain ⟨hs0, hs1, hv, y4, y6, y7, y8, rfl, rfl, hvl, T⟩ := h
      walk_at "rd"
      refine zj1 (SqL.of T.hh) rfl ?_
      refine zj1 (SqL.of T.hw) rfl ?_
      refine ⟨a0, c0, g0, w0, cs0, hs0, us0, rfl, T.one0.hall, T.one0.worn, by rw [T.one0.hn.1]; exact k80, fun J2 s2 => ?_⟩
      have T := T.mono s2
      walk_at "rd"
      refine zj1 (SqL.of T.hh) rfl ?_
      refine zj1 (SqL.of T.hw) rfl ?_
      refine ⟨a1, c1, g1, w1, cs1, hs1, us1, rfl, T.one1.hall, T.one1.worn, by rw [T.one1.hn.1]; exact k81, fun J3 s3 => ?_⟩
      have T := T.mono s3
      walk_at "rd"
      exact ⟨hs0, hs1, hv, _, _, _, _, rfl, trivial, hvl, T⟩
  clear T
  rintro σ J ⟨hs0, hs1, hv, y4, y6, y7, y8, rfl, _, hvl, T⟩
  dsimp only
  rw [q_seq]
  walk_at "rs"
  refine forR 2 (fun _ => InvL70 X.K cHall scr z made halls wl held t0 a0 w0 c0 b0 g0 t1 a1 w1 c1 b1 g1 cs0 cs1 (ns.drop 2) ws0 ws1 us0 us1 L0 L1 (fun _ => True) 63) rfl (by omega) ⟨hs0, hs1, hv, _, _, _, _, rfl, trivial, by omega, T⟩ ?_ ?_
  · clear T
    rintro k σ J2 hk ⟨hs0, hs1, hv, y4, y6, y7, y8, rfl, _, hvl, T⟩
    walk_at "rd"
    obtain rfl | rfl : k = 0 ∨ k = 1 := by omega
    · refine zj1 (SqL.of T.hh) rfl ?_
      obtain ⟨dx, n, hx, _⟩ := T.one0.hall.ex
      refine ⟨a0, dx, _, rfl, hx, hf_no, a0, c0, g0, cs0, hs0, ws0, us0, L0, rfl, T.one0.hall, T.one0.house.hL, T.one0.house.cok, T.one0.hn, T.one0.gs, fun fl J3 s3 _ hfl => ?_⟩
      refine zj1 (SqL.of (s3 _ _ T.hw)) rfl ?_
      refine zz7 (.inl (SqL.of (s3 _ _ T.one0.worn))) ?_
      rw [List.length_map, T.one0.hn.1]
      refine lcR cs0.length (fun i => decide (ggu cs0 L0 hs0 i = hs0.getD i 0)) (fun i => (i : Int)) rfl (by omega) (fun i J4 A B' hi hS hA' hB => ?_) (fun du J4 h0 s4 hdu => ?_)
      · walk_at "rd"
        refine zj1 (SqL.of ((s3.trans hS) _ _ T.hm)) rfl ?_
        refine zj1 (SqL.of ((s3.trans hS) _ _ T.hw)) rfl ?_
        refine ⟨t0, c0, b0, g0, w0, cs0, hs0, ws0, us0, L0, i, rfl, T.one0.house.mono (s3.trans hS), T.one0.gs, SqL.of ((s3.trans hS) _ _ T.one0.worn), T.one0.hn, hi, fun J5 s5 => ?_⟩
        refine zj1 (SqL.of ((s3.trans (hS.trans s5)) _ _ T.hw)) rfl ?_
        refine to_ixLk (SqL.of ((s3.trans (hS.trans s5)) _ _ T.one0.worn)) rfl (by rw [T.one0.hn.1]; exact hi) ?_
        walk_at "rd"
        by_cases e : ggu cs0 L0 hs0 i = hs0.getD i 0
        · rw [if_pos e]
          exact hA' (decide_eq_true e) J5 s5
        · rw [if_neg e]
          exact hB (decide_eq_false e) J5 s5
      · have hdu' : J4 du = some (.lst ((asI (rights71 cs0 hs0 L0)).map V.int)) := hdu
        refine ⟨_, _, .lst (SqL.of (s4 _ _ hfl)) (DtAll.ints _), .lst (SqL.of hdu') (DtAll.ints _), zz1 _, zz1 _, ?_⟩
        rw [eqv_ints, decide_eq_true rfl]
        walk_at "rd"
        exact ⟨hs0, hs1, hv, _, _, _, _, rfl, trivial, hvl, T.mono (s3.trans s4)⟩
    · refine zj1 (SqL.of T.hh) rfl ?_
      obtain ⟨dx, n, hx, _⟩ := T.one1.hall.ex
      refine ⟨a1, dx, _, rfl, hx, hf_no, a1, c1, g1, cs1, hs1, ws1, us1, L1, rfl, T.one1.hall, T.one1.house.hL, T.one1.house.cok, T.one1.hn, T.one1.gs, fun fl J3 s3 _ hfl => ?_⟩
      refine zj1 (SqL.of (s3 _ _ T.hw)) rfl ?_
      refine zz7 (.inl (SqL.of (s3 _ _ T.one1.worn))) ?_
      rw [List.length_map, T.one1.hn.1]
      refine lcR cs1.length (fun i => decide (ggu cs1 L1 hs1 i = hs1.getD i 0)) (fun i => (i : Int)) rfl (by omega) (fun i J4 A B' hi hS hA' hB => ?_) (fun du J4 h0 s4 hdu => ?_)
      · walk_at "rd"
        refine zj1 (SqL.of ((s3.trans hS) _ _ T.hm)) rfl ?_
        refine zj1 (SqL.of ((s3.trans hS) _ _ T.hw)) rfl ?_
        refine ⟨t1, c1, b1, g1, w1, cs1, hs1, ws1, us1, L1, i, rfl, T.one1.house.mono (s3.trans hS), T.one1.gs, SqL.of ((s3.trans hS) _ _ T.one1.worn), T.one1.hn, hi, fun J5 s5 => ?_⟩
        refine zj1 (SqL.of ((s3.trans (hS.trans s5)) _ _ T.hw)) rfl ?_
        refine to_ixLk (SqL.of ((s3.trans (hS.trans s5)) _ _ T.one1.worn)) rfl (by rw [T.one1.hn.1]; exact hi) ?_
        walk_at "rd"
        by_cases e : ggu cs1 L1 hs1 i = hs1.getD i 0
        · rw [if_pos e]
          exact hA' (decide_eq_true e) J5 s5
        · rw [if_neg e]
          exact hB (decide_eq_false e) J5 s5
      · have hdu' : J4 du = some (.lst ((asI (rights71 cs1 hs1 L1)).map V.int)) := hdu
        refine ⟨_, _, .lst (SqL.of (s4 _ _ hfl)) (DtAll.ints _), .lst (SqL.of hdu') (DtAll.ints _), zz1 _, zz1 _, ?_⟩
        rw [eqv_ints, decide_eq_true rfl]
        walk_at "rd"
        exact ⟨hs0, hs1, hv, _, _, _, _, rfl, trivial, hvl, T.mono (s3.trans s4)⟩
  clear T
  rintro σ J2 ⟨hs0, hs1, hv, y4, y6, y7, y8, rfl, _, hvl, T⟩
  walk_at "rd"
  refine lcVN (SqL.of T.hd) (zj7 (by omega)) (fun i J3 A B' hi hS hB => ?_) (fun acc J3 h0 s3 hacc => ?_)
  · have hmem : hv.getD i .non ∈ hv := by
      rw [List.getD_eq_getElem?_getD, List.getElem?_eq_getElem hi]; exact List.getElem_mem hi
    obtain ⟨p, f, d, xs, e, h1, h2, h3, _⟩ := T.pairs _ hmem
    rw [e]
    walk_at "rd"
    refine zj1 (SqL.of (hS _ _ h1)) rfl ?_
    refine zj1 (SqL.of (hS _ _ h1)) rfl ?_
    refine ⟨_, _, .lst (SqL.of (hS _ _ h2)) (DtAll.ints _), .lst (SqL.of (hS _ _ h3)) (DtAll.ints _), zz1 _, zz1 _, ?_⟩
    rw [eqv_ints, decide_eq_true rfl]
    walk_at "rd"
    exact hB _ (Same.refl _)
  · refine ⟨by decide, fun u hu1 => ?_⟩
    have su := Same.new hu1 (.lst [])
    refine ⟨_, _, .lst (SqL.of (su _ _ hacc)) .nil, .lst (SqL.of zq1) .nil, by decide, by decide, ?_⟩
    rw [show PyData.eqv (.list []) (.list []) = true from by decide]
    exact q _
end
theorem all_mk {l : PySem.W.OpenLaw} {w : World} {K : Frag} {h : Heap} {mg : Str -> Option Value} {fa f0 f1 f2 f3 f4 f5 f6 f7 f8 f9 f10 f11 f12 f13 f14 f15 f16 f17 f18 f19 f20 f21 f22 f23 f24 f25 f26 f27 f28 f29 f30 : Addr} (X : K.In h) (G : h.Ns mainGlobals mg) (hfa : mg "law" = some (.ref fa))
    {od0 an0 od1 an1 od2 an2 od3 an3 od4 an4 od5 an5 od6 an6 od7 an7 od8 an8 od9 an9 od10 an10 od11 an11 od12 an12 od13 an13 od14 an14 od15 an15 od16 an16 od17 an17 od18 an18 od19 an19 od20 an20 od21 an21 od22 an22 od23 an23 od24 an24 od25 an25 od26 an26 od27 an27 od28 an28 od29 an29 od30 an30 : Option Addr} {sl0 sl1 sl2 sl3 sl4 sl5 sl6 sl7 sl8 sl9 sl10 sl11 sl12 sl13 sl14 sl15 sl16 sl17 sl18 sl19 sl20 sl21 sl22 sl23 sl24 sl25 sl26 sl27 sl28 sl29 sl30 : Array (Option Value)} {oc0 kV0 dc0 pm0 cd0 ct0 oc1 kV1 dc1 pm1 cd1 ct1 oc2 kV2 dc2 pm2 cd2 ct2 oc3 kV3 dc3 pm3 cd3 ct3 oc4 kV4 dc4 pm4 cd4 ct4 oc5 kV5 dc5 pm5 cd5 ct5 oc6 kV6 dc6 pm6 cd6 ct6 oc7 kV7 dc7 pm7 cd7 ct7 oc8 kV8 dc8 pm8 cd8 ct8 oc9 kV9 dc9 pm9 cd9 ct9 oc10 kV10 dc10 pm10 cd10 ct10 oc11 kV11 dc11 pm11 cd11 ct11 oc12 kV12 dc12 pm12 cd12 ct12 oc13 kV13 dc13 pm13 cd13 ct13 oc14 kV14 dc14 pm14 cd14 ct14 oc15 kV15 dc15 pm15 cd15 ct15 oc16 kV16 dc16 pm16 cd16 ct16 oc17 kV17 dc17 pm17 cd17 ct17 oc18 kV18 dc18 pm18 cd18 ct18 oc19 kV19 dc19 pm19 cd19 ct19 oc20 kV20 dc20 pm20 cd20 ct20 oc21 kV21 dc21 pm21 cd21 ct21 oc22 kV22 dc22 pm22 cd22 ct22 oc23 kV23 dc23 pm23 cd23 ct23 oc24 kV24 dc24 pm24 cd24 ct24 oc25 kV25 dc25 pm25 cd25 ct25 oc26 kV26 dc26 pm26 cd26 ct26 oc27 kV27 dc27 pm27 cd27 ct27 oc28 kV28 dc28 pm28 cd28 ct28 oc29 kV29 dc29 pm29 cd29 ct29 oc30 kV30 dc30 pm30 cd30 ct30 : Value}
    (a0 : PySem.W.nsIn K mainGlobals "product" = some (some (.ref f0))) (l0 : K.lookup f0 = some ⟨oc0, od0, .func (PySem.W.fnOf "product" "product" (zj2 s_product) (zq8 s_product) (zq3 s_product) .none kV0 dc0 pm0 an0 cd0 ct0), sl0⟩) (c0 : PySem.W.codeIn K cd0 "product" = true) (k0 : PySem.W.keepIn K (.ref f0) = true)
    (a1 : PySem.W.nsIn K mainGlobals "circle_guess" = some (some (.ref f1))) (l1 : K.lookup f1 = some ⟨oc1, od1, .func (PySem.W.fnOf "circle_guess" "circle_guess" (zj2 s_circle_guess) (zq8 s_circle_guess) (zq3 s_circle_guess) .none kV1 dc1 pm1 an1 cd1 ct1), sl1⟩) (c1 : PySem.W.codeIn K cd1 "circle_guess" = true) (k1 : PySem.W.keepIn K (.ref f1) = true)
    (a2 : PySem.W.nsIn K mainGlobals "ring_guess" = some (some (.ref f2))) (l2 : K.lookup f2 = some ⟨oc2, od2, .func (PySem.W.fnOf "ring_guess" "ring_guess" (zj2 s_ring_guess) (zq8 s_ring_guess) (zq3 s_ring_guess) .none kV2 dc2 pm2 an2 cd2 ct2), sl2⟩) (c2 : PySem.W.codeIn K cd2 "ring_guess" = true) (k2 : PySem.W.keepIn K (.ref f2) = true)
    (a3 : PySem.W.nsIn K mainGlobals "sees" = some (some (.ref f3))) (l3 : K.lookup f3 = some ⟨oc3, od3, .func (PySem.W.fnOf "sees" "sees" (zj2 s_sees) (zq8 s_sees) (zq3 s_sees) .none kV3 dc3 pm3 an3 cd3 ct3), sl3⟩) (c3 : PySem.W.codeIn K cd3 "sees" = true) (k3 : PySem.W.keepIn K (.ref f3) = true)
    (a4 : PySem.W.nsIn K mainGlobals "is_circle" = some (some (.ref f4))) (l4 : K.lookup f4 = some ⟨oc4, od4, .func (PySem.W.fnOf "is_circle" "is_circle" (zj2 s_is_circle) (zq8 s_is_circle) (zq3 s_is_circle) .none kV4 dc4 pm4 an4 cd4 ct4), sl4⟩) (c4 : PySem.W.codeIn K cd4 "is_circle" = true) (k4 : PySem.W.keepIn K (.ref f4) = true)
    (a5 : PySem.W.nsIn K mainGlobals "is_ring" = some (some (.ref f5))) (l5 : K.lookup f5 = some ⟨oc5, od5, .func (PySem.W.fnOf "is_ring" "is_ring" (zj2 s_is_ring) (zq8 s_is_ring) (zq3 s_is_ring) .none kV5 dc5 pm5 an5 cd5 ct5), sl5⟩) (c5 : PySem.W.codeIn K cd5 "is_ring" = true) (k5 : PySem.W.keepIn K (.ref f5) = true)
    (a6 : PySem.W.nsIn K mainGlobals "rises" = some (some (.ref f6))) (l6 : K.lookup f6 = some ⟨oc6, od6, .func (PySem.W.fnOf "rises" "rises" (zj2 s_rises) (zq8 s_rises) (zq3 s_rises) .none kV6 dc6 pm6 an6 cd6 ct6), sl6⟩) (c6 : PySem.W.codeIn K cd6 "rises" = true) (k6 : PySem.W.keepIn K (.ref f6) = true)
    (a7 : PySem.W.nsIn K mainGlobals "is_group" = some (some (.ref f7))) (l7 : K.lookup f7 = some ⟨oc7, od7, .func (PySem.W.fnOf "is_group" "is_group" (zj2 s_is_group) (zq8 s_is_group) (zq3 s_is_group) .none kV7 dc7 pm7 an7 cd7 ct7), sl7⟩) (c7 : PySem.W.codeIn K cd7 "is_group" = true) (k7 : PySem.W.keepIn K (.ref f7) = true)
    (a8 : PySem.W.nsIn K mainGlobals "group_fault" = some (some (.ref f8))) (l8 : K.lookup f8 = some ⟨oc8, od8, .func (PySem.W.fnOf "group_fault" "group_fault" (zj2 s_group_fault) (zq8 s_group_fault) (zq3 s_group_fault) .none kV8 dc8 pm8 an8 cd8 ct8), sl8⟩) (c8 : PySem.W.codeIn K cd8 "group_fault" = true) (k8 : PySem.W.keepIn K (.ref f8) = true)
    (a9 : PySem.W.nsIn K mainGlobals "picked" = some (some (.ref f9))) (l9 : K.lookup f9 = some ⟨oc9, od9, .func (PySem.W.fnOf "picked" "picked" (zj2 s_picked) (zq8 s_picked) (zq3 s_picked) .none kV9 dc9 pm9 an9 cd9 ct9), sl9⟩) (c9 : PySem.W.codeIn K cd9 "picked" = true) (k9 : PySem.W.keepIn K (.ref f9) = true)
    (a10 : PySem.W.nsIn K mainGlobals "group_guess" = some (some (.ref f10))) (l10 : K.lookup f10 = some ⟨oc10, od10, .func (PySem.W.fnOf "group_guess" "group_guess" (zj2 s_group_guess) (zq8 s_group_guess) (zq3 s_group_guess) .none kV10 dc10 pm10 an10 cd10 ct10), sl10⟩) (c10 : PySem.W.codeIn K cd10 "group_guess" = true) (k10 : PySem.W.keepIn K (.ref f10) = true)
    (a11 : PySem.W.nsIn K mainGlobals "are_hats" = some (some (.ref f11))) (l11 : K.lookup f11 = some ⟨oc11, od11, .func (PySem.W.fnOf "are_hats" "are_hats" (zj2 s_are_hats) (zq8 s_are_hats) (zq3 s_are_hats) .none kV11 dc11 pm11 an11 cd11 ct11), sl11⟩) (c11 : PySem.W.codeIn K cd11 "are_hats" = true) (k11 : PySem.W.keepIn K (.ref f11) = true)
    (a12 : PySem.W.nsIn K mainGlobals "_law_cell_at" = some (some (.ref f12))) (l12 : K.lookup f12 = some ⟨oc12, od12, .func (PySem.W.fnOf "_law_cell_at" "_law_cell_at" (zj2 s_law_cell_at) (zq8 s_law_cell_at) (zq3 s_law_cell_at) .none kV12 dc12 pm12 an12 cd12 ct12), sl12⟩) (c12 : PySem.W.codeIn K cd12 "_law_cell_at" = true) (k12 : PySem.W.keepIn K (.ref f12) = true)
    (a13 : PySem.W.nsIn K mainGlobals "_law_draw" = some (some (.ref f13))) (l13 : K.lookup f13 = some ⟨oc13, od13, .func (PySem.W.fnOf "_law_draw" "_law_draw" (zj2 s_law_draw) (zq8 s_law_draw) (zq3 s_law_draw) .none kV13 dc13 pm13 an13 cd13 ct13), sl13⟩) (c13 : PySem.W.codeIn K cd13 "_law_draw" = true) (k13 : PySem.W.keepIn K (.ref f13) = true)
    (a14 : PySem.W.nsIn K mainGlobals "_law_counts" = some (some (.ref f14))) (l14 : K.lookup f14 = some ⟨oc14, od14, .func (PySem.W.fnOf "_law_counts" "_law_counts" (zj2 s_law_counts) (zq8 s_law_counts) (zq3 s_law_counts) .none kV14 dc14 pm14 an14 cd14 ct14), sl14⟩) (c14 : PySem.W.codeIn K cd14 "_law_counts" = true) (k14 : PySem.W.keepIn K (.ref f14) = true)
    (a15 : PySem.W.nsIn K mainGlobals "_law_blocks" = some (some (.ref f15))) (l15 : K.lookup f15 = some ⟨oc15, od15, .func (PySem.W.fnOf "_law_blocks" "_law_blocks" (zj2 s_law_blocks) (zq8 s_law_blocks) (zq3 s_law_blocks) .none kV15 dc15 pm15 an15 cd15 ct15), sl15⟩) (c15 : PySem.W.codeIn K cd15 "_law_blocks" = true) (k15 : PySem.W.keepIn K (.ref f15) = true)
    (a16 : PySem.W.nsIn K mainGlobals "_law_groups" = some (some (.ref f16))) (l16 : K.lookup f16 = some ⟨oc16, od16, .func (PySem.W.fnOf "_law_groups" "_law_groups" (zj2 s_law_groups) (zq8 s_law_groups) (zq3 s_law_groups) .none kV16 dc16 pm16 an16 cd16 ct16), sl16⟩) (c16 : PySem.W.codeIn K cd16 "_law_groups" = true) (k16 : PySem.W.keepIn K (.ref f16) = true)
    (a17 : PySem.W.nsIn K mainGlobals "_law_web" = some (some (.ref f17))) (l17 : K.lookup f17 = some ⟨oc17, od17, .func (PySem.W.fnOf "_law_web" "_law_web" (zj2 s_law_web) (zq8 s_law_web) (zq3 s_law_web) .none kV17 dc17 pm17 an17 cd17 ct17), sl17⟩) (c17 : PySem.W.codeIn K cd17 "_law_web" = true) (k17 : PySem.W.keepIn K (.ref f17) = true)
    (a18 : PySem.W.nsIn K mainGlobals "_law_house" = some (some (.ref f18))) (l18 : K.lookup f18 = some ⟨oc18, od18, .func (PySem.W.fnOf "_law_house" "_law_house" (zj2 s_law_house) (zq8 s_law_house) (zq3 s_law_house) .none kV18 dc18 pm18 an18 cd18 ct18), sl18⟩) (c18 : PySem.W.codeIn K cd18 "_law_house" = true) (k18 : PySem.W.keepIn K (.ref f18) = true)
    (a19 : PySem.W.nsIn K mainGlobals "_law_guess" = some (some (.ref f19))) (l19 : K.lookup f19 = some ⟨oc19, od19, .func (PySem.W.fnOf "_law_guess" "_law_guess" (zj2 s_law_guess) (zq8 s_law_guess) (zq3 s_law_guess) .none kV19 dc19 pm19 an19 cd19 ct19), sl19⟩) (c19 : PySem.W.codeIn K cd19 "_law_guess" = true) (k19 : PySem.W.keepIn K (.ref f19) = true)
    (a20 : PySem.W.nsIn K mainGlobals "_law_kinds" = some (some (.ref f20))) (l20 : K.lookup f20 = some ⟨oc20, od20, .func (PySem.W.fnOf "_law_kinds" "_law_kinds" (zj2 s_law_kinds) (zq8 s_law_kinds) (zq3 s_law_kinds) .none kV20 dc20 pm20 an20 cd20 ct20), sl20⟩) (c20 : PySem.W.codeIn K cd20 "_law_kinds" = true) (k20 : PySem.W.keepIn K (.ref f20) = true)
    (a21 : PySem.W.nsIn K mainGlobals "_law_done" = some (some (.ref f21))) (l21 : K.lookup f21 = some ⟨oc21, od21, .func (PySem.W.fnOf "_law_done" "_law_done" (zj2 s_law_done) (zq8 s_law_done) (zq3 s_law_done) .none kV21 dc21 pm21 an21 cd21 ct21), sl21⟩) (c21 : PySem.W.codeIn K cd21 "_law_done" = true) (k21 : PySem.W.keepIn K (.ref f21) = true)
    (a22 : PySem.W.nsIn K mainGlobals "_law_colour" = some (some (.ref f22))) (l22 : K.lookup f22 = some ⟨oc22, od22, .func (PySem.W.fnOf "_law_colour" "_law_colour" (zj2 s_law_colour) (zq8 s_law_colour) (zq3 s_law_colour) .none kV22 dc22 pm22 an22 cd22 ct22), sl22⟩) (c22 : PySem.W.codeIn K cd22 "_law_colour" = true) (k22 : PySem.W.keepIn K (.ref f22) = true)
    (a23 : PySem.W.nsIn K mainGlobals "_law_wrong_colour" = some (some (.ref f23))) (l23 : K.lookup f23 = some ⟨oc23, od23, .func (PySem.W.fnOf "_law_wrong_colour" "_law_wrong_colour" (zj2 s_law_wrong_colour) (zq8 s_law_wrong_colour) (zq3 s_law_wrong_colour) .none kV23 dc23 pm23 an23 cd23 ct23), sl23⟩) (c23 : PySem.W.codeIn K cd23 "_law_wrong_colour" = true) (k23 : PySem.W.keepIn K (.ref f23) = true)
    (a24 : PySem.W.nsIn K mainGlobals "_law_put_one" = some (some (.ref f24))) (l24 : K.lookup f24 = some ⟨oc24, od24, .func (PySem.W.fnOf "_law_put_one" "_law_put_one" (zj2 s_law_put_one) (zq8 s_law_put_one) (zq3 s_law_put_one) .none kV24 dc24 pm24 an24 cd24 ct24), sl24⟩) (c24 : PySem.W.codeIn K cd24 "_law_put_one" = true) (k24 : PySem.W.keepIn K (.ref f24) = true)
    (a25 : PySem.W.nsIn K mainGlobals "_law_put_all" = some (some (.ref f25))) (l25 : K.lookup f25 = some ⟨oc25, od25, .func (PySem.W.fnOf "_law_put_all" "_law_put_all" (zj2 s_law_put_all) (zq8 s_law_put_all) (zq3 s_law_put_all) .none kV25 dc25 pm25 an25 cd25 ct25), sl25⟩) (c25 : PySem.W.codeIn K cd25 "_law_put_all" = true) (k25 : PySem.W.keepIn K (.ref f25) = true)
    (a26 : PySem.W.nsIn K mainGlobals "_law_looked" = some (some (.ref f26))) (l26 : K.lookup f26 = some ⟨oc26, od26, .func (PySem.W.fnOf "_law_looked" "_law_looked" (zj2 s_law_looked) (zq8 s_law_looked) (zq3 s_law_looked) .none kV26 dc26 pm26 an26 cd26 ct26), sl26⟩) (c26 : PySem.W.codeIn K cd26 "_law_looked" = true) (k26 : PySem.W.keepIn K (.ref f26) = true)
    (a27 : PySem.W.nsIn K mainGlobals "_law_hats_right" = some (some (.ref f27))) (l27 : K.lookup f27 = some ⟨oc27, od27, .func (PySem.W.fnOf "_law_hats_right" "_law_hats_right" (zj2 s_law_hats_right) (zq8 s_law_hats_right) (zq3 s_law_hats_right) .none kV27 dc27 pm27 an27 cd27 ct27), sl27⟩) (c27 : PySem.W.codeIn K cd27 "_law_hats_right" = true) (k27 : PySem.W.keepIn K (.ref f27) = true)
    (a28 : PySem.W.nsIn K mainGlobals "_law_bent" = some (some (.ref f28))) (l28 : K.lookup f28 = some ⟨oc28, od28, .func (PySem.W.fnOf "_law_bent" "_law_bent" (zj2 s_law_bent) (zq8 s_law_bent) (zq3 s_law_bent) .none kV28 dc28 pm28 an28 cd28 ct28), sl28⟩) (c28 : PySem.W.codeIn K cd28 "_law_bent" = true) (k28 : PySem.W.keepIn K (.ref f28) = true)
    (a29 : PySem.W.nsIn K mainGlobals "_law_refused" = some (some (.ref f29))) (l29 : K.lookup f29 = some ⟨oc29, od29, .func (PySem.W.fnOf "_law_refused" "_law_refused" (zj2 s_law_refused) (zq8 s_law_refused) (zq3 s_law_refused) .none kV29 dc29 pm29 an29 cd29 ct29), sl29⟩) (c29 : PySem.W.codeIn K cd29 "_law_refused" = true) (k29 : PySem.W.keepIn K (.ref f29) = true)
    (a30 : PySem.W.nsIn K mainGlobals "law" = some (some (.ref f30))) (l30 : K.lookup f30 = some ⟨oc30, od30, .func (PySem.W.fnOf "law" "law" (zj2 s_law) (zq8 s_law) (zq3 s_law) .none kV30 dc30 pm30 an30 cd30 ct30), sl30⟩) (c30 : PySem.W.codeIn K cd30 "law" = true) (k30 : PySem.W.keepIn K (.ref f30) = true)
    (z0 : PySem.W.nsIn K mainGlobals "range" = some none)
    (z1 : PySem.W.nsIn K mainGlobals "len" = some none)
    (z2 : PySem.W.nsIn K mainGlobals "sum" = some none)
    (z3 : PySem.W.nsIn K mainGlobals "isinstance" = some none)
    (z4 : PySem.W.nsIn K mainGlobals "int" = some none)
    (z5 : PySem.W.nsIn K mainGlobals "bool" = some none)
    (z6 : PySem.W.nsIn K mainGlobals "tuple" = some none)
    (z7 : PySem.W.nsIn K mainGlobals "list" = some none)
    (z8 : PySem.W.nsIn K mainGlobals "sorted" = some none)
    (z9 : PySem.W.nsIn K mainGlobals "set" = some none)
    (z10 : PySem.W.nsIn K mainGlobals "all" = some none)
    (z11 : PySem.W.nsIn K mainGlobals "any" = some none)
    (z12 : PySem.W.nsIn K mainGlobals "zip" = some none)
    (z13 : PySem.W.nsIn K mainGlobals "enumerate" = some none)
    (z14 : PySem.W.nsIn K mainGlobals "ValueError" = some none)
    {cHall : Addr} (caHall : PySem.W.nsIn K mainGlobals "Hall" = some (some (.ref cHall))) (cokHall : clsOk K "Hall" cHall ["counts", "groups", "worn"] = true)
    {mf0 : Addr} {md0 mn0 : Option Addr} {ms0 : Array (Option Value)} {mo0 mk0 me0 mp0 mc0 mt0 : Value} (ma0 : PySem.W.findIn K (.ref cHall) "__init__" = some (some (.ref mf0))) (ml0 : K.lookup mf0 = some ⟨mo0, md0, .func (PySem.W.fnOf "__init__" "Hall.__init__" (zj2 s_Hall___init__) (zq8 s_Hall___init__) (zq3 s_Hall___init__) .none mk0 me0 mp0 mn0 mc0 mt0), ms0⟩) (mq0 : PySem.W.codeIn K mc0 "Hall.__init__" = true) (mw0 : PySem.W.keepIn K (.ref mf0) = true) (mi0 : PySem.W.isFn K (.ref mf0) = true)
    {mf1 : Addr} {md1 mn1 : Option Addr} {ms1 : Array (Option Value)} {mo1 mk1 me1 mp1 mc1 mt1 : Value} (ma1 : PySem.W.findIn K (.ref cHall) "put_all" = some (some (.ref mf1))) (ml1 : K.lookup mf1 = some ⟨mo1, md1, .func (PySem.W.fnOf "put_all" "Hall.put_all" (zj2 s_Hall_put_all) (zq8 s_Hall_put_all) (zq3 s_Hall_put_all) .none mk1 me1 mp1 mn1 mc1 mt1), ms1⟩) (mq1 : PySem.W.codeIn K mc1 "Hall.put_all" = true) (mw1 : PySem.W.keepIn K (.ref mf1) = true) (mi1 : PySem.W.isFn K (.ref mf1) = true)
    {mf2 : Addr} {md2 mn2 : Option Addr} {ms2 : Array (Option Value)} {mo2 mk2 me2 mp2 mc2 mt2 : Value} (ma2 : PySem.W.findIn K (.ref cHall) "put" = some (some (.ref mf2))) (ml2 : K.lookup mf2 = some ⟨mo2, md2, .func (PySem.W.fnOf "put" "Hall.put" (zj2 s_Hall_put) (zq8 s_Hall_put) (zq3 s_Hall_put) .none mk2 me2 mp2 mn2 mc2 mt2), ms2⟩) (mq2 : PySem.W.codeIn K mc2 "Hall.put" = true) (mw2 : PySem.W.keepIn K (.ref mf2) = true) (mi2 : PySem.W.isFn K (.ref mf2) = true)
    {mf3 : Addr} {md3 mn3 : Option Addr} {ms3 : Array (Option Value)} {mo3 mk3 me3 mp3 mc3 mt3 : Value} (ma3 : PySem.W.findIn K (.ref cHall) "hats" = some (some (.ref mf3))) (ml3 : K.lookup mf3 = some ⟨mo3, md3, .func (PySem.W.fnOf "hats" "Hall.hats" (zj2 s_Hall_hats) (zq8 s_Hall_hats) (zq3 s_Hall_hats) .none mk3 me3 mp3 mn3 mc3 mt3), ms3⟩) (mq3 : PySem.W.codeIn K mc3 "Hall.hats" = true) (mw3 : PySem.W.keepIn K (.ref mf3) = true) (mi3 : PySem.W.isFn K (.ref mf3) = true)
    {mf4 : Addr} {md4 mn4 : Option Addr} {ms4 : Array (Option Value)} {mo4 mk4 me4 mp4 mc4 mt4 : Value} (ma4 : PySem.W.findIn K (.ref cHall) "guess" = some (some (.ref mf4))) (ml4 : K.lookup mf4 = some ⟨mo4, md4, .func (PySem.W.fnOf "guess" "Hall.guess" (zj2 s_Hall_guess) (zq8 s_Hall_guess) (zq3 s_Hall_guess) .none mk4 me4 mp4 mn4 mc4 mt4), ms4⟩) (mq4 : PySem.W.codeIn K mc4 "Hall.guess" = true) (mw4 : PySem.W.keepIn K (.ref mf4) = true) (mi4 : PySem.W.isFn K (.ref mf4) = true)
    {mf5 : Addr} {md5 mn5 : Option Addr} {ms5 : Array (Option Value)} {mo5 mk5 me5 mp5 mc5 mt5 : Value} (ma5 : PySem.W.findIn K (.ref cHall) "right" = some (some (.ref mf5))) (ml5 : K.lookup mf5 = some ⟨mo5, md5, .func (PySem.W.fnOf "right" "Hall.right" (zj2 s_Hall_right) (zq8 s_Hall_right) (zq3 s_Hall_right) .none mk5 me5 mp5 mn5 mc5 mt5), ms5⟩) (mq5 : PySem.W.codeIn K mc5 "Hall.right" = true) (mw5 : PySem.W.keepIn K (.ref mf5) = true) (mi5 : PySem.W.isFn K (.ref mf5) = true)
    {er0 : Addr} (ea0 : PySem.W.nsIn K mainGlobals "HatError" = some (some (.ref er0)))
    {er1 : Addr} (ea1 : PySem.W.nsIn K mainGlobals "LineError" = some (some (.ref er1)))
    {er2 : Addr} (ea2 : PySem.W.nsIn K mainGlobals "NoAsk" = some (some (.ref er2)))
    {er3 : Addr} (ea3 : PySem.W.nsIn K mainGlobals "NoName" = some (some (.ref er3)))
    {er4 : Addr} (ea4 : PySem.W.nsIn K mainGlobals "NoHats" = some (some (.ref er4)))
    {er5 : Addr} (ea5 : PySem.W.nsIn K mainGlobals "NoGroups" = some (some (.ref er5)))
    {er6 : Addr} (ea6 : PySem.W.nsIn K mainGlobals "NoPlan" = some (some (.ref er6)))
    (eok : errOk K ERN (fun x => if x = ("HatError" : Str) then er0 else if x = ("LineError" : Str) then er1 else if x = ("NoAsk" : Str) then er2 else if x = ("NoName" : Str) then er3 else if x = ("NoHats" : Str) then er4 else if x = ("NoGroups" : Str) then er5 else if x = ("NoPlan" : Str) then er6 else 0) = true)
    : ∃ fd : FuncData, (∀ (s : Shared) (v : Value), BindsTo s fd ⟨[v], []⟩ [("script", v)]) /\ ∀ base : Heap, K.In base -> base.Ns mainGlobals mg -> FnOk l.prog w K mg base CX0 8 fa fd ["script"] (spLaw K) := by
  have e := hfa.symm.trans (PySem.W.mg_of X G a30)
  cases e
  have D_product : Def K mg "product" s_product := zz5 X G a0 l0 c0 k0
  have D_circle_guess : Def K mg "circle_guess" s_circle_guess := zz5 X G a1 l1 c1 k1
  have D_ring_guess : Def K mg "ring_guess" s_ring_guess := zz5 X G a2 l2 c2 k2
  have D_sees : Def K mg "sees" s_sees := zz5 X G a3 l3 c3 k3
  have D_is_circle : Def K mg "is_circle" s_is_circle := zz5 X G a4 l4 c4 k4
  have D_is_ring : Def K mg "is_ring" s_is_ring := zz5 X G a5 l5 c5 k5
  have D_rises : Def K mg "rises" s_rises := zz5 X G a6 l6 c6 k6
  have D_is_group : Def K mg "is_group" s_is_group := zz5 X G a7 l7 c7 k7
  have D_group_fault : Def K mg "group_fault" s_group_fault := zz5 X G a8 l8 c8 k8
  have D_picked : Def K mg "picked" s_picked := zz5 X G a9 l9 c9 k9
  have D_group_guess : Def K mg "group_guess" s_group_guess := zz5 X G a10 l10 c10 k10
  have D_are_hats : Def K mg "are_hats" s_are_hats := zz5 X G a11 l11 c11 k11
  have D_law_cell_at : Def K mg "_law_cell_at" s_law_cell_at := zz5 X G a12 l12 c12 k12
  have D_law_draw : Def K mg "_law_draw" s_law_draw := zz5 X G a13 l13 c13 k13
  have D_law_counts : Def K mg "_law_counts" s_law_counts := zz5 X G a14 l14 c14 k14
  have D_law_blocks : Def K mg "_law_blocks" s_law_blocks := zz5 X G a15 l15 c15 k15
  have D_law_groups : Def K mg "_law_groups" s_law_groups := zz5 X G a16 l16 c16 k16
  have D_law_web : Def K mg "_law_web" s_law_web := zz5 X G a17 l17 c17 k17
  have D_law_house : Def K mg "_law_house" s_law_house := zz5 X G a18 l18 c18 k18
  have D_law_guess : Def K mg "_law_guess" s_law_guess := zz5 X G a19 l19 c19 k19
  have D_law_kinds : Def K mg "_law_kinds" s_law_kinds := zz5 X G a20 l20 c20 k20
  have D_law_done : Def K mg "_law_done" s_law_done := zz5 X G a21 l21 c21 k21
  have D_law_colour : Def K mg "_law_colour" s_law_colour := zz5 X G a22 l22 c22 k22
  have D_law_wrong_colour : Def K mg "_law_wrong_colour" s_law_wrong_colour := zz5 X G a23 l23 c23 k23
  have D_law_put_one : Def K mg "_law_put_one" s_law_put_one := zz5 X G a24 l24 c24 k24
  have D_law_put_all : Def K mg "_law_put_all" s_law_put_all := zz5 X G a25 l25 c25 k25
  have D_law_looked : Def K mg "_law_looked" s_law_looked := zz5 X G a26 l26 c26 k26
  have D_law_hats_right : Def K mg "_law_hats_right" s_law_hats_right := zz5 X G a27 l27 c27 k27
  have D_law_bent : Def K mg "_law_bent" s_law_bent := zz5 X G a28 l28 c28 k28
  have D_law_refused : Def K mg "_law_refused" s_law_refused := zz5 X G a29 l29 c29 k29
  have B : Bn mg := ⟨PySem.W.mg_none_of X G z0, PySem.W.mg_none_of X G z1, PySem.W.mg_none_of X G z2, PySem.W.mg_none_of X G z3, PySem.W.mg_none_of X G z4, PySem.W.mg_none_of X G z5, PySem.W.mg_none_of X G z6, PySem.W.mg_none_of X G z7, PySem.W.mg_none_of X G z8, PySem.W.mg_none_of X G z9, PySem.W.mg_none_of X G z10, PySem.W.mg_none_of X G z11, PySem.W.mg_none_of X G z12, PySem.W.mg_none_of X G z13, PySem.W.mg_none_of X G z14⟩
  have T_Hall := clsT_of X G cokHall
  have D_Hall___init__ : MDef K cHall "__init__" "Hall.__init__" s_Hall___init__ := mdef_mk ma0 ml0 mq0 mw0 mi0
  have D_Hall_put_all : MDef K cHall "put_all" "Hall.put_all" s_Hall_put_all := mdef_mk ma1 ml1 mq1 mw1 mi1
  have D_Hall_put : MDef K cHall "put" "Hall.put" s_Hall_put := mdef_mk ma2 ml2 mq2 mw2 mi2
  have D_Hall_hats : MDef K cHall "hats" "Hall.hats" s_Hall_hats := mdef_mk ma3 ml3 mq3 mw3 mi3
  have D_Hall_guess : MDef K cHall "guess" "Hall.guess" s_Hall_guess := mdef_mk ma4 ml4 mq4 mw4 mi4
  have D_Hall_right : MDef K cHall "right" "Hall.right" s_Hall_right := mdef_mk ma5 ml5 mq5 mw5 mi5
  have ER := errT_of X G eok
  refine ⟨PySem.W.fnOf "law" "law" (zj2 s_law) (zq8 s_law) (zq3 s_law) .none kV30 dc30 pm30 an30 cd30 ct30, fun s v => .of_eq rfl, fun base _ _ => ?_⟩
  have FL := fun_mk (st := s_law) l30 c30 k30
  have F1 := ok_sees (P := l.prog) (w := w) (base := base) D_sees
  have F2 := ok_is_circle (P := l.prog) (w := w) (base := base) B D_is_circle
  have F3 := ok_is_ring B D_is_ring F1
  have F4 := ok_rises (P := l.prog) (w := w) (base := base) B D_rises
  have F5 := ok_isG B D_is_group F4 F2 F3
  have F6 := ok_gfault B D_group_fault F5
  have G1 := ok_rg (P := l.prog) (w := w) (base := base) D_ring_guess
  have G2 := ok_product (P := l.prog) (w := w) (base := base) D_product
  have G3 := ok_cg B D_circle_guess G2
  have G4 := ok_picked (P := l.prog) (w := w) (base := base) B D_picked
  have G5 := ok_gg B D_group_guess G1 G4 G3
  have A1 := ok_areHats (P := l.prog) (w := w) (base := base) B D_are_hats
  have A2 := ok_hInit B ER T_Hall D_Hall___init__ F6
  have A3 := ok_hPutAll B ER T_Hall D_Hall_put_all A1
  have A4 := ok_hPut B ER T_Hall D_Hall_put A3
  have A5 := ok_hGuess B T_Hall D_Hall_guess G5
  have M1 := ok_at (P := l.prog) (w := w) (base := base) B D_law_cell_at
  have M2 := ok_draw (P := l.prog) (w := w) (base := base) D_law_draw
  have C1 := ok_counts70 B D_law_counts M2
  have C2 := ok_blocks70 B D_law_blocks M2
  have C3 := ok_groups70 B D_law_groups M2
  have C4 := ok_web70 B D_law_web M2
  have C5 := ok_house70 B D_law_house M2 C1 C2 C3 C4
  have C6 := ok_guess70 B D_law_guess G1 G3
  have C7 := ok_kinds70 (P := l.prog) (w := w) (base := base) B ER D_law_kinds
  have C8 := ok_done70 B ER T_Hall D_law_done C7 A3 A4
  have C9 := ok_colour70 B D_law_colour M2
  have C10 := ok_wrong70 B D_law_wrong_colour M2
  have C11 := ok_putOne70 B D_law_put_one M2 C8 C10 C9
  have C12 := ok_putAll70 B D_law_put_all M2 C8 C10 C9
  have C13 := ok_hHats (P := l.prog) (w := w) (base := base) B T_Hall D_Hall_hats
  have C14 := ok_hRight B T_Hall D_Hall_right A5
  have C15 := ok_hatsRight70 B T_Hall D_law_hats_right C13
  have C16 := ok_looked70 B T_Hall D_law_looked M2 C6 A5 C14
  have C17 := ok_bent70 B D_law_bent M2
  have C18 := ok_refused70 B ER T_Hall D_law_refused C17 C7 A2 A5 F6 C6
  exact ok_law B T_Hall FL M1 M2 C5 A2 C18 C11 C12 C16 C15 C14 C6
theorem walk {l : PySem.W.OpenLaw} {q : Program} {loose : List Str} {XP : (Str -> Option Value) -> Heap -> Prop} {YP : World -> Heap -> Prop} {d : DefRec} {K : Params -> Frag} (hn : l.most = some 63) (hdf : d.params.defaults = [])
    (hY : ∀ (w : World) (h : Heap), YP w h -> (K w.params).In h)
    (F : ∀ (w : World) (mg : Str -> Option Value) (fa : Addr) (h : Heap), (K w.params).In h -> h.Ns mainGlobals mg -> mg d.name = some (.ref fa) ->
      ∃ fd : FuncData, (∀ (s : Shared) (u : Value), BindsTo s fd ⟨[u], []⟩ [("script", u)]) /\ ∀ base : Heap, (K w.params).In base -> base.Ns mainGlobals mg -> FnOk l.prog w (K w.params) mg base CX0 8 fa fd ["script"] (spLaw (K w.params))) :
    PySem.W.WalkO q loose XP YP l.row.toRowW d [] (fun f vs => PySem.call f vs) :=
  L2.walk_of (n := 63) (k := 8) (x := "script") (CX := fun _ => CX0) (sp := fun w => spLaw (K w.params)) hn (by decide) hdf ⟨rfl, by decide, by decide⟩ hY F (fun _ _ a ns hl _ hS => ⟨a, ns, rfl, hS, hl, fun _ => rfl⟩) fun _ _ _ _ _ z => z
end K70
open PySem PySem.W PyProof.Rows
def PySem.W.Fast.tw13433379525948186223 : Nat := 0
def PySem.W.Fast.tw14993329259680270321 : Nat := 0
def PySem.W.Fast.tw16479945488116894380 : Nat := 0
def PySem.W.Fast.tw1043380370904911809 : Nat := 0
def PySem.W.Fast.tw14764531733232494092 : Nat := 0
def PySem.W.Fast.tw9254505022910305381 : Nat := 0
def PySem.W.Fast.tw15390679528753276928 : Nat := 0
def PySem.W.Fast.tw8681057744393949378 : Nat := 0
def PySem.W.Fast.tw6663288206610862174 : Nat := 0
def PySem.W.Fast.tw15687157041087869423 : Nat := 0
def PySem.W.Fast.tw17225245956217559884 : Nat := 0
def PySem.W.Fast.tw6555907725178288148 : Nat := 0
set_option maxRecDepth 100000 in
set_option maxHeartbeats 0 in
theorem PySem.Challenge.cw_hatsight_k70_hall_holds : PySem.Challenge.rw_hatsight_k70_hall.Holds := by
  w_on; o_law; k_head; (case hw => w_witness2)
  k_fill
  refine K70.walk (l := PySem.Challenge.rw_hatsight_k70_hall) rfl rfl (fun w h Y => PySem.W.kIn_of Y) ?F
  case F =>
    intro w mg fa h KX G hmg
    refine' K70.all_mk KX G hmg ?a0 ?l0 ?c0 ?k0 ?a1 ?l1 ?c1 ?k1 ?a2 ?l2 ?c2 ?k2 ?a3 ?l3 ?c3 ?k3 ?a4 ?l4 ?c4 ?k4 ?a5 ?l5 ?c5 ?k5 ?a6 ?l6 ?c6 ?k6 ?a7 ?l7 ?c7 ?k7 ?a8 ?l8 ?c8 ?k8 ?a9 ?l9 ?c9 ?k9 ?a10 ?l10 ?c10 ?k10 ?a11 ?l11 ?c11 ?k11 ?a12 ?l12 ?c12 ?k12 ?a13 ?l13 ?c13 ?k13 ?a14 ?l14 ?c14 ?k14 ?a15 ?l15 ?c15 ?k15 ?a16 ?l16 ?c16 ?k16 ?a17 ?l17 ?c17 ?k17 ?a18 ?l18 ?c18 ?k18 ?a19 ?l19 ?c19 ?k19 ?a20 ?l20 ?c20 ?k20 ?a21 ?l21 ?c21 ?k21 ?a22 ?l22 ?c22 ?k22 ?a23 ?l23 ?c23 ?k23 ?a24 ?l24 ?c24 ?k24 ?a25 ?l25 ?c25 ?k25 ?a26 ?l26 ?c26 ?k26 ?a27 ?l27 ?c27 ?k27 ?a28 ?l28 ?c28 ?k28 ?a29 ?l29 ?c29 ?k29 ?a30 ?l30 ?c30 ?k30 ?z0 ?z1 ?z2 ?z3 ?z4 ?z5 ?z6 ?z7 ?z8 ?z9 ?z10 ?z11 ?z12 ?z13 ?z14 ?caHall ?cokHall ?ma0 ?ml0 ?mq0 ?mw0 ?mi0 ?ma1 ?ml1 ?mq1 ?mw1 ?mi1 ?ma2 ?ml2 ?mq2 ?mw2 ?mi2 ?ma3 ?ml3 ?mq3 ?mw3 ?mi3 ?ma4 ?ml4 ?mq4 ?mw4 ?mi4 ?ma5 ?ml5 ?mq5 ?mw5 ?mi5 ?ea0 ?ea1 ?ea2 ?ea3 ?ea4 ?ea5 ?ea6 ?eok
    (case a0 => k_is); (case l0 => k_is); (case c0 => k_is); (case k0 => k_is)
    (case a1 => k_is); (case l1 => k_is); (case c1 => k_is); (case k1 => k_is)
    (case a2 => k_is); (case l2 => k_is); (case c2 => k_is); (case k2 => k_is)
    (case a3 => k_is); (case l3 => k_is); (case c3 => k_is); (case k3 => k_is)
    (case a4 => k_is); (case l4 => k_is); (case c4 => k_is); (case k4 => k_is)
    (case a5 => k_is); (case l5 => k_is); (case c5 => k_is); (case k5 => k_is)
    (case a6 => k_is); (case l6 => k_is); (case c6 => k_is); (case k6 => k_is)
    (case a7 => k_is); (case l7 => k_is); (case c7 => k_is); (case k7 => k_is)
    (case a8 => k_is); (case l8 => k_is); (case c8 => k_is); (case k8 => k_is)
    (case a9 => k_is); (case l9 => k_is); (case c9 => k_is); (case k9 => k_is)
    (case a10 => k_is); (case l10 => k_is); (case c10 => k_is); (case k10 => k_is)
    (case a11 => k_is); (case l11 => k_is); (case c11 => k_is); (case k11 => k_is)
    (case a12 => k_is); (case l12 => k_is); (case c12 => k_is); (case k12 => k_is)
    (case a13 => k_is); (case l13 => k_is); (case c13 => k_is); (case k13 => k_is)
    (case a14 => k_is); (case l14 => k_is); (case c14 => k_is); (case k14 => k_is)
    (case a15 => k_is); (case l15 => k_is); (case c15 => k_is); (case k15 => k_is)
    (case a16 => k_is); (case l16 => k_is); (case c16 => k_is); (case k16 => k_is)
    (case a17 => k_is); (case l17 => k_is); (case c17 => k_is); (case k17 => k_is)
    (case a18 => k_is); (case l18 => k_is); (case c18 => k_is); (case k18 => k_is)
    (case a19 => k_is); (case l19 => k_is); (case c19 => k_is); (case k19 => k_is)
    (case a20 => k_is); (case l20 => k_is); (case c20 => k_is); (case k20 => k_is)
    (case a21 => k_is); (case l21 => k_is); (case c21 => k_is); (case k21 => k_is)
    (case a22 => k_is); (case l22 => k_is); (case c22 => k_is); (case k22 => k_is)
    (case a23 => k_is); (case l23 => k_is); (case c23 => k_is); (case k23 => k_is)
    (case a24 => k_is); (case l24 => k_is); (case c24 => k_is); (case k24 => k_is)
    (case a25 => k_is); (case l25 => k_is); (case c25 => k_is); (case k25 => k_is)
    (case a26 => k_is); (case l26 => k_is); (case c26 => k_is); (case k26 => k_is)
    (case a27 => k_is); (case l27 => k_is); (case c27 => k_is); (case k27 => k_is)
    (case a28 => k_is); (case l28 => k_is); (case c28 => k_is); (case k28 => k_is)
    (case a29 => k_is); (case l29 => k_is); (case c29 => k_is); (case k29 => k_is)
    (case a30 => k_is); (case l30 => k_is); (case c30 => k_is); (case k30 => k_is)
    (case caHall => k_is)
    (case ma0 => k_is); (case ml0 => k_is); (case mq0 => k_is); (case mw0 => k_is); (case mi0 => k_is)
    (case ma1 => k_is); (case ml1 => k_is); (case mq1 => k_is); (case mw1 => k_is); (case mi1 => k_is)
    (case ma2 => k_is); (case ml2 => k_is); (case mq2 => k_is); (case mw2 => k_is); (case mi2 => k_is)
    (case ma3 => k_is); (case ml3 => k_is); (case mq3 => k_is); (case mw3 => k_is); (case mi3 => k_is)
    (case ma4 => k_is); (case ml4 => k_is); (case mq4 => k_is); (case mw4 => k_is); (case mi4 => k_is)
    (case ma5 => k_is); (case ml5 => k_is); (case mq5 => k_is); (case mw5 => k_is); (case mi5 => k_is)
    (case cokHall => kernel_rfl)
    (case ea0 => k_is)
    (case ea1 => k_is)
    (case ea2 => k_is)
    (case ea3 => k_is)
    (case ea4 => k_is)
    (case ea5 => k_is)
    (case ea6 => k_is)
    (case eok => kernel_rfl)
    (case z0 => k_is)
    (case z1 => k_is)
    (case z2 => k_is)
    (case z3 => k_is)
    (case z4 => k_is)
    (case z5 => k_is)
    (case z6 => k_is)
    (case z7 => k_is)
    (case z8 => k_is)
    (case z9 => k_is)
    (case z10 => k_is)
    (case z11 => k_is)
    (case z12 => k_is)
    (case z13 => k_is)
    (case z14 => k_is)
