import PyProof.Rows.All
import Wide.All
import OpenK.AllK
import Wide.FinOn
import Lean
import PyProof.EqAt
import PyProof.EqKinds
import PyProof.TupleCall
import PyProof.NeKinds
import PyProof.ListMulRoad
import PyProof.WalkInts
import PyProof.ListRange
import KE.KRevIter
import PySem.Challenge.RW_purseweb_k61_squares
set_option Elab.async false
set_option linter.all false
set_option maxRecDepth 100000
namespace L2
open PySem PySem.Spec PyProof.Rows
abbrev Key := Sum Int Str
def keyIs : Key → Value → Bool
  | .inl k, v => Value.isInt k v
  | .inr x, v => Value.isStrOf x v
def keyH (w : World) : Key → Int
  | .inl k => hashInt k
  | .inr x => hashStr w x
theorem keyIs_shape : ∀ {k : Key} {v : Value}, keyIs k v = true → (∃ i t, k = Sum.inl i ∧ v = Value.int i t) ∨ (∃ x t, k = Sum.inr x ∧ v = Value.str x t)
  | .inl i, v, h => by
    obtain ⟨t, e⟩ := Value.isInt_shape (k := i) (v := v) h
    exact .inl ⟨i, t, rfl, e⟩
  | .inr x, v, h => by
    obtain ⟨t, e⟩ := Value.isStrOf_shape (x := x) (v := v) h
    exact .inr ⟨x, t, rfl, e⟩
theorem key_ll (a b : Int) : decide ((Sum.inl a : Key) = Sum.inl b) = (a == b) := by
  by_cases e : a = b
  · subst e; simp
  · have h : ¬ (Sum.inl a : Key) = Sum.inl b := fun q => e (Sum.inl.inj q)
    rw [decide_eq_false h]
    exact (beq_eq_false_iff_ne.mpr e).symm
theorem key_rr (a b : Str) : decide ((Sum.inr a : Key) = Sum.inr b) = decide (a = b) := by
  by_cases e : a = b
  · subst e; simp
  · have h : ¬ (Sum.inr a : Key) = Sum.inr b := fun q => e (Sum.inr.inj q)
    rw [decide_eq_false h, decide_eq_false e]
theorem key_lr (a : Int) (b : Str) : decide ((Sum.inl a : Key) = Sum.inr b) = false := decide_eq_false (fun q => nomatch q)
theorem key_rl (a : Str) (b : Int) : decide ((Sum.inr a : Key) = Sum.inl b) = false := decide_eq_false (fun q => nomatch q)
def mixKind (prog : Program) (w : World) : PySem.KeyKind prog w Key where
  is := keyIs
  hash := keyH w
  inj := fun v a b ha hb => by
    rcases keyIs_shape ha with ⟨i, t, rfl, rfl⟩ | ⟨x, t, rfl, rfl⟩
    · rcases keyIs_shape hb with ⟨j, u, rfl, e⟩ | ⟨y, u, rfl, e⟩
      · injection e with e1 _; rw [e1]
      · exact nomatch e
    · rcases keyIs_shape hb with ⟨j, u, rfl, e⟩ | ⟨y, u, rfl, e⟩
      · exact nomatch e
      · injection e with e1 _; rw [e1]
  byValue := fun k v h => by
    rcases keyIs_shape h with ⟨i, t, rfl, rfl⟩ | ⟨x, t, rfl, rfl⟩ <;> rfl
  pyHash := fun hv h => by
    rcases keyIs_shape hv with ⟨i, t, rfl, rfl⟩ | ⟨x, t, rfl, rfl⟩
    · exact wpAny_pyHash_int h
    · exact wpAny_pyHash_str h
  eqBool := fun hu hv h => by
    rcases keyIs_shape hu with ⟨i, t, rfl, rfl⟩ | ⟨x, t, rfl, rfl⟩
    · rcases keyIs_shape hv with ⟨j, u, rfl, rfl⟩ | ⟨y, u, rfl, rfl⟩
      · rw [key_ll] at h; exact wpAny_eqBool_int h
      · rw [key_lr] at h; exact SeqAt.EqAt.int_str i t y u _ _ _ _ h
    · rcases keyIs_shape hv with ⟨j, u, rfl, rfl⟩ | ⟨y, u, rfl, rfl⟩
      · rw [key_rl] at h; exact SeqAt.EqAt.str_int x t j u _ _ _ _ h
      · rw [key_rr] at h; exact wpAny_eqBool_str h
  «strs» := fun k x t v h => by
    rcases keyIs_shape h with ⟨i, u, rfl, e⟩ | ⟨y, u, rfl, e⟩
    · exact nomatch e
    · injection e with e1 _
      subst e1
      cases v <;> rfl
end L2
namespace L2
open PySem PySem.Spec PyProof.Rows
inductive V where
  | non | bl (b : Bool) | int (i : Int) | str (x : Str) | byt (b : Array UInt8) | flt (b : UInt64) | ref (a : Addr) | ty (n : String)
  deriving DecidableEq
def RelV : V → Value → Prop
  | .non, u => u = Value.none
  | .bl b, u => u = Value.bool b
  | .int i, u => ∃ t, u = Value.int i t
  | .str x, u => ∃ t, u = Value.str x t
  | .byt b, u => ∃ t, u = Value.bytes b t
  | .flt b, u => ∃ t, u = Value.float b t
  | .ref a, u => u = Value.ref a
  | .ty n, u => u = Value.type n
abbrev Vals : List V → List Value → Prop := Paired RelV
theorem Vals.length {xs : List V} {us : List Value} (r : Vals xs us) : xs.length = us.length := Paired.length r
theorem Vals.get : ∀ {xs : List V} {us : List Value} {i : Nat} {x : V}, Vals xs us → xs[i]? = some x → ∃ u, us[i]? = some u ∧ RelV x u
  | _, _, _, _, .nil, e => by simp at e
  | _, _, 0, _, .cons r _, e => by simp at e; subst e; exact ⟨_, rfl, r⟩
  | _, _, i + 1, x, .cons _ t, e => by
    obtain ⟨u, h1, h2⟩ := Vals.get (i := i) (x := x) t (by simpa using e)
    exact ⟨u, by simpa using h1, h2⟩
theorem Vals.set {x : V} {u : Value} (r : RelV x u) : ∀ {xs : List V} {us : List Value} (i : Nat), Vals xs us → Vals (xs.set i x) (us.set i u)
  | _, _, _, .nil => .nil
  | _, _, 0, .cons _ t => .cons r t
  | _, _, i + 1, .cons q t => .cons q (Vals.set r i t)
theorem Vals.append : ∀ {xs ys : List V} {us ws : List Value}, Vals xs us → Vals ys ws → Vals (xs ++ ys) (us ++ ws)
  | _, _, _, _, .nil, s => s
  | _, _, _, _, .cons r t, s => .cons r (Vals.append t s)
theorem Vals.take : ∀ {xs : List V} {us : List Value} (n : Nat), Vals xs us → Vals (xs.take n) (us.take n)
  | _, _, 0, _ => .nil
  | _, _, _ + 1, .nil => .nil
  | _, _, n + 1, .cons r t => .cons r (Vals.take n t)
theorem Vals.drop : ∀ {xs : List V} {us : List Value} (n : Nat), Vals xs us → Vals (xs.drop n) (us.drop n)
  | _, _, 0, r => r
  | _, _, _ + 1, .nil => .nil
  | _, _, n + 1, .cons _ t => Vals.drop n t
def RelO : Option V → Option Value → Prop
  | some v, some u => RelV v u
  | none, none => True
  | _, _ => False
def KV {κ : Type} : List (κ × V) → List (κ × Value) → Prop := Paired fun (p : κ × V) (q : κ × Value) => p.1 = q.1 ∧ RelV p.2 q.2
def kV : Key → V
  | .inl i => .int i
  | .inr x => .str x
inductive HO where
  /-- a list -/
  | lst (xs : List V)
  /-- a tuple (never changes) -/
  | tup (xs : List V)
  /-- a dict whose keys are ints and texts; one whose keys are tuples of ints and texts (the empty one is both) -/
  | dK (kvs : List (Key × V)) | dT (kvs : List (List Key × V))
  /-- a set of ints: its members, its size -/
  | set (S : Int → Bool) (n : Nat)
  /-- an instance of the class at C, its dict at dx, its attributes -/
  | ins (C dx : Addr) (fs : List (Str × V))
  /-- the dict of the instance at x -/
  | own (x : Addr)
  /-- the dict of an exception -/
  | xd (fs : List (Str × V))
  /-- a bound method, f of x -/
  | met (f x : Addr)
  /-- a range object lo, lo + 1, .. below hi -/
  | rng (lo hi : Int)
  /-- a thing that is known to the object (the script; a dict while a loop walks it): read, never written while it is so -/
  | frz (o : Obj) (u : HO)
  /-- a code object's table -/
  | tbl (ps : Array Value)
  /-- any other thing, by what is true of its one object (a def of one's own: SetO a S n := HO.ext fun h => ..) -/
  | ext (φ : Heap → Prop)
abbrev Hp := Addr → Option HO
def upd (H : Hp) (a : Addr) (o : HO) : Hp := fun b => if b = a then some o else H b
theorem upd_same {H : Hp} {a : Addr} {o : HO} : upd H a o a = some o := by unfold upd; rw [if_pos rfl]
theorem upd_ne {H : Hp} {a b : Addr} {o : HO} (h : b ≠ a) : upd H a o b = H b := by unfold upd; rw [if_neg h]
theorem ne_of {H : Hp} {a b : Addr} {o u : HO} (h : H a = some o) (h' : H b = some u) (d : o ≠ u) : a ≠ b := by
  intro e; subst e; rw [h] at h'; exact d (Option.some.inj h')
theorem ne_of_none {H : Hp} {a b : Addr} {o : HO} (h : H a = some o) (h' : H b = none) : a ≠ b := by
  intro e; subst e; rw [h] at h'; cases h'
section
variable (P : Program) (w : World)
def ObjOk (H : Hp) (h : Heap) (a : Addr) : HO → Prop
  | .lst xs => xs.length ≤ sizeLine ∧ ∃ (its : List Value) (n : Nat), Vals xs its ∧ h.get? a = some { cls := .type "list", data := .seq its.toArray n }
  | .tup xs => xs.length ≤ sizeLine ∧ ∃ its : List Value, Vals xs its ∧ IsTup h a its.toArray
  | .dK kvs => kvs.length ≤ sizeLine ∧ (a == sysModules) = false ∧ ∃ vs, KV kvs vs ∧ h.DictOf (mixKind P w) a vs
  | .dT kvs => kvs.length ≤ sizeLine ∧ (a == sysModules) = false ∧ ∃ xs : List (List Key × Addr × Value),
      Paired (fun (p : List Key × V) (q : List Key × Addr × Value) => p.1 = q.1 ∧ H q.2.1 = some (.tup (p.1.map kV)) ∧ RelV p.2 q.2.2) kvs xs ∧
      ∃ o es ep, h.get? a = some o ∧ o.ExactDict ∧ o.data = .dict es ep ∧ es.toList = xs.map (entryOfKey (tupleKind (mixKind P w))) ∧ (xs.map (·.1)).Nodup
  | .set S n => h.SetOf (intKind P w) a S n
  | .ins C dx fs => H dx = some (.own a) ∧ fs.length ≤ 1000 ∧ dx ≠ a ∧ h.get? a = some (PySem.W.instObj C dx) ∧
      ∃ mA, h.Ns1 dx mA ∧ (∀ f, RelO (fs.lookup f) (mA f)) ∧ PySem.Within mA (fs.map (·.1))
  | .own _ => ∃ o, h.get? a = some o
  | .xd fs => ∃ mA, h.Ns1 a mA ∧ ∀ f, RelO (fs.lookup f) (mA f)
  | .rng lo hi => ∃ t u v, h.get? a = some { cls := .type "range", data := .fields #[.int lo t, .int hi u, .int 1 v] }
  | .frz o u => h.get? a = some o ∧ ObjOk H h a u
  | .tbl ps => h.get? a = some { cls := .none, data := .fields ps }
  | .met f x => h.get? a = some (PySem.W.methodObj (.ref f) (.ref x))
  | .ext φ => φ h ∧ (∃ o, h.get? a = some o) ∧ ∀ h1 h2 : Heap, φ h1 → (∀ o, h1.get? a = some o → h2.get? a = some o) → φ h2
def HOk (H : Hp) (h : Heap) : Prop := ∀ a o, H a = some o → ObjOk P w H h a o
end
section
variable {P : Program} {w : World} {H H' : Hp} {h h' : Heap} {a : Addr} {o : HO}
theorem ObjOk.lt (x : ObjOk P w H h a o) : a < h.objs.size := by
  cases o with
  | lst xs => obtain ⟨_, _, _, _, e⟩ := x; exact Heap.lt_size e
  | tup xs => obtain ⟨_, _, _, p⟩ := x; exact p.lt
  | dK kvs => obtain ⟨_, _, _, _, o, _, _, e, _⟩ := x; exact Heap.lt_size e
  | dT kvs => obtain ⟨_, _, _, _, o, _, _, e, _⟩ := x; exact Heap.lt_size e
  | set S n => obtain ⟨o, _, _, _, e, _⟩ := x; exact Heap.lt_size e
  | ins C dx fs => obtain ⟨_, _, _, e, _⟩ := x; exact Heap.lt_size e
  | own y => obtain ⟨_, e⟩ := x; exact Heap.lt_size e
  | xd fs => obtain ⟨_, ⟨_, _, _, e, _⟩, _⟩ := x; exact Heap.lt_size e
  | rng lo hi => obtain ⟨_, _, _, e⟩ := x; exact Heap.lt_size e
  | frz ob u => obtain ⟨e, _⟩ := x; exact Heap.lt_size e
  | tbl ps => exact Heap.lt_size (show h.get? a = some _ from x)
  | met f y => exact Heap.lt_size (show h.get? a = some _ from x)
  | ext φ => obtain ⟨_, ⟨_, e⟩, _⟩ := x; exact Heap.lt_size e
theorem Paired.mapP {α β : Type} {F G : α → β → Prop} : ∀ {l₁ : List α} {l₂ : List β}, Paired F l₁ l₂ → (∀ a b, F a b → G a b) → Paired G l₁ l₂
  | _, _, .nil, _ => .nil
  | _, _, .cons r t, f => .cons (f _ _ r) (Paired.mapP t f)
theorem ObjOk.stay (x : ObjOk P w H h a o) (k : ∀ b u, (b = a ∨ H b = some (.own a)) → h.get? b = some u → h'.get? b = some u)
    (ho : ∀ b, H b = some (.own a) → H' b = some (.own a)) (ht : ∀ b xs, H b = some (.tup xs) → H' b = some (.tup xs)) : ObjOk P w H' h' a o := by
  induction o with
  | lst xs => obtain ⟨z, its, n, r, e⟩ := x; exact ⟨z, its, n, r, k _ _ (.inl rfl) e⟩
  | tup xs => obtain ⟨z, its, r, ob, e, c⟩ := x; exact ⟨z, its, r, ob, k _ _ (.inl rfl) e, c⟩
  | dK kvs => obtain ⟨z, y, vs, r, ob, es, ep, e, c⟩ := x; exact ⟨z, y, vs, r, ob, es, ep, k _ _ (.inl rfl) e, c⟩
  | dT kvs =>
    obtain ⟨z, y, xs, r, ob, es, ep, e, c⟩ := x
    exact ⟨z, y, xs, Paired.mapP r fun p q z => ⟨z.1, ht _ _ z.2.1, z.2.2⟩, ob, es, ep, k _ _ (.inl rfl) e, c⟩
  | set S n => obtain ⟨ob, es, ep, t, e, c⟩ := x; exact ⟨ob, es, ep, t, k _ _ (.inl rfl) e, c⟩
  | ins C dx fs =>
    obtain ⟨d, z, ne, e, mA, ⟨od, es, ep, e2, c⟩, r⟩ := x
    exact ⟨ho _ d, z, ne, k _ _ (.inl rfl) e, mA, ⟨od, es, ep, k _ _ (.inr d) e2, c⟩, r⟩
  | own y => obtain ⟨ob, e⟩ := x; exact ⟨ob, k _ _ (.inl rfl) e⟩
  | xd fs => obtain ⟨mA, ⟨od, es, ep, e, c⟩, r⟩ := x; exact ⟨mA, ⟨od, es, ep, k _ _ (.inl rfl) e, c⟩, r⟩
  | rng lo hi => obtain ⟨t, u, v, e⟩ := x; exact ⟨t, u, v, k _ _ (.inl rfl) e⟩
  | frz ob u ih => obtain ⟨e, q⟩ := x; exact ⟨k _ _ (.inl rfl) e, ih q⟩
  | tbl ps =>
    have e : h.get? a = some { cls := .none, data := .fields ps } := x
    show h'.get? a = some { cls := .none, data := .fields ps }
    exact k a _ (.inl rfl) e
  | met f y =>
    have e : h.get? a = some (PySem.W.methodObj (.ref f) (.ref y)) := x
    show h'.get? a = some (PySem.W.methodObj (.ref f) (.ref y))
    exact k a _ (.inl rfl) e
  | ext φ => obtain ⟨p, ⟨o, e⟩, st⟩ := x; exact ⟨st _ _ p fun o q => k _ _ (.inl rfl) q, ⟨o, k _ _ (.inl rfl) e⟩, st⟩
theorem HOk.lt (x : HOk P w H h) (e : H a = some o) : a < h.objs.size := (x a o e).lt
theorem HOk.fresh (x : HOk P w H h) (e : h.objs.size ≤ a) : H a = none := by
  cases q : H a with
  | none => rfl
  | some u => exact absurd (Nat.lt_of_lt_of_le (x.lt q) e) (Nat.lt_irrefl _)
theorem HOk.kept (x : HOk P w H h) (k : ∀ b u, h.get? b = some u → h'.get? b = some u) : HOk P w H h' := fun a o e =>
  (x a o e).stay (fun b u _ q => k b u q) (fun _ q => q) fun _ _ q => q
theorem HOk.laid (x : HOk P w H h) (k : ∀ b u, h.get? b = some u → h'.get? b = some u) (hp : h.objs.size ≤ a) (new : ObjOk P w (upd H a o) h' a o) : HOk P w (upd H a o) h' := fun b u e => by
  have hn := x.fresh hp
  by_cases hb : b = a
  · subst hb; rw [upd_same] at e; cases e; exact new
  · rw [upd_ne hb] at e
    exact (x b u e).stay (fun c v _ q => k c v q) (fun c q => by rw [upd_ne (ne_of_none q hn)]; exact q) fun c xs q => by rw [upd_ne (ne_of_none q hn)]; exact q
end
def Rd (H : Hp) (a : Addr) (u : HO) : Prop := H a = some u ∨ ∃ o, H a = some (.frz o u)
theorem Rd.of {H : Hp} {a : Addr} {u : HO} (h : H a = some u) : Rd H a u := .inl h
theorem Rd.ok {P : Program} {w : World} {H : Hp} {h : Heap} {a : Addr} {u : HO} (r : Rd H a u) (x : HOk P w H h) : ObjOk P w H h a u := by
  rcases r with r | ⟨o, r⟩
  · exact x a u r
  · obtain ⟨_, q⟩ := x a _ r
    exact q
def Mut : Option HO → Prop
  | some (.lst _) => True
  | some (.dK _) => True
  | some (.dT _) => True
  | some (.set _ _) => True
  | some (.ins _ _ _) => True
  | some (.ext _) => True
  | _ => False
section
variable {P : Program} {w : World} {H : Hp} {h h' : Heap} {x e : Addr} {o' : HO}
theorem HOk.write (ok : HOk P w H h) (mu : Mut (H x)) (he : e = x ∨ H e = some (.own x)) (k : ∀ b u, b ≠ e → h.get? b = some u → h'.get? b = some u) (heo : ∃ u, h'.get? e = some u)
    (new : ObjOk P w (upd H x o') h' x o') : HOk P w (upd H x o') h' := fun b u q => by
  have nown : ∀ c y, H c = some (.own y) → c ≠ x := fun c y r z => by subst z; rw [r] at mu; exact mu
  have ntup : ∀ c xs, H c = some (.tup xs) → c ≠ x := fun c xs r z => by subst z; rw [r] at mu; exact mu
  by_cases hb : b = x
  · subst hb; rw [upd_same] at q; cases q; exact new
  · rw [upd_ne hb] at q
    by_cases hbe : b = e
    · have q' : H b = some (.own x) := by
        rcases he with z | z
        · exact absurd (hbe.trans z) hb
        · rw [hbe]; exact z
      rw [q] at q'; cases q'
      obtain ⟨v, hv⟩ := heo
      exact ⟨v, by rw [hbe]; exact hv⟩
    · refine (ok b u q).stay (fun c v hc r => k c v ?_ r) (fun c r => by rw [upd_ne (nown c b r)]; exact r) fun c xs r => by rw [upd_ne (ntup c xs r)]; exact r
      rcases hc with rfl | hc
      · exact hbe
      · rintro rfl
        rcases he with z | z
        · exact nown c b hc z
        · rw [hc] at z; cases z; exact hb rfl
end
structure Un (fs ex : List Addr) (H H' : Hp) (h h' : Heap) : Prop where
  keep : ∀ b o, h.get? b = some o → H b = none → b ∉ fs → b ∉ ex → h'.get? b = some o
  slot : ∀ b o, h.get? b = some o → H b = none → b ∈ fs → b ∉ ex → ∃ sl, h'.get? b = some { o with slots := sl }
  free : ∀ b o, h.get? b = some o → H b = none → b ∉ ex → H' b = none
  there : ∀ b o, h.get? b = some o → b ∉ ex → ∃ o', h'.get? b = some o'
  tups : ∀ b xs, H b = some (.tup xs) → H' b = some (.tup xs)
  frzs : ∀ b o u, H b = some (.frz o u) → H' b = some (.frz o u)
  tbls : ∀ b ps, H b = some (.tbl ps) → ∃ more, H' b = some (.tbl (ps ++ more))
section
variable {fs fs' ex ex' : List Addr} {H H1 H2 : Hp} {h h1 h2 h' : Heap} {a x e : Addr} {o : HO}
theorem Un.any (u : Un fs ex H H1 h h1) {b : Addr} {ob : Obj} (q : h.get? b = some ob) (n : H b = none) (hx : b ∉ ex) : ∃ sl, h1.get? b = some { ob with slots := sl } := by
  by_cases hb : b ∈ fs
  · exact u.slot b ob q n hb hx
  · exact ⟨ob.slots, u.keep b ob q n hb hx⟩
theorem Un.trans (a : Un fs ex H H1 h h1) (b : Un fs ex H1 H2 h1 h2) : Un fs ex H H2 h h2 where
  keep := fun c ob q n hc hx => b.keep c ob (a.keep c ob q n hc hx) (a.free c ob q n hx) hc hx
  slot := fun c ob q n hc hx => by
    obtain ⟨sl, e1⟩ := a.slot c ob q n hc hx
    obtain ⟨sl', e2⟩ := b.slot c _ e1 (a.free c ob q n hx) hc hx
    exact ⟨sl', e2⟩
  free := fun c ob q n hx => by
    obtain ⟨o', e1⟩ := a.there c ob q hx
    exact b.free c o' e1 (a.free c ob q n hx) hx
  there := fun c ob q hx => by
    obtain ⟨o', e1⟩ := a.there c ob q hx
    exact b.there c o' e1 hx
  tups := fun c xs q => b.tups c xs (a.tups c xs q)
  frzs := fun c ob xs q => b.frzs c ob xs (a.frzs c ob xs q)
  tbls := fun c ps q => by
    obtain ⟨m1, e1⟩ := a.tbls c ps q
    obtain ⟨m2, e2⟩ := b.tbls c _ e1
    exact ⟨m1 ++ m2, by rw [e2, Array.append_assoc]⟩
theorem Un.kept (k : ∀ b u, h.get? b = some u → h'.get? b = some u) : Un fs ex H H h h' :=
  ⟨fun b ob q _ _ _ => k b ob q, fun b ob q _ _ _ => ⟨ob.slots, k b ob q⟩, fun _ _ _ n _ => n, fun b ob q _ => ⟨ob, k b ob q⟩, fun _ _ q => q, fun _ _ _ q => q, fun _ ps q => ⟨#[], by rw [q]; simp⟩⟩
theorem Un.refl : Un fs ex H H h h := Un.kept fun _ _ q => q
theorem Un.laid (k : ∀ b u, h.get? b = some u → h'.get? b = some u) (hp : h.objs.size ≤ a) (hn : H a = none) : Un fs ex H (upd H a o) h h' where
  keep := fun b u q _ _ _ => k b u q
  slot := fun b u q _ _ _ => ⟨u.slots, k b u q⟩
  free := fun b u q n _ => by rw [upd_ne (Nat.ne_of_lt (Nat.lt_of_lt_of_le (Heap.lt_size q) hp))]; exact n
  there := fun b u q _ => ⟨u, k b u q⟩
  tups := fun b xs q => by rw [upd_ne (ne_of_none q hn)]; exact q
  frzs := fun b u xs q => by rw [upd_ne (ne_of_none q hn)]; exact q
  tbls := fun b ps q => ⟨#[], by rw [upd_ne (ne_of_none q hn), q]; simp⟩
theorem Un.write (mu : Mut (H x)) (he : e = x ∨ H e = some (.own x)) (k : ∀ b u, b ≠ e → h.get? b = some u → h'.get? b = some u) (heo : ∃ u, h'.get? e = some u) : Un fs ex H (upd H x o) h h' := by
  have hx : ∀ b, H b = none → b ≠ x := fun b n z => by subst z; rw [n] at mu; exact mu
  have hb : ∀ b, H b = none → b ≠ e := fun b n z => by
    subst z
    rcases he with r | r
    · exact hx b n r
    · rw [n] at r; cases r
  have hm : ∀ b u, H b = some u → ¬ Mut (some u) → b ≠ x := fun b u q nm z => by subst z; rw [q] at mu; exact nm mu
  refine ⟨fun b u q n _ _ => k b u (hb b n) q, fun b u q n _ _ => ⟨u.slots, k b u (hb b n) q⟩, fun b u q n _ => by rw [upd_ne (hx b n)]; exact n, fun b u q _ => ?_,
    fun b xs q => by rw [upd_ne (hm b _ q fun z => z)]; exact q, fun b u xs q => by rw [upd_ne (hm b _ q fun z => z)]; exact q, fun b ps q => ⟨#[], by rw [upd_ne (hm b _ q fun z => z), q]; simp⟩⟩
  by_cases hbe : b = e
  · subst hbe; exact heo
  · exact ⟨u, k b u hbe q⟩
theorem Un.mono (u : Un fs ex H H1 h h1) (hs : ∀ b ∈ fs, b ∈ fs') (hx : ∀ b ∈ ex, b ∈ ex') : Un fs' ex' H H1 h h1 :=
  ⟨fun b ob q n hb he => u.keep b ob q n (fun z => hb (hs b z)) fun z => he (hx b z), fun _ _ q n _ he => u.any q n fun z => he (hx _ z), fun b ob q n he => u.free b ob q n fun z => he (hx b z), fun b ob q he => u.there b ob q fun z => he (hx b z), u.tups, u.frzs, u.tbls⟩
end
def trk (h : Heap) (H : Hp) : List Addr := (List.range h.objs.size).filter fun a => (H a).isSome
def hidT (h : Heap) (H : Hp) : Heap := PySem.W.hideAll h (trk h H)
theorem hidT_size (h : Heap) (H : Hp) : (hidT h H).objs.size = h.objs.size := PySem.W.hideAll_size _ _
theorem hidT_get {h : Heap} {H : Hp} {b : Addr} {o : Obj} (e : h.get? b = some o) (n : H b = none) : (hidT h H).get? b = some o :=
  PySem.W.hideAll_get _ e fun hm => by
    have q : (H b).isSome = true := (List.mem_filter.mp hm).2
    rw [n] at q; simp at q
theorem of_hidT {h : Heap} {H : Hp} {b : Addr} {o : Obj} (e : (hidT h H).get? b = some o) : h.get? b = some o ∧ H b = none := by
  have e' : h.get? b = some o := PySem.W.of_hideAll (trk h H) e
  refine ⟨e', ?_⟩
  cases q : H b with
  | none => rfl
  | some x =>
    have hm : b ∈ trk h H := List.mem_filter.mpr ⟨List.mem_range.mpr (Heap.lt_size e'), by simp [q]⟩
    have z : (hidT h H).get? b = none := PySem.W.hideAll_none (trk h H) hm
    rw [z] at e; cases e
def allNews (g h : Heap) (L : Addr) : List (Addr × Obj) := (List.range h.objs.size).filterMap fun a => if a = L ∨ (g.get? a).isSome = true then none else (h.get? a).map fun o => (a, o)
def rest (g h : Heap) (L d : Addr) : List (Addr × Obj) := (allNews g h L).filter fun p => decide (p.1 ≠ d)
end L2
namespace L2
open PySem PySem.Spec PyProof.Rows
structure Mod (K : PySem.W.Frag) (mg : Str → Option Value) (base : Heap) : Prop where
  kin : K.In base
  glob : base.Ns mainGlobals mg
  blt : ∃ mb, base.Ns builtinsNs mb ∧ ∀ x : Str, x ≠ "__name__" → mb x = bootBuiltins x
  nolimit : base.NoLimit
structure Cx where
  prog : Program
  w : World
  K : PySem.W.Frag
  mg : Str → Option Value
  base : Heap
  A : Around
  N : List Str
  s₀ : Shared
  H₀ : Hp
  env : Env
  outer : List Env
  stack : List Env
  ex : List Addr
  fn : Str → Bool
  calm : Bool
  pn : List (Addr × Obj)
  xe : Value → Shared → Prop
def frs (l : List Env) : List Addr := l.filterMap (·.frame)
abbrev Cx.fs (X : Cx) : List Addr := frs X.outer
def Vis (sc : Scope) (x : Str) : Prop := sc.names.lookup x = some .local ∨ sc.names.lookup x = some .cell ∨ sc.names.lookup x = some .free
def Loc (sc : Scope) (x : Str) : Prop := sc.names.lookup x = some .local ∨ sc.names.lookup x = some .cell
def Look (env : Env) (h : Heap) (m : Str → Option Value) (x : Str) (u : Value) : Prop :=
  (env.kindOf x = some .local ∧ m x = some u) ∨ ((env.kindOf x = some .cell ∨ env.kindOf x = some .free) ∧ ∃ c, env.cells.lookup x = some c ∧ h.IsCell c (some u))
structure Cx.Ok (X : Cx) : Prop where
  mod : Mod X.K X.mg X.base
  kind : X.env.scope.kind = .function
  glob : X.env.globals = mainGlobals
  blt : X.env.builtins = builtinsNs
  above : X.s₀.heap.objs.size ≤ X.env.locals
  inj : ∀ x y c, X.env.cells.lookup x = some c → X.env.cells.lookup y = some c → x = y
  has : ∀ x, (X.env.kindOf x = some .cell ∨ X.env.kindOf x = some .free) → ∃ c, X.env.cells.lookup x = some c
  cab : ∀ x c, X.fn x = true → X.env.cells.lookup x = some c → X.s₀.heap.objs.size ≤ c
  hd : X.calm = true → X.A.handled = none
  frames : X.A.frames = some X.stack
  stk : X.stack = X.outer ∨ (X.stack = X.env :: X.outer ∧ X.env.frame = some X.env.locals)
  exf : ∀ b ∈ X.ex, b ≠ X.env.locals ∧ ∀ x c, X.env.cells.lookup x = some c → c ≠ b
  bs : ∀ b o, X.base.get? b = some o → X.s₀.heap.get? b = some o ∧ X.H₀ b = none
  bsz : X.base.objs.size ≤ X.s₀.heap.objs.size
  noex : ∀ b o, X.base.get? b = some o → b ∉ X.ex
  exfs : ∀ b ∈ X.ex, b ∉ X.fs
  funs : X.s₀.heap.FunFrames X.base X.outer
  frf : ∀ b ∈ X.fs, X.H₀ b = none
structure Inv (X : Cx) (pins : List (Addr × Obj)) (σ : List (Option V)) (H : Hp) (s : Shared) : Prop where
  ok : X.Ok
  os : s.os = X.s₀.os
  bare : AllBare s.gens
  base : Un X.fs X.ex X.H₀ H X.s₀.heap s.heap
  loc : ∃ m, s.heap.Ns X.env.locals m ∧ ∀ (i : Nat) (x : Str) (v : V), X.N[i]? = some x → σ[i]? = some (some v) → Vis X.env.scope x → ∃ u, RelV v u ∧ Look X.env s.heap m x u
  cell : ∀ x c, X.env.cells.lookup x = some c → ∃ v, s.heap.IsCell c v
  free : H X.env.locals = none
  freeC : ∀ x c, X.env.cells.lookup x = some c → H c = none
  pin : ∀ p ∈ X.pn ++ pins, s.heap.get? p.1 = some p.2 ∧ H p.1 = none ∧ p.1 ≠ X.env.locals ∧ p.1 ∉ X.fs ∧ ∀ v, p.2.data ≠ .cell v
  hok : HOk X.prog X.w H s.heap
  len : σ.length = X.N.length
section
variable {X : Cx} {pins : List (Addr × Obj)} {σ : List (Option V)} {H H' : Hp} {s : Shared} {h' : Heap}
theorem Cx.Ok.nofr (ok : X.Ok) {b : Addr} {o : Obj} (e : X.base.get? b = some o) : b ∉ X.fs := fun hb => by
  have := (ok.funs.mem hb).1
  rw [e] at this; cases this
theorem Inv.bs (I : Inv X pins σ H s) : ∀ b o, X.base.get? b = some o → s.heap.get? b = some o ∧ H b = none := fun b o e =>
  ⟨I.base.keep b o (I.ok.bs b o e).1 (I.ok.bs b o e).2 (I.ok.nofr e) (I.ok.noex b o e), I.base.free b o (I.ok.bs b o e).1 (I.ok.bs b o e).2 (I.ok.noex b o e)⟩
theorem Inv.bk (I : Inv X pins σ H s) : ∀ b o, X.base.get? b = some o → s.heap.get? b = some o := fun b o e => (I.bs b o e).1
theorem Inv.mod (I : Inv X pins σ H s) : Mod X.K X.mg X.base := I.ok.mod
theorem Inv.kIn (I : Inv X pins σ H s) : X.K.In s.heap := I.ok.mod.kin.keeps I.bk
theorem Inv.nolimit (I : Inv X pins σ H s) : s.heap.NoLimit := I.ok.mod.nolimit.keeps I.bk
theorem Inv.fr (I : Inv X pins σ H s) : ∃ m, Fr X.base X.env.locals s.heap m :=
  let ⟨m, hn, _⟩ := I.loc
  ⟨m, hn, I.bk, Nat.le_trans I.ok.bsz I.ok.above⟩
theorem Inv.lt (I : Inv X pins σ H s) : X.env.locals < s.heap.objs.size := let ⟨_, hn, _⟩ := I.loc; hn.lt
theorem Inv.sz (I : Inv X pins σ H s) : X.s₀.heap.objs.size ≤ s.heap.objs.size := Nat.le_trans I.ok.above (Nat.le_of_lt I.lt)
theorem Inv.nofs (I : Inv X pins σ H s) {a : Addr} (h : s.heap.objs.size ≤ a) : a ∉ X.fs := fun hb => by
  obtain ⟨_, o, ho, _⟩ := I.ok.funs.mem hb
  exact absurd (Nat.lt_of_lt_of_le (Heap.lt_size ho) (Nat.le_trans I.sz h)) (Nat.lt_irrefl _)
theorem Inv.cne (I : Inv X pins σ H s) : ∀ x c, X.env.cells.lookup x = some c → c ≠ X.env.locals := fun x c e z => by
  obtain ⟨v, o, ho, hd⟩ := I.cell x c e
  obtain ⟨m, ⟨o', es, ep, ho', hd', _⟩, _⟩ := I.loc
  rw [z, ho'] at ho; cases ho; rw [hd'] at hd; cases hd
theorem Inv.funs (I : Inv X pins σ H s) : s.heap.FunFrames X.base X.outer := by
  have all : ∀ (l : List Env), (∀ b ∈ frs l, b ∈ X.fs) → X.s₀.heap.FunFrames X.base l → s.heap.FunFrames X.base l := by
    intro l
    induction l with
    | nil => intro _ _; trivial
    | cons env r ih =>
      intro hs hl
      obtain ⟨hk, ⟨L, o, hf, hn, ho, hd⟩, hr⟩ := hl
      have hL : L ∈ X.fs := hs L (by unfold frs; rw [List.filterMap_cons, hf]; exact List.mem_cons_self)
      obtain ⟨sl, e⟩ := I.base.slot L o ho (I.ok.frf L hL) hL fun z => I.ok.exfs L z hL
      exact ⟨hk, ⟨L, _, hf, hn, e, hd⟩, ih (fun b hb => hs b (by unfold frs; rw [List.filterMap_cons, hf]; exact List.mem_cons_of_mem _ hb)) hr⟩
  exact all X.outer (fun _ hb => hb) I.ok.funs
theorem Inv.stack (I : Inv X pins σ H s) : s.heap.FunFrames X.base X.stack := by
  rcases I.ok.stk with e | ⟨e, hf⟩
  · rw [e]; exact I.funs
  · rw [e]
    obtain ⟨m, hn, _⟩ := I.loc
    refine .cons (by rw [I.ok.kind]; decide) hf hn ?_ I.funs
    exact Heap.get?_none_of_le (Nat.le_trans I.ok.bsz I.ok.above)
theorem Inv.stkSub (I : Inv X pins σ H s) : ∀ b ∈ frs X.stack, b ∈ X.env.locals :: X.fs := fun b hb => by
  rcases I.ok.stk with e | ⟨e, hf⟩
  · rw [e] at hb; exact List.mem_cons_of_mem _ hb
  · rw [e] at hb
    unfold frs at hb
    rw [List.filterMap_cons, hf] at hb
    exact hb
theorem Inv.stkFree (I : Inv X pins σ H s) : ∀ b ∈ frs X.stack, H b = none := fun b hb => by
  rcases List.mem_cons.mp (I.stkSub b hb) with e | hb
  · rw [e]; exact I.free
  · obtain ⟨_, o, ho, _⟩ := I.ok.funs.mem hb
    exact I.base.free b o ho (I.ok.frf b hb) fun z => I.ok.exfs b z hb
theorem Inv.step {g' : Array GenState} {t' : Nat} {d' : Drawn} {ch : List Addr} (I : Inv X pins σ H s)
    (hch : ∀ b ∈ ch, (b ∈ X.ex ∨ X.s₀.heap.objs.size ≤ b) ∧ b ≠ X.env.locals ∧ (∀ x c, X.env.cells.lookup x = some c → c ≠ b) ∧ ∀ p ∈ X.pn ++ pins, p.1 ≠ b)
    (keep : ∀ b o, b ≠ X.env.locals → b ∉ X.fs → b ∉ ch → s.heap.get? b = some o → H b = none → h'.get? b = some o)
    (slot : ∀ b o, b ≠ X.env.locals → b ∈ X.fs → b ∉ ch → s.heap.get? b = some o → H b = none → ∃ sl, h'.get? b = some { o with slots := sl }) (free : ∀ b o, b ∉ ch → s.heap.get? b = some o → H b = none → H' b = none)
    (there : ∀ b o, b ∉ ch → s.heap.get? b = some o → ∃ o', h'.get? b = some o')
    (tups : ∀ b xs, H b = some (.tup xs) → H' b = some (.tup xs)) (frzs : ∀ b o u, H b = some (.frz o u) → H' b = some (.frz o u)) (tbls : ∀ b ps, H b = some (.tbl ps) → ∃ more, H' b = some (.tbl (ps ++ more)))
    (ns : ∀ m, s.heap.Ns X.env.locals m → h'.Ns X.env.locals m) (hok : HOk X.prog X.w H' h') (hg : AllBare g') :
    Inv X pins σ H' { s with heap := h', gens := g', drawn := d', toks := t' } := by
  have neL : ∀ b o, X.s₀.heap.get? b = some o → b ≠ X.env.locals := fun b o e => Nat.ne_of_lt (Nat.lt_of_lt_of_le (Heap.lt_size e) I.ok.above)
  have neC : ∀ b o, X.s₀.heap.get? b = some o → b ∉ X.ex → b ∉ ch := fun b o e hx hb => by
    rcases (hch b hb).1 with z | z
    · exact hx z
    · exact absurd (Nat.lt_of_lt_of_le (Heap.lt_size e) z) (Nat.lt_irrefl _)
  have cellK : ∀ x c, X.env.cells.lookup x = some c → ∀ v, s.heap.IsCell c v → h'.IsCell c v := fun x c e v ⟨o, ho, hd⟩ => by
    have nch : c ∉ ch := fun z => (hch c z).2.2.1 x c e rfl
    by_cases hc : c ∈ X.fs
    · obtain ⟨sl, q⟩ := slot c o (I.cne x c e) hc nch ho (I.freeC x c e)
      exact ⟨_, q, hd⟩
    · exact ⟨o, keep c o (I.cne x c e) hc nch ho (I.freeC x c e), hd⟩
  refine ⟨I.ok, I.os, hg, ⟨fun b o e n hb hx => ?_, fun b o e n hb hx => ?_, fun b o e n hx => ?_, fun b o e hx => ?_, fun b xs e => tups b xs (I.base.tups b xs e), fun b o xs e => frzs b o xs (I.base.frzs b o xs e), fun b ps e => ?_⟩, ?_, fun x c e => ?_, ?_, fun x c e => ?_, fun p hp => ?_, hok, I.len⟩
  · exact keep b o (neL b o e) hb (neC b o e hx) (I.base.keep b o e n hb hx) (I.base.free b o e n hx)
  · obtain ⟨sl, e1⟩ := I.base.slot b o e n hb hx
    obtain ⟨sl', e2⟩ := slot b _ (neL b o e) hb (neC b o e hx) e1 (I.base.free b o e n hx)
    exact ⟨sl', e2⟩
  · obtain ⟨o', e1⟩ := I.base.there b o e hx
    exact free b o' (neC b o e hx) e1 (I.base.free b o e n hx)
  · obtain ⟨o', e1⟩ := I.base.there b o e hx
    exact there b o' (neC b o e hx) e1
  · obtain ⟨m1, e1⟩ := I.base.tbls b ps e
    obtain ⟨m2, e2⟩ := tbls b _ e1
    exact ⟨m1 ++ m2, by rw [e2, Array.append_assoc]⟩
  · obtain ⟨m, hn, hl⟩ := I.loc
    refine ⟨m, ns m hn, fun i x v e1 e2 e3 => ?_⟩
    obtain ⟨u, r, l⟩ := hl i x v e1 e2 e3
    refine ⟨u, r, ?_⟩
    rcases l with l | ⟨k, c, e, z⟩
    · exact .inl l
    · exact .inr ⟨k, c, e, cellK x c e _ z⟩
  · obtain ⟨v, z⟩ := I.cell x c e
    exact ⟨v, cellK x c e v z⟩
  · obtain ⟨m, ⟨o, _, _, ho, _⟩, _⟩ := I.loc
    exact free _ o (fun z => (hch _ z).2.1 rfl) ho I.free
  · obtain ⟨v, o, ho, hd⟩ := I.cell x c e
    exact free c o (fun z => (hch c z).2.2.1 x c e rfl) ho (I.freeC x c e)
  · obtain ⟨e, n, ne, nf, d⟩ := I.pin p hp
    have nch : p.1 ∉ ch := fun z => (hch p.1 z).2.2.2 p hp rfl
    exact ⟨keep p.1 p.2 ne nf nch e n, free p.1 p.2 nch e n, ne, nf, d⟩
theorem Inv.un {t' : Nat} (I : Inv X pins σ H s) (u : Un X.fs [] H H' s.heap h') (hok : HOk X.prog X.w H' h') : Inv X pins σ H' { s with heap := h', toks := t' } := by
  obtain ⟨m, ⟨o, es, ep, ho, r⟩, _⟩ := id I.loc
  obtain ⟨sl, hL⟩ := u.any ho I.free (by simp)
  exact I.step (g' := s.gens) (d' := s.drawn) (ch := []) (fun _ z => nomatch z) (fun b o _ hb _ e n => u.keep b o e n hb (by simp)) (fun b o _ hb _ e n => u.slot b o e n hb (by simp)) (fun b o _ e n => u.free b o e n (by simp)) (fun b o _ e => u.there b o e (by simp)) u.tups u.frzs u.tbls (fun m' hm => by
    obtain ⟨o', es', ep', ho', r'⟩ := hm
    rw [ho] at ho'; cases ho'
    exact ⟨_, es', ep', hL, r'⟩) hok I.bare
theorem Inv.call {g' : Array GenState} {t' : Nat} {d' : Drawn} {ch : List Addr} (I : Inv X pins σ H s) (u : Un (frs X.stack) ch H H' s.heap h') (hok : HOk X.prog X.w H' h') (hg : AllBare g')
    (hch : ∀ b ∈ ch, (b ∈ X.ex ∨ X.s₀.heap.objs.size ≤ b) ∧ b ≠ X.env.locals ∧ (∀ x c, X.env.cells.lookup x = some c → c ≠ b) ∧ ∀ p ∈ X.pn ++ pins, p.1 ≠ b) :
    Inv X pins σ H' { s with heap := h', gens := g', drawn := d', toks := t' } := by
  obtain ⟨m, ⟨o, es, ep, ho, r⟩, _⟩ := id I.loc
  obtain ⟨sl, hL⟩ := u.any ho I.free fun z => (hch _ z).2.1 rfl
  exact I.step (ch := ch) hch (fun b o hL hb hc e n => u.keep b o e n (fun z => (List.mem_cons.mp (I.stkSub b z)).elim hL hb) hc) (fun b o _ _ hc e n => u.any e n hc) (fun b o hc e n => u.free b o e n hc) (fun b o hc e => u.there b o e hc) u.tups u.frzs u.tbls (fun m' hm => by
    obtain ⟨o', es', ep', ho', r'⟩ := hm
    rw [ho] at ho'; cases ho'
    exact ⟨_, es', ep', hL, r'⟩) hok hg
theorem Inv.turned {t' : Nat} {it : Addr} (I : Inv X pins σ H s) (k : ∀ b o, b ≠ it → s.heap.get? b = some o → h'.get? b = some o) (hn : H it = none) (hL : it ≠ X.env.locals)
    (h1 : it ∈ X.ex ∨ X.s₀.heap.objs.size ≤ it) (h2 : ∀ x c, X.env.cells.lookup x = some c → c ≠ it) (h3 : ∀ p ∈ X.pn ++ pins, p.1 ≠ it) : Inv X pins σ H { s with heap := h', toks := t' } := by
  have nit : ∀ b u, H b = some u → b ≠ it := fun b u e z => by rw [z, hn] at e; cases e
  refine I.step (g' := s.gens) (d' := s.drawn) (ch := [it]) (fun b hb => ?_) (fun b o _ _ hc e _ => k b o (fun z => hc (by simp [z])) e) (fun b o _ _ hc e _ => ⟨o.slots, k b o (fun z => hc (by simp [z])) e⟩) (fun _ _ _ _ n => n)
    (fun b o hc e => ⟨o, k b o (fun z => hc (by simp [z])) e⟩) (fun _ _ e => e) (fun _ _ _ e => e) (fun b ps e => ⟨#[], by rw [e]; simp⟩) (fun m hm => ?_) (fun b u e => ?_) I.bare
  · have e : b = it := by simpa using hb
    subst e
    exact ⟨h1, hL, h2, h3⟩
  · obtain ⟨o, es, ep, ho, r⟩ := hm
    exact ⟨o, es, ep, k _ o (Ne.symm hL) ho, r⟩
  · refine (I.hok b u e).stay (fun c v hc q => k c v ?_ q) (fun _ q => q) fun _ _ q => q
    rcases hc with z | z
    · rw [z]; exact nit b u e
    · exact nit c _ z
theorem Inv.tok (I : Inv X pins σ H s) (t : Nat) : Inv X pins σ H { s with toks := t } := I.un (h' := s.heap) (t' := t) Un.refl I.hok
theorem Inv.kept {t' : Nat} (I : Inv X pins σ H s) (k : ∀ b u, s.heap.get? b = some u → h'.get? b = some u) : Inv X pins σ H { s with heap := h', toks := t' } := I.un (Un.kept k) (I.hok.kept k)
theorem Inv.laid {a : Addr} {o : HO} {t' : Nat} (I : Inv X pins σ H s) (k : ∀ b u, s.heap.get? b = some u → h'.get? b = some u) (hp : s.heap.objs.size ≤ a) (new : ObjOk X.prog X.w (upd H a o) h' a o) :
    Inv X pins σ (upd H a o) { s with heap := h', toks := t' } := I.un (Un.laid k hp (I.hok.fresh hp)) (I.hok.laid k hp new)
theorem Inv.write {x e : Addr} {o : HO} {t' : Nat} (I : Inv X pins σ H s) (mu : Mut (H x)) (he : e = x ∨ H e = some (.own x)) (k : ∀ b u, b ≠ e → s.heap.get? b = some u → h'.get? b = some u) (heo : ∃ u, h'.get? e = some u)
    (new : ObjOk X.prog X.w (upd H x o) h' x o) : Inv X pins σ (upd H x o) { s with heap := h', toks := t' } := I.un (Un.write mu he k heo) (I.hok.write mu he k heo new)
theorem Inv.weak {σ' : List (Option V)} (I : Inv X pins σ H s) (hl : σ'.length = σ.length) (w : ∀ (i : Nat) v, σ'[i]? = some (some v) → σ[i]? = some (some v)) : Inv X pins σ' H s :=
  ⟨I.ok, I.os, I.bare, I.base, let ⟨m, hn, hl'⟩ := I.loc; ⟨m, hn, fun i x v e1 e2 e3 => hl' i x v e1 (w i v e2) e3⟩, I.cell, I.free, I.freeC, I.pin, I.hok, hl.trans I.len⟩
theorem Inv.pins_of {pins' : List (Addr × Obj)} (I : Inv X pins σ H s) (h : ∀ p ∈ pins', s.heap.get? p.1 = some p.2 ∧ H p.1 = none ∧ p.1 ≠ X.env.locals ∧ p.1 ∉ X.fs ∧ ∀ v, p.2.data ≠ .cell v) : Inv X pins' σ H s :=
  ⟨I.ok, I.os, I.bare, I.base, I.loc, I.cell, I.free, I.freeC, fun p hp => (List.mem_append.mp hp).elim (fun z => I.pin p (List.mem_append_left _ z)) (h p), I.hok, I.len⟩
theorem nodup_ix {N : List Str} (hN : N.Nodup) {i j : Nat} {x : Str} (a : N[i]? = some x) (b : N[j]? = some x) : i = j := by
  obtain ⟨h1, e1⟩ := List.getElem?_eq_some_iff.mp a
  obtain ⟨h2, e2⟩ := List.getElem?_eq_some_iff.mp b
  exact (List.getElem_inj hN).mp (e1.trans e2.symm)
theorem store_ok2 {M : Model} {A : Around} {E : Value → Shared → Prop} {i : Nat} {x : Str} {v : V} {u : Value} {Q : Unit → Shared → Prop} (I : Inv X pins σ H s) (hN : X.N.Nodup) (hi : X.N[i]? = some x) (hx : Loc X.env.scope x) (r : RelV v u)
    (h : ∀ s', Inv X pins (σ.set i (some v)) H s' → (∃ a, Heap.SameBut a s.heap s'.heap ∧ (a = X.env.locals ∨ X.env.cells.lookup x = some a)) → Q () s') (hf : X.fn x = true ∨ X.env.scope.names.lookup x = some .local := by first | exact .inl rfl | exact .inr rfl | assumption) : wpAny M A (storeName X.env x u) Q E s := by
  obtain ⟨m, hn, hl⟩ := id I.loc
  have hcls : (X.env.scope.kind == .class || (X.env.scope.kind == .module && X.env.locals != X.env.globals)) = false := by rw [I.ok.kind]; rfl
  have hiσ : i < σ.length := by rw [I.len]; exact (List.getElem?_eq_some_iff.mp hi).1
  have cne := I.cne
  have tracked : ∀ {a : Addr} {h' : Heap}, (∃ o, s.heap.get? a = some o ∧ H a = none) → Heap.SameBut a s.heap h' → HOk X.prog X.w H h' := fun {a h'} ha hs b ob e => by
    obtain ⟨_, _, hfree⟩ := ha
    refine (I.hok b ob e).stay (fun c w' hc q => (hs.2 c ?_).trans q) (fun _ q => q) fun _ _ q => q
    rintro rfl
    rcases hc with rfl | hc
    · rw [hfree] at e; cases e
    · rw [hfree] at hc; cases hc
  rcases hx with hk | hk
  · refine wpAny_storeName_local hk hn (fun h' hn' hs => ?_) hcls
    obtain ⟨oL, _, _, hoL, _⟩ := id hn
    refine h _ ⟨I.ok, I.os, I.bare, ⟨fun b o e n hb hx => ?_, fun b o e n hb hx => ?_, I.base.free, fun b o e hx => ?_, I.base.tups, I.base.frzs, I.base.tbls⟩, ⟨_, hn', fun j y v' e1 e2 e3 => ?_⟩, fun y c e => ?_, I.free, I.freeC, fun p hp => ?_, tracked ⟨oL, hoL, I.free⟩ hs, by simpa using I.len⟩ ⟨_, hs, .inl rfl⟩
    · exact (hs.2 b (Nat.ne_of_lt (Nat.lt_of_lt_of_le (Heap.lt_size e) I.ok.above))).trans (I.base.keep b o e n hb hx)
    · obtain ⟨sl, e1⟩ := I.base.slot b o e n hb hx
      exact ⟨sl, (hs.2 b (Nat.ne_of_lt (Nat.lt_of_lt_of_le (Heap.lt_size e) I.ok.above))).trans e1⟩
    · obtain ⟨o', e1⟩ := I.base.there b o e hx
      exact ⟨o', (hs.2 b (Nat.ne_of_lt (Nat.lt_of_lt_of_le (Heap.lt_size e) I.ok.above))).trans e1⟩
    · by_cases hj : j = i
      · subst hj
        rw [hi] at e1; cases e1
        rw [List.getElem?_set_self hiσ] at e2
        cases e2
        exact ⟨u, r, .inl ⟨hk, by simp⟩⟩
      · rw [List.getElem?_set_ne (Ne.symm hj)] at e2
        obtain ⟨u', r', q⟩ := hl j y v' e1 e2 e3
        refine ⟨u', r', ?_⟩
        rcases q with ⟨k, e⟩ | ⟨k, c, e, z⟩
        · refine .inl ⟨k, ?_⟩
          have : y ≠ x := fun e => hj (nodup_ix hN e1 (e ▸ hi))
          simp [this, e]
        · exact .inr ⟨k, c, e, z.sameBut hs (cne y c e)⟩
    · obtain ⟨w', z⟩ := I.cell y c e
      exact ⟨w', z.sameBut hs (cne y c e)⟩
    · obtain ⟨e, n, ne, nf, d⟩ := I.pin p hp
      exact ⟨(hs.2 p.1 ne).trans e, n, ne, nf, d⟩
  · have hfn : X.fn x = true := by
      rcases hf with z | z
      · exact z
      · rw [z] at hk; cases hk
    obtain ⟨c, hc⟩ := I.ok.has x (.inl hk)
    obtain ⟨w', z⟩ := I.cell x c hc
    refine wpAny_storeName_cell I.ok.kind hk hc z (fun h' hc' hs => ?_)
    obtain ⟨oc, hoc, hocd⟩ := id z
    refine h { s with heap := h' } ⟨I.ok, I.os, I.bare, ⟨fun b o e n hb hx => ?_, fun b o e n hb hx => ?_, I.base.free, fun b o e hx => ?_, I.base.tups, I.base.frzs, I.base.tbls⟩, ⟨m, hn.sameBut hs (Ne.symm (cne x c hc)), fun j y v' e1 e2 e3 => ?_⟩, fun y c' e => ?_, I.free, I.freeC, fun p hp => ?_, tracked ⟨oc, hoc, I.freeC x c hc⟩ hs, by simpa using I.len⟩ ⟨c, hs, .inr hc⟩
    · exact (hs.2 b (Nat.ne_of_lt (Nat.lt_of_lt_of_le (Heap.lt_size e) (I.ok.cab x c hfn hc)))).trans (I.base.keep b o e n hb hx)
    · obtain ⟨sl, e1⟩ := I.base.slot b o e n hb hx
      exact ⟨sl, (hs.2 b (Nat.ne_of_lt (Nat.lt_of_lt_of_le (Heap.lt_size e) (I.ok.cab x c hfn hc)))).trans e1⟩
    · obtain ⟨o', e1⟩ := I.base.there b o e hx
      exact ⟨o', (hs.2 b (Nat.ne_of_lt (Nat.lt_of_lt_of_le (Heap.lt_size e) (I.ok.cab x c hfn hc)))).trans e1⟩
    · by_cases hj : j = i
      · subst hj
        rw [hi] at e1; cases e1
        rw [List.getElem?_set_self hiσ] at e2
        cases e2
        exact ⟨u, r, .inr ⟨.inl hk, c, hc, hc'⟩⟩
      · rw [List.getElem?_set_ne (Ne.symm hj)] at e2
        obtain ⟨u', r', q⟩ := hl j y v' e1 e2 e3
        refine ⟨u', r', ?_⟩
        rcases q with q | ⟨k, c', e, z'⟩
        · exact .inl q
        · refine .inr ⟨k, c', e, z'.sameBut hs ?_⟩
          rintro rfl
          exact hj (nodup_ix hN e1 (I.ok.inj _ _ _ e hc ▸ hi))
    · by_cases hcc : c' = c
      · subst hcc; exact ⟨_, hc'⟩
      · obtain ⟨w2, z2⟩ := I.cell y c' e
        exact ⟨w2, z2.sameBut hs hcc⟩
    · obtain ⟨e, n, ne, nf, d⟩ := I.pin p hp
      refine ⟨(hs.2 p.1 ?_).trans e, n, ne, nf, d⟩
      intro q
      rw [q, hoc] at e
      have q' : oc = p.2 := Option.some.inj e
      exact d w' (by rw [← q']; exact hocd)
theorem store_ok {M : Model} {A : Around} {E : Value → Shared → Prop} {i : Nat} {x : Str} {v : V} {u : Value} {Q : Unit → Shared → Prop} (I : Inv X pins σ H s) (hN : X.N.Nodup) (hi : X.N[i]? = some x) (hx : Loc X.env.scope x) (r : RelV v u)
    (h : ∀ s', Inv X pins (σ.set i (some v)) H s' → Q () s') (hf : X.fn x = true ∨ X.env.scope.names.lookup x = some .local := by first | exact .inl rfl | exact .inr rfl | assumption) : wpAny M A (storeName X.env x u) Q E s :=
  store_ok2 I hN hi hx r (fun s' I' _ => h s' I') hf
theorem Inv.call' {s' : Shared} {ch : List Addr} (I : Inv X pins σ H s) (ho : s'.os = s.os) (u : Un (frs X.stack) ch H H' s.heap s'.heap) (hok : HOk X.prog X.w H' s'.heap) (hg : AllBare s'.gens)
    (hch : ∀ b ∈ ch, (b ∈ X.ex ∨ X.s₀.heap.objs.size ≤ b) ∧ b ≠ X.env.locals ∧ (∀ x c, X.env.cells.lookup x = some c → c ≠ b) ∧ ∀ p ∈ X.pn ++ pins, p.1 ≠ b) : Inv X pins σ H' s' := by
  obtain ⟨h', g', d', t', o'⟩ := s'
  have e : o' = s.os := ho
  subst e
  exact I.call (g' := g') (t' := t') (d' := d') u hok hg hch
end
abbrev XK := Value → Option Addr → Hp → Prop
abbrev St := List (Option V)
abbrev VK := V → Hp → Prop
abbrev TE := St → Hp → VK → Prop
abbrev TT := St → Hp → (Bool → Hp → Prop) → Prop
abbrev TA := St → Hp → (List V → Hp → Prop) → Prop
structure Ends where
  nx : St → Hp → Prop
  rt : VK
  bk : St → Hp → Prop := fun _ _ => False
  ct : St → Hp → Prop := fun _ _ => False
abbrev TS := Ends → St → Hp → Prop
def EP (X : Cx) (pins : List (Addr × Obj)) (σ : St) (Q : VK) (u : Value) (s' : Shared) : Prop := ∃ v H', Inv X pins σ H' s' ∧ RelV v u ∧ Q v H'
def TP (X : Cx) (pins : List (Addr × Obj)) (σ : St) (Q : Bool → Hp → Prop) (b : Bool) (s' : Shared) : Prop := ∃ H', Inv X pins σ H' s' ∧ Q b H'
def AP (X : Cx) (pins : List (Addr × Obj)) (σ : St) (Q : List V → Hp → Prop) (us : List Value) (s' : Shared) : Prop := ∃ vs H', Inv X pins σ H' s' ∧ Vals vs us ∧ Q vs H'
def SP (X : Cx) (pins : List (Addr × Obj)) (D : Ends) (f : Flow) (s' : Shared) : Prop :=
  match f with
  | .next => ∃ σ' H', Inv X pins σ' H' s' ∧ D.nx σ' H'
  | .brk => ∃ σ' H', Inv X pins σ' H' s' ∧ D.bk σ' H'
  | .cont => ∃ σ' H', Inv X pins σ' H' s' ∧ D.ct σ' H'
  | .ret u => ∃ v σ' H', Inv X pins σ' H' s' ∧ RelV v u ∧ D.rt v H'
def PE (X : Cx) (e : Expr) (t : TE) : Prop :=
  ∀ (pins : List (Addr × Obj)) (s : Shared) (σ : St) (H : Hp) (Q : VK), Inv X pins σ H s → t σ H Q → wpAny (model X.prog X.w) X.A (eval e X.env) (EP X pins σ Q) X.xe s
def PT (X : Cx) (e : Expr) (t : TT) : Prop :=
  ∀ (pins : List (Addr × Obj)) (s : Shared) (σ : St) (H : Hp) (Q : Bool → Hp → Prop), Inv X pins σ H s → t σ H Q → wpAny (model X.prog X.w) X.A (isTrue e X.env (eval e X.env)) (TP X pins σ Q) X.xe s
def PW (X : Cx) (e : Expr) (t : TT) : Prop :=
  ∀ (whole : Sem Value) (pins : List (Addr × Obj)) (s : Shared) (σ : St) (H : Hp) (Q : Bool → Hp → Prop), Inv X pins σ H s → t σ H Q → wpAny (model X.prog X.w) X.A (isTrue e X.env whole) (TP X pins σ Q) X.xe s
theorem PW.pt {X : Cx} {e : Expr} {t : TT} (h : PW X e t) : PT X e t := h _
def PA (X : Cx) (es : List Expr) (t : TA) : Prop :=
  ∀ (pos : Pos) (pins : List (Addr × Obj)) (s : Shared) (σ : St) (H : Hp) (Q : List V → Hp → Prop), Inv X pins σ H s → t σ H Q → wpAny (model X.prog X.w) X.A (spliced (backTo pos (starEach es X.env))) (AP X pins σ Q) X.xe s
def PS (X : Cx) (st : Stmt) (t : TS) : Prop :=
  ∀ (pins : List (Addr × Obj)) (s : Shared) (σ : St) (H : Hp) (D : Ends), Inv X pins σ H s → t D σ H → wpAny (model X.prog X.w) X.A (exec st X.env) (SP X pins D) X.xe s
def PSs (X : Cx) (st : List Stmt) (t : TS) : Prop :=
  ∀ (pins : List (Addr × Obj)) (s : Shared) (σ : St) (H : Hp) (D : Ends), Inv X pins σ H s → t D σ H → wpAny (model X.prog X.w) X.A (execs st X.env) (SP X pins D) X.xe s
theorem thn {α : Type} {t : Sem α} {Q Q' : α → Shared → Prop} {M : Model} {A : Around} {E : Value → Shared → Prop} {s : Shared} (h : wpAny M A t Q E s) (hQ : ∀ a s, Q a s → Q' a s) : wpAny M A t Q' E s := wpAny_mono h hQ fun _ _ x => x
end L2
namespace L2
open PySem PySem.Spec PyProof.Rows
section
variable {X : Cx}
def tVar (i : Nat) : TE := fun σ H Q => ∃ v, σ[i]? = some (some v) ∧ Q v H
def tC (v : V) : TE := fun _ H Q => Q v H
theorem pe_var {i : Nat} {x : Str} {pos : Pos} (hN : X.N[i]? = some x) (hv : Vis X.env.scope x) (hd : (x == ("__debug__" : Str)) = false := by decide) (hcd : (x == ("__classdict__" : Str)) = false := by decide) : PE X (.Name x pos) (tVar i) := by
  intro pins s σ H Q I h
  obtain ⟨v, e, h⟩ := h
  obtain ⟨m, hn, hl⟩ := I.loc
  obtain ⟨u, r, l⟩ := hl i x v hN e hv
  have fin : EP X pins σ Q u s := ⟨v, H, I, r, h⟩
  rcases l with ⟨hk, hm⟩ | ⟨hk, c, hc, hcell⟩
  · exact wpAny_Name (wpAny_loadName_local I.ok.kind hk hn hm fin) hd
  · rcases hk with hk | hk
    · exact wpAny_Name (wpAny_loadName_cell I.ok.kind hk hc hcell fin) hd
    · exact wpAny_Name (wpAny_loadName_free I.ok.kind hk hc hcell fin hcd) hd
theorem pe_int {i j pos} : PE X (.Constant (.int i) j pos) (tC (.int i)) := fun _ _ _ H _ I h => wpAny_Constant_int ⟨.int i, H, I.tok _, ⟨_, rfl⟩, h⟩
theorem pe_bl {b j pos} : PE X (.Constant (.bool b) j pos) (tC (.bl b)) := fun _ _ _ H _ I h => Constant_bool ⟨.bl b, H, I, rfl, h⟩
def Gl (X : Cx) (x : Str) : Prop := X.env.kindOf x = some .globalImplicit
theorem ld_glob {E : Value → Shared → Prop} {pins : List (Addr × Obj)} {s : Shared} {σ : St} {H : Hp} {x : Str} {u : Value} {pos : Pos} {Q : Value → Shared → Prop} (I : Inv X pins σ H s) (hg : Gl X x) (hm : X.mg x = some u) (h : Q u s)
    (hd : (x == ("__debug__" : Str)) = false := by decide) : wpAny (model X.prog X.w) X.A (eval (.Name x pos) X.env) Q E s :=
  Calls.Name_function_global I.ok.kind hg (Calls.loadGlobal_global (by rw [I.ok.glob]; exact I.mod.glob.keeps I.bk) hm h) hd
theorem ld_blt {E : Value → Shared → Prop} {pins : List (Addr × Obj)} {s : Shared} {σ : St} {H : Hp} {x : Str} {u : Value} {pos : Pos} {Q : Value → Shared → Prop} (I : Inv X pins σ H s) (hg : Gl X x) (hm : X.mg x = none) (hv : bootBuiltins x = some u) (h : Q u s)
    (hn : x ≠ "__name__" := by decide) (hd : (x == ("__debug__" : Str)) = false := by decide) : wpAny (model X.prog X.w) X.A (eval (.Name x pos) X.env) Q E s := by
  obtain ⟨mb, h1, h2⟩ := I.mod.blt
  exact Calls.Name_function_global I.ok.kind hg (Calls.loadGlobal_builtin (by rw [I.ok.glob]; exact I.mod.glob.keeps I.bk) hm (by rw [I.ok.blt]; exact h1.keeps I.bk) ((h2 x hn).trans hv) h) hd
theorem pe_bltn {x : Str} {v : V} {u : Value} {pos : Pos} (hg : Gl X x) (hm : X.mg x = none) (hv : bootBuiltins x = some u) (r : RelV v u) (hn : x ≠ "__name__" := by decide) (hd : (x == ("__debug__" : Str)) = false := by decide) : PE X (.Name x pos) (tC v) :=
  fun _ _ _ H _ I h => ld_blt I hg hm hv ⟨v, H, I, r, h⟩ hn hd
variable {a b : Expr} {ta tb : TE} {pos : Pos}
def tB (t : TE) : TT := fun σ H Q => t σ H fun x H1 => ∃ c, x = .bl c ∧ Q c H1
theorem pt_val {e : Expr} {t : TE} (h : PE X e t) (he : ∀ whole, isTrue e X.env whole = (do let v ← whole; standAt e.pos; holding [v] (truthy v)) := by intro _; rfl) : PT X e (tB t) := by
  intro pins s σ H Q I hw
  refine isTrue_plain (thn (h pins s σ H _ I hw) fun v s1 ⟨x, H1, I1, r1, q1⟩ => ?_) (he _)
  obtain ⟨d, rfl, q⟩ := q1
  cases r1
  exact wpAny_truthy_bool ⟨H1, I1, q⟩
variable {tA tB' : TT} {rest : List Expr}
def tAnd (t u : TT) : TT := fun σ H Q => t σ H fun c H1 => if c = true then u σ H1 Q else Q false H1
def tOr (t u : TT) : TT := fun σ H Q => t σ H fun c H1 => if c = true then Q true H1 else u σ H1 Q
def tNot (t : TT) : TT := fun σ H Q => t σ H fun c H1 => Q (!c) H1
theorem pw_and1 (ha : PT X a tA) : PW X (.BoolOp .And [a] pos) tA := by
  intro wh pins s σ H Q I h
  refine isTrue_and (thn (ha pins s σ H Q I h) fun c s1 e => ?_)
  cases c with
  | true => exact isTrue_and_nil e
  | false => exact e
theorem pw_or1 (ha : PT X a tA) : PW X (.BoolOp .Or [a] pos) tA := by
  intro wh pins s σ H Q I h
  refine isTrue_or (thn (ha pins s σ H Q I h) fun c s1 e => ?_)
  cases c with
  | false => exact isTrue_or_nil e
  | true => exact e
theorem pw_and (ha : PT X a tA) (hb : PW X (.BoolOp .And (b :: rest) pos) tB') : PW X (.BoolOp .And (a :: b :: rest) pos) (tAnd tA tB') := by
  intro wh pins s σ H Q I h
  refine isTrue_and (thn (ha pins s σ H _ I h) fun c s1 ⟨H1, I1, q1⟩ => ?_)
  cases c with
  | true => exact hb wh pins s1 σ H1 Q I1 q1
  | false => exact ⟨H1, I1, q1⟩
theorem pw_or (ha : PT X a tA) (hb : PW X (.BoolOp .Or (b :: rest) pos) tB') : PW X (.BoolOp .Or (a :: b :: rest) pos) (tOr tA tB') := by
  intro wh pins s σ H Q I h
  refine isTrue_or (thn (ha pins s σ H _ I h) fun c s1 ⟨H1, I1, q1⟩ => ?_)
  cases c with
  | true => exact ⟨H1, I1, q1⟩
  | false => exact hb wh pins s1 σ H1 Q I1 q1
theorem pt_not (ha : PT X a tA) : PT X (.UnaryOp .Not a pos) (tNot tA) := by
  intro pins s σ H Q I h
  exact isTrue_not (ha pins s σ H (fun c H1 => Q (!c) H1) I h)
def tAndV (ta tb : TE) : TE := fun σ H Q => ta σ H fun x H1 => ∃ c, x = .bl c ∧ if c = true then tb σ H1 Q else Q (.bl false) H1
def tNotV (ta : TE) : TE := fun σ H Q => ta σ H fun x H1 => ∃ c, x = .bl c ∧ Q (.bl (!c)) H1
theorem pe_one {op} {t : TE} (h : PE X a t) : PE X (.BoolOp op [a] pos) t := fun pins s σ H Q I hw => BoolOp_one (h pins s σ H Q I hw)
theorem pe_and (ha : PE X a ta) (hb : PE X (.BoolOp .And (b :: rest) pos) tb) : PE X (.BoolOp .And (a :: b :: rest) pos) (tAndV ta tb) := by
  intro pins s σ H Q I h
  refine BoolOp_and (thn (ha pins s σ H _ I h) fun v s1 ⟨x, H1, I1, r1, q1⟩ => ?_)
  obtain ⟨c, rfl, q1⟩ := q1
  cases r1
  refine wpAny_truthy_bool ?_
  cases c with
  | true => exact hb pins s1 σ H1 Q I1 q1
  | false => exact ⟨.bl false, H1, I1, rfl, q1⟩
theorem pe_not (ha : PE X a ta) : PE X (.UnaryOp .Not a pos) (tNotV ta) := by
  intro pins s σ H Q I h
  refine UnaryOp_ (thn (ha pins s σ H _ I h) fun v s1 ⟨x, H1, I1, r1, q1⟩ => ?_)
  obtain ⟨c, rfl, q1⟩ := q1
  cases r1
  exact not_of (wpAny_truthy_bool ⟨.bl (!c), H1, I1, rfl, q1⟩)
def tIf (t : TT) (ta tb : TE) : TE := fun σ H Q => t σ H fun c H1 => if c = true then ta σ H1 Q else tb σ H1 Q
theorem pe_ifExp {c : Expr} (hc : PT X c tA) (ha : PE X a ta) (hb : PE X b tb) : PE X (.IfExp c a b pos) (tIf tA ta tb) := by
  intro pins s σ H Q I h
  refine wpAny_IfExp (thn (hc pins s σ H _ I h) fun d s1 ⟨H1, I1, q1⟩ => ?_)
  cases d with
  | true => exact ha pins s1 σ H1 Q I1 q1
  | false => exact hb pins s1 σ H1 Q I1 q1
end
end L2
namespace L2
open PySem PySem.Spec PyProof.Rows
def SqL (K : PySem.W.Frag) (H : Hp) (a : Addr) (xs : List V) : Prop :=
  Rd H a (.lst xs) ∨
    ∃ (o : Obj) (its : Array Value) (n : Nat), K.lookup a = some o ∧ o.cls = .type "list" ∧ o.dict = none ∧ o.data = .seq its n ∧ its.size ≤ sizeLine ∧ Vals xs its.toList
def SqT (K : PySem.W.Frag) (H : Hp) (a : Addr) (xs : List V) : Prop :=
  Rd H a (.tup xs) ∨
    ∃ (o : Obj) (its : Array Value) (n : Nat), K.lookup a = some o ∧ o.cls = .type "tuple" ∧ o.data = .seq its n ∧ its.size ≤ sizeLine ∧ Vals xs its.toList
def absV : Value → Option V
  | .none => some .non
  | .bool b => some (.bl b)
  | .int i _ => some (.int i)
  | .str x _ => some (.str x)
  | .bytes b _ => some (.byt b)
  | .float b _ => some (.flt b)
  | .ref a => some (.ref a)
  | .type n => some (.ty n)
  | _ => none
theorem RelV.abs {x : V} {u : Value} (r : RelV x u) : absV u = some x := by
  cases x with
  | non => cases r; rfl
  | bl _ => cases r; rfl
  | int _ => obtain ⟨t, rfl⟩ := r; rfl
  | str _ => obtain ⟨t, rfl⟩ := r; rfl
  | byt _ => obtain ⟨t, rfl⟩ := r; rfl
  | flt _ => obtain ⟨t, rfl⟩ := r; rfl
  | ref _ => cases r; rfl
  | ty _ => cases r; rfl
theorem RelV.inj {x y : V} {u : Value} (r : RelV x u) (q : RelV y u) : x = y := Option.some.inj (r.abs.symm.trans q.abs)
theorem Vals.inj : ∀ {xs ys : List V} {us : List Value}, Vals xs us → Vals ys us → xs = ys
  | _, _, _, .nil, .nil => rfl
  | _, _, _, .cons r t, .cons r' t' => by rw [r.inj r', Vals.inj t t']
section
variable {X : Cx} {pins : List (Addr × Obj)} {σ : St} {H : Hp} {s : Shared} {a : Addr} {xs ys : List V}
theorem SqL.of {K : PySem.W.Frag} (h : H a = some (.lst xs)) : SqL K H a xs := .inl (.inl h)
theorem SqT.of {K : PySem.W.Frag} (h : H a = some (.tup xs)) : SqT K H a xs := .inl (.inl h)
theorem Inv.list (I : Inv X pins σ H s) (h : SqL X.K H a xs) : ∃ its : List Value, Vals xs its ∧ PlainL s.heap a its.toArray ∧ xs.length ≤ sizeLine := by
  rcases h with h | ⟨o, its, n, hk, hc, hd, hs, hz, r⟩
  · obtain ⟨z, its, n, r, e⟩ := h.ok I.hok
    exact ⟨its, r, ⟨_, n, e, rfl, rfl, rfl⟩, z⟩
  · refine ⟨its.toList, r, ⟨o, n, I.kIn a o hk, hc, hd, by simpa using hs⟩, ?_⟩
    have e := r.length
    simp only [Array.length_toList] at e
    omega
theorem Inv.tuple (I : Inv X pins σ H s) (h : SqT X.K H a xs) : ∃ its : List Value, Vals xs its ∧ IsTup s.heap a its.toArray ∧ xs.length ≤ sizeLine := by
  rcases h with h | ⟨o, its, n, hk, hc, hs, hz, r⟩
  · obtain ⟨z, its, r, p⟩ := h.ok I.hok
    exact ⟨its, r, p, z⟩
  · refine ⟨its.toList, r, ⟨o, I.kIn a o hk, hc, n, by simpa using hs⟩, ?_⟩
    have e := r.length
    simp only [Array.length_toList] at e
    omega
theorem Inv.list_inj (I : Inv X pins σ H s) (h : SqL X.K H a xs) (h' : SqL X.K H a ys) : xs = ys := by
  obtain ⟨its, r, ⟨o, n, e, _, _, d⟩, _⟩ := I.list h
  obtain ⟨its', r', ⟨o', n', e', _, _, d'⟩, _⟩ := I.list h'
  rw [e] at e'; cases e'
  rw [d] at d'
  injection d' with d1 _
  have : its = its' := by simpa using congrArg Array.toList d1
  subst this
  exact r.inj r'
theorem Inv.tuple_inj (I : Inv X pins σ H s) (h : SqT X.K H a xs) (h' : SqT X.K H a ys) : xs = ys := by
  obtain ⟨its, r, ⟨o, e, _, n, d⟩, _⟩ := I.tuple h
  obtain ⟨its', r', ⟨o', e', _, n', d'⟩, _⟩ := I.tuple h'
  rw [e] at e'; cases e'
  rw [d] at d'
  injection d' with d1 _
  have : its = its' := by simpa using congrArg Array.toList d1
  subst this
  exact r.inj r'
end
abbrev Cx.wish (X : Cx) (E : Value → Shared → Prop) : Cx := { X with xe := E }
abbrev Cx.nox (X : Cx) : Cx := X.wish fun _ _ => False
theorem Cx.Ok.wish {X : Cx} (ok : X.Ok) (E : Value → Shared → Prop) : (X.wish E).Ok :=
  ⟨ok.mod, ok.kind, ok.glob, ok.blt, ok.above, ok.inj, ok.has, ok.cab, ok.hd, ok.frames, ok.stk, ok.exf, ok.bs, ok.bsz, ok.noex, ok.exfs, ok.funs, ok.frf⟩
theorem Cx.Ok.unwish {X : Cx} {E : Value → Shared → Prop} (ok : (X.wish E).Ok) : X.Ok :=
  ⟨ok.mod, ok.kind, ok.glob, ok.blt, ok.above, ok.inj, ok.has, ok.cab, ok.hd, ok.frames, ok.stk, ok.exf, ok.bs, ok.bsz, ok.noex, ok.exfs, ok.funs, ok.frf⟩
section
variable {X : Cx} {pins : List (Addr × Obj)} {σ : St} {H : Hp} {s : Shared} {E : Value → Shared → Prop}
theorem Inv.wish (I : Inv X pins σ H s) (E : Value → Shared → Prop) : Inv (X.wish E) pins σ H s := ⟨I.ok.wish E, I.os, I.bare, I.base, I.loc, I.cell, I.free, I.freeC, I.pin, I.hok, I.len⟩
theorem Inv.unwish (I : Inv (X.wish E) pins σ H s) : Inv X pins σ H s := ⟨I.ok.unwish, I.os, I.bare, I.base, I.loc, I.cell, I.free, I.freeC, I.pin, I.hok, I.len⟩
theorem SP.unwish {D : Ends} {f : Flow} {s' : Shared} (h : SP (X.wish E) pins D f s') : SP X pins D f s' := by
  cases f with
  | next => obtain ⟨σ', H', I, q⟩ := h; exact ⟨σ', H', I.unwish, q⟩
  | brk => obtain ⟨σ', H', I, q⟩ := h; exact ⟨σ', H', I.unwish, q⟩
  | cont => obtain ⟨σ', H', I, q⟩ := h; exact ⟨σ', H', I.unwish, q⟩
  | ret u => obtain ⟨v, σ', H', I, r, q⟩ := h; exact ⟨v, σ', H', I.unwish, r, q⟩
theorem PE.nox {e : Expr} {t : TE} (h : PE X.nox e t) : PE X e t := fun pins s σ H Q I hw =>
  wpAny_mono (h pins s σ H Q (I.wish _) hw) (fun _ _ ⟨v, H', I', r, q⟩ => ⟨v, H', I'.unwish, r, q⟩) fun _ _ z => False.elim z
theorem PT.nox {e : Expr} {t : TT} (h : PT X.nox e t) : PT X e t := fun pins s σ H Q I hw =>
  wpAny_mono (h pins s σ H Q (I.wish _) hw) (fun _ _ ⟨H', I', q⟩ => ⟨H', I'.unwish, q⟩) fun _ _ z => False.elim z
theorem PSs.nox {st : List Stmt} {t : TS} (h : PSs X.nox st t) : PSs X st t := fun pins s σ H D I hw =>
  wpAny_mono (h pins s σ H D (I.wish _) hw) (fun _ _ q => q.unwish) fun _ _ z => False.elim z
end
section
variable {X : Cx} {st : Stmt} {rest : List Stmt} {t u : TS} {e : Expr} {te : TE} {pos : Pos}
def tNext : TS := fun D σ H => D.nx σ H
def tSeq (t u : TS) : TS := fun D σ H => t { D with nx := u D } σ H
theorem pss_nil : PSs X [] tNext := fun _ _ σ H _ I h => wpAny_execs_nil ⟨σ, H, I, h⟩
theorem pss_cons (h1 : PS X st t) (h2 : PSs X rest u) : PSs X (st :: rest) (tSeq t u) := by
  intro pins s σ H D I h
  refine wpAny_execs_cons (thn (h1 pins s σ H { D with nx := u D } I h) fun f s1 q => ?_)
  cases f with
  | next =>
    obtain ⟨σ', H', I', q⟩ := q
    exact h2 pins s1 σ' H' D I' q
  | ret v => exact q
  | brk => exact q
  | cont => exact q
theorem pss_one (h1 : PS X st t) : PSs X [st] t := by
  intro pins s σ H D I h
  refine wpAny_execs_cons (thn (h1 pins s σ H D I h) fun f s1 q => ?_)
  cases f with
  | next => exact wpAny_execs_nil q
  | ret v => exact q
  | brk => exact q
  | cont => exact q
theorem Inv.quiet {pins : List (Addr × Obj)} {σ : St} {H : Hp} {s : Shared} (I : Inv X pins σ H s) : interactive X.env = false := by simp [interactive, I.ok.kind]
def tDrop (te : TE) : TS := fun D σ H => te σ H fun _ H1 => D.nx σ H1
theorem ps_expr (he : PE X e te) (hs : swapsWith e none pos.line X.env = pure false := by rfl) : PS X (.Expr e pos) (tDrop te) := by
  intro pins s σ H D I h
  exact wpAny_Expr_any (thn (he pins s σ H _ I h) fun v s1 ⟨x, H1, I1, r1, q1⟩ => ⟨σ, H1, I1, q1⟩) I.quiet hs
def tRet (te : TE) : TS := fun D σ H => te σ H D.rt
theorem ps_ret (he : PE X e te) : PS X (.Return (some e) pos) (tRet te) := by
  intro pins s σ H D I h
  exact wpAny_Return_some (thn (he pins s σ H _ I h) fun v s1 ⟨x, H1, I1, r1, q1⟩ => ⟨x, σ, H1, I1, r1, q1⟩)
def tIfS (c : TT) (t u : TS) : TS := fun D σ H => c σ H fun b H1 => if b = true then t D σ H1 else u D σ H1
theorem ps_if {c : Expr} {a b : List Stmt} {tc : TT} (hc : PT X c tc) (ha : PSs X a t) (hb : PSs X b u) : PS X (.If c a b pos) (tIfS tc t u) := by
  intro pins s σ H D I h
  refine wpAny_If (thn (hc pins s σ H _ I h) fun d s1 ⟨H1, I1, q1⟩ => ?_)
  cases d with
  | true => exact ha pins s1 σ H1 D I1 q1
  | false => exact hb pins s1 σ H1 D I1 q1
end
abbrev TG := V → St → Hp → (St → Hp → Prop) → Prop
abbrev TGs := List V → St → Hp → (St → Hp → Prop) → Prop
def PG (X : Cx) (target : Expr) (t : TG) : Prop :=
  ∀ (pins : List (Addr × Obj)) (s : Shared) (σ : St) (H : Hp) (v : V) (u : Value) (Q : St → Hp → Prop), Inv X pins σ H s → RelV v u → t v σ H Q →
    wpAny (model X.prog X.w) X.A (assign target X.env u) (fun _ s' => ∃ σ' H', Inv X pins σ' H' s' ∧ Q σ' H') X.xe s
def PGs (X : Cx) (ts : List Expr) (t : TGs) : Prop :=
  ∀ (pins : List (Addr × Obj)) (s : Shared) (σ : St) (H : Hp) (vs : List V) (us : List Value) (Q : St → Hp → Prop), Inv X pins σ H s → Vals vs us → t vs σ H Q →
    wpAny (model X.prog X.w) X.A (assignInOrder ((assignEach ts X.env).map (·.2)) us) (fun _ s' => ∃ σ' H', Inv X pins σ' H' s' ∧ Q σ' H') X.xe s
abbrev TSet := V → V → V → Hp → (Hp → Prop) → Prop
def PSet (X : Cx) (t : TSet) : Prop :=
  ∀ (pins : List (Addr × Obj)) (s : Shared) (σ : St) (H : Hp) (o i v : V) (ov iv u : Value) (Q : Hp → Prop), Inv X pins σ H s → RelV o ov → RelV i iv → RelV v u → t o i v H Q →
    wpAny (model X.prog X.w) X.A (setItem ov iv u) (fun _ s' => ∃ H', Inv X pins σ H' s' ∧ Q H') X.xe s
section
variable {X : Cx} {pos : Pos}
def gName (i : Nat) : TG := fun v σ H Q => Q (σ.set i (some v)) H
theorem pg_name {i : Nat} {x : Str} (hN : X.N.Nodup) (hi : X.N[i]? = some x) (hx : Loc X.env.scope x) (hf : X.fn x = true ∨ X.env.scope.names.lookup x = some .local := by first | exact .inl rfl | exact .inr rfl | assumption) : PG X (.Name x pos) (gName i) := by
  intro pins s σ H v u Q I r h
  exact wpAny_assign_Name (store_ok I hN hi hx r (fun s' I' => ⟨_, H, I', h⟩) hf)
def gNil : TGs := fun vs σ H Q => vs = [] ∧ Q σ H
def gCons (t : TG) (u : TGs) : TGs := fun vs σ H Q => ∃ v r, vs = v :: r ∧ t v σ H fun σ' H' => u r σ' H' Q
theorem pgs_nil : PGs X [] gNil := by
  intro pins s σ H vs us Q I r h
  obtain ⟨e, h⟩ := h
  subst e
  cases r
  exact assignInOrder_nil ⟨σ, H, I, h⟩
theorem pgs_cons {e : Expr} {es : List Expr} {t : TG} {u : TGs} (h1 : PG X e t) (h2 : PGs X es u)
    (hs : (assignEach (e :: es) X.env).map (·.2) = assign e X.env :: (assignEach es X.env).map (·.2) := by rfl) : PGs X (e :: es) (gCons t u) := by
  intro pins s σ H vs us Q I r h
  obtain ⟨v, vr, e1, h⟩ := h
  subst e1
  cases r with
  | cons r rr =>
    rw [hs]
    refine assignInOrder_cons (thn (h1 pins s σ H _ _ _ I r h) fun _ s1 ⟨σ1, H1, I1, q1⟩ => ?_)
    exact h2 pins s1 σ1 H1 _ _ Q I1 rr q1
def gTup (K : PySem.W.Frag) (n : Nat) (t : TGs) : TG := fun v σ H Q => ∃ a xs, v = .ref a ∧ SqT K H a xs ∧ xs.length = n ∧ t xs σ H Q
theorem pg_tup {es : List Expr} {k : Nat} {t : TGs} {n : Nat} (hc : X.calm = true) (h : PGs X es t)
    (hn : (assignEach es X.env).length = n := by rfl) (hst : (assignEach es X.env).findIdx? (·.1) = none := by rfl) : PG X (.Tuple es k pos) (gTup X.K n t) := by
  intro pins s σ H v u Q I r hw
  obtain ⟨a, xs, e1, hq, hl, hw⟩ := hw
  subst e1
  cases r
  obtain ⟨its, rv, ht, hz⟩ := I.tuple hq
  refine assign_Tuple_tuple (I.ok.hd hc) ht (by simp [hn, ← hl, rv.length]) hst fun h' hx => ?_
  have I1 : Inv X pins σ H { s with heap := h' } := I.kept (t' := s.toks) fun b o e => hx b o (Nat.ne_of_lt (Heap.lt_size e)) e
  exact h pins _ σ H xs _ Q I1 (by simpa using rv) hw
def gSub (to ti : TE) (t : TSet) : TG := fun v σ H Q => to σ H fun o H1 => ti σ H1 fun i H2 => t o i v H2 fun H3 => Q σ H3
theorem pg_sub {o i : Expr} {to ti : TE} {t : TSet} (ho : PE X o to) (hi : PE X i ti) (hs : PSet X t)
    (ha : ∀ v, assign (.Subscript o i pos) X.env v = (do
      let ov ← holding [v] (eval o X.env)
      let iv ← holding [v, ov] (eval i X.env)
      standAt pos
      holding [v, ov, iv] (setItem ov iv v)
      release [v, ov, iv] []) := by intro _; rfl) : PG X (.Subscript o i pos) (gSub to ti t) := by
  intro pins s σ H v u Q I r h
  rw [ha]
  refine wpAny_bind (wpAny_holding (thn (ho pins s σ H _ I h) fun ov s1 ⟨x, H1, I1, r1, q1⟩ => ?_))
  refine wpAny_bind (wpAny_holding (thn (hi pins s1 σ H1 _ I1 q1) fun iv s2 ⟨y, H2, I2, r2, q2⟩ => ?_))
  refine wpAny_bind (wpAny_standAt (wpAny_bind (wpAny_holding (thn (hs pins s2 σ H2 x y v ov iv u _ I2 r1 r2 r q2) fun _ s3 ⟨H3, I3, q3⟩ => ?_))))
  exact wpAny_release ⟨σ, H3, I3, q3⟩
def tAsg (te : TE) (g : TG) : TS := fun D σ H => te σ H fun x H1 => g x σ H1 D.nx
theorem ps_asg {tg e : Expr} {te : TE} {g : TG} (he : PE X e te) (hg : PG X tg g) (hs : swapsWithSole [tg] e pos.line X.env = pure false := by rfl) (hw : swappedStores [tg] e X.env = pure none := by rfl)
    (h1 : (assignEach [tg] X.env).map (·.2) = [assign tg X.env] := by rfl) : PS X (.Assign [tg] e pos) (tAsg te g) := by
  intro pins s σ H D I h
  refine wpAny_Assign_stores (thn (he pins s σ H _ I h) fun v s1 ⟨x, H1, I1, r1, q1⟩ => ?_) hs hw
  rw [h1]
  exact thn (hg pins s1 σ H1 x v _ I1 r1 q1) fun _ s2 q => q
theorem ps_set {i : Nat} {x : Str} {e : Expr} {te : TE} {pos' : Pos} (hN : X.N.Nodup) (hi : X.N[i]? = some x) (hx : Loc X.env.scope x) (he : PE X e te) (hs : swapsWith e (some (.Name x pos')) pos.line X.env = pure false := by rfl) (hf : X.fn x = true ∨ X.env.scope.names.lookup x = some .local := by first | exact .inl rfl | exact .inr rfl | assumption) :
    PS X (.Assign [.Name x pos'] e pos) (tAsg te (gName i)) := by
  intro pins s σ H D I h
  refine wpAny_Assign_Name (thn (he pins s σ H _ I h) fun v s1 ⟨y, H1, I1, r1, q1⟩ => ?_) hs
  exact store_ok I1 hN hi hx r1 (fun s2 I2 => ⟨_, H1, I2, q1⟩) hf
end
structure It where
  go : Nat → Hp → Prop
  yld : Nat → Hp → V → Hp → Prop
  stop : Nat → Hp → Prop
def FpOk (X : Cx) (pins : List (Addr × Obj)) (H : Hp) (b : Addr) : Prop :=
  H b = none ∧ b ≠ X.env.locals ∧ b ∉ X.fs ∧ (b ∈ X.ex ∨ X.s₀.heap.objs.size ≤ b) ∧ (∀ x c, X.env.cells.lookup x = some c → c ≠ b) ∧ ∀ p ∈ X.pn ++ pins, p.1 ≠ b
theorem Inv.fpOk {X : Cx} {pins : List (Addr × Obj)} {σ : St} {H H' : Hp} {s : Shared} {b : Addr} (I : Inv X pins σ H s) (hb : s.heap.objs.size ≤ b) (hn : H' b = none) : FpOk X pins H' b := by
  refine ⟨hn, Nat.ne_of_gt (Nat.lt_of_lt_of_le I.lt hb), I.nofs hb, .inr (Nat.le_trans I.sz hb), fun x c e z => ?_, fun p hp z => ?_⟩
  · obtain ⟨v, q⟩ := I.cell x c e
    exact absurd (Nat.lt_of_lt_of_le q.lt (by rw [z]; exact hb)) (Nat.lt_irrefl _)
  · exact absurd (Nat.lt_of_lt_of_le (Heap.lt_size (I.pin p hp).1) (by rw [z]; exact hb)) (Nat.lt_irrefl _)
structure Turn (P : Program) (w : World) (K : PySem.W.Frag) (tg : Expr) (J : It) (fp : List Addr) (it : Addr) (tn : Nat → Heap → Prop) : Prop where
  mem : it ∈ fp
  obj : ∀ i h, tn i h → ∀ b ∈ fp, ∃ o, h.get? b = some o ∧ ∀ v, o.data ≠ .cell v
  keep : ∀ i h h', tn i h → (∀ b ∈ fp, ∀ o, h.get? b = some o → h'.get? b = some o) → tn i h'
  item : ∀ (X : Cx), X.prog = P → X.w = w → X.K = K → X.calm = true → ∀ (i : Nat) (pins : List (Addr × Obj)) (s : Shared) (σ : St) (H : Hp) (E : Value → Shared → Prop), Inv X pins σ H s → (∀ b ∈ fp, FpOk X pins H b) → tn i s.heap → J.go i H →
    wpAny (model P w) X.A (pyNext (.ref it)) (fun r s1 => ∃ u, r = some u ∧
      wpAny (model P w) X.A (letOwnedTupleGo tg (.ref it) u) (fun _ s2 => ∃ x H', Inv X pins σ H' s2 ∧ RelV x u ∧ J.yld i H x H' ∧ tn (i + 1) s2.heap ∧ ∀ b ∈ fp, H' b = none) E s1) E s
  done : ∀ (X : Cx), X.prog = P → X.w = w → X.K = K → X.calm = true → ∀ (i : Nat) (pins : List (Addr × Obj)) (s : Shared) (σ : St) (H : Hp) (E : Value → Shared → Prop), Inv X pins σ H s → (∀ b ∈ fp, FpOk X pins H b) → tn i s.heap → J.stop i H →
    wpAny (model P w) X.A (pyNext (.ref it)) (fun r s1 => r = none ∧ Inv X pins σ H s1) E s
  self : ∀ (A : Around) (i : Nat) (s : Shared) (Q : Value → Shared → Prop) (E : Value → Shared → Prop), tn i s.heap → Q (.ref it) s → wpAny (model P w) A (pyIter (.ref it)) Q E s
abbrev TI := St → Hp → (It → Hp → Prop) → Prop
def PIE (X : Cx) (pins : List (Addr × Obj)) (σ : St) (tg : Expr) (R : It → Hp → Prop) (itv : Value) (s2 : Shared) : Prop :=
  ∃ (it : Addr) (fp : List Addr) (tn : Nat → Heap → Prop) (J : It) (H' : Hp), itv = .ref it ∧ Inv X pins σ H' s2 ∧ Turn X.prog X.w X.K tg J fp it tn ∧ tn 0 s2.heap ∧ (∀ b ∈ fp, FpOk X pins H' b) ∧ R J H'
def PI (X : Cx) (tg iter : Expr) (wi : TI) : Prop :=
  ∀ (pins : List (Addr × Obj)) (s : Shared) (σ : St) (H : Hp) (R : It → Hp → Prop), Inv X pins σ H s → wi σ H R →
    wpAny (model X.prog X.w) X.A (eval iter X.env) (fun v s1 => wpAny (model X.prog X.w) X.A (pyIter v) (PIE X pins σ tg R) X.xe s1) X.xe s
theorem go_of {M : Model} {A : Around} {E : Value → Shared → Prop} {s : Shared} {tg : Expr} {it : Addr} {u : Value} {o : Obj} {n : String} {vs : Array Value} {Q : Unit → Shared → Prop} (ho : s.heap.get? it = some o) (hc : o.cls = .type n) (hd : o.data = .fields vs)
    (hn : ["enumerate", "zip", "dict_itemiterator", "dict_reverseitemiterator", "odict_iterator", "itertools.zip_longest", "itertools.pairwise"].contains n = false) (hQ : Q () s) : wpAny M A (letOwnedTupleGo tg (.ref it) u) Q E s := by
  unfold letOwnedTupleGo
  cases tg <;> first
    | exact wpAny_pure hQ
    | (cases u <;> first
        | exact wpAny_pure hQ
        | (refine wpAny_bind (wpAny_load ho ?_)
           rw [hc, hd]
           show wpAny M A (if (["enumerate", "zip", "dict_itemiterator", "dict_reverseitemiterator", "odict_iterator", "itertools.zip_longest", "itertools.pairwise"].contains n && vs[0]? == some (rawInt _)) = true then _ else _) Q E s
           rw [if_neg (by intro h; rw [hn, Bool.false_and] at h; cases h)]
           exact wpAny_pure hQ))
def Itl (K : PySem.W.Frag) (a : Addr) : It :=
  ⟨fun i H => ∃ xs x, SqL K H a xs ∧ xs[i]? = some x, fun i H x H' => H' = H ∧ ∀ xs, SqL K H a xs → xs[i]? = some x, fun i H => ∃ xs, SqL K H a xs ∧ xs.length ≤ i⟩
def Itt (K : PySem.W.Frag) (a : Addr) : It :=
  ⟨fun i H => ∃ xs x, SqT K H a xs ∧ xs[i]? = some x, fun i H x H' => H' = H ∧ ∀ xs, SqT K H a xs → xs[i]? = some x, fun i H => ∃ xs, SqT K H a xs ∧ xs.length ≤ i⟩
def Itr (lo : Int) (n : Nat) : It := ⟨fun i _ => i < n, fun i H x H' => H' = H ∧ x = .int (lo + i), fun i _ => n ≤ i⟩
theorem turn_list {P : Program} {w : World} {K : PySem.W.Frag} {tg : Expr} (a it : Addr) : Turn P w K tg (Itl K a) [it] it (fun i h => h.IsListIter it a i) where
  mem := by simp
  obj := fun i h st b hb => by
    have e : b = it := by simpa using hb
    subst e
    obtain ⟨o, e, c, d⟩ := st
    exact ⟨o, e, fun v z => by rw [d] at z; cases z⟩
  keep := fun i h h' st k => st.at fun o e => k it (by simp) o e
  item := by
    intro X hP hw hK hc i pins s σ H E I hf st hg
    subst hP hw hK
    obtain ⟨xs, x, hq, hx⟩ := hg
    obtain ⟨its, rv, p, hz⟩ := I.list hq
    obtain ⟨u, hu, ru⟩ := rv.get hx
    obtain ⟨f0, f1, f2, f3, f4, f5⟩ := hf it (by simp)
    refine wpAny_pyNext_list_item st p.isList (x := u) (by simpa using hu) fun h' st' sb => ?_
    have I1 : Inv X pins σ H { s with heap := h' } := I.turned (t' := s.toks) (fun b o hb e => (sb.2 b hb).trans e) f0 f1 f3 f4 f5
    obtain ⟨o, e, c, d⟩ := id st'
    exact ⟨u, rfl, go_of (s := { s with heap := h' }) e c d (by decide) ⟨x, H, I1, ru, ⟨rfl, fun ys hy => by rw [I.list_inj hy hq]; exact hx⟩, st', fun b hb => (hf b hb).1⟩⟩
  done := by
    intro X hP hw hK hc i pins s σ H E I hf st hg
    subst hP hw hK
    obtain ⟨xs, hq, hx⟩ := hg
    obtain ⟨its, rv, p, hz⟩ := I.list hq
    obtain ⟨f0, f1, f2, f3, f4, f5⟩ := hf it (by simp)
    have hl := rv.length
    exact wpAny_pyNext_list_end (I.ok.hd hc) st p.isList (by simp; omega) fun h' eb => ⟨rfl, I.turned (t' := s.toks) (fun b o hb e => eb b o hb e) f0 f1 f3 f4 f5⟩
  self := fun _ _ _ _ _ st h => wpAny_pyIter_listiter st h
theorem turn_tuple {P : Program} {w : World} {K : PySem.W.Frag} {tg : Expr} (a it : Addr) : Turn P w K tg (Itt K a) [it] it (fun i h => h.IsTupleIter it a i) where
  mem := by simp
  obj := fun i h st b hb => by
    have e : b = it := by simpa using hb
    subst e
    obtain ⟨o, e, c, d⟩ := st
    exact ⟨o, e, fun v z => by rw [d] at z; cases z⟩
  keep := fun i h h' st k => st.at fun o e => k it (by simp) o e
  item := by
    intro X hP hw hK hc i pins s σ H E I hf st hg
    subst hP hw hK
    obtain ⟨xs, x, hq, hx⟩ := hg
    obtain ⟨its, rv, p, hz⟩ := I.tuple hq
    obtain ⟨u, hu, ru⟩ := rv.get hx
    obtain ⟨f0, f1, f2, f3, f4, f5⟩ := hf it (by simp)
    refine wpAny_pyNext_tuple_item st (show s.heap.IsTuple a its.toArray from p) (x := u) (by simpa using hu) fun h' st' sb => ?_
    have I1 : Inv X pins σ H { s with heap := h' } := I.turned (t' := s.toks) (fun b o hb e => (sb.2 b hb).trans e) f0 f1 f3 f4 f5
    obtain ⟨o, e, c, d⟩ := id st'
    exact ⟨u, rfl, go_of (s := { s with heap := h' }) e c d (by decide) ⟨x, H, I1, ru, ⟨rfl, fun ys hy => by rw [I.tuple_inj hy hq]; exact hx⟩, st', fun b hb => (hf b hb).1⟩⟩
  done := by
    intro X hP hw hK hc i pins s σ H E I hf st hg
    subst hP hw hK
    obtain ⟨xs, hq, hx⟩ := hg
    obtain ⟨its, rv, p, hz⟩ := I.tuple hq
    obtain ⟨f0, f1, f2, f3, f4, f5⟩ := hf it (by simp)
    have hl := rv.length
    exact wpAny_pyNext_tuple_end (I.ok.hd hc) st (show s.heap.IsTuple a its.toArray from p) (by simp; omega) fun h' eb => ⟨rfl, I.turned (t' := s.toks) (fun b o hb e => eb b o hb e) f0 f1 f3 f4 f5⟩
  self := fun _ _ _ _ _ st h => wpAny_pyIter_tupleiter st h
theorem turn_range {P : Program} {w : World} {K : PySem.W.Frag} {tg : Expr} (it : Addr) (lo : Int) (n : Nat) : Turn P w K tg (Itr lo n) [it] it (fun i h => IsRangeIter h it (lo + (i : Nat) * 1) ((n : Int) - (i : Nat)) 1) where
  mem := by simp
  obj := fun i h st b hb => by
    have e : b = it := by simpa using hb
    subst e
    exact ⟨_, st, fun v z => by
      have z' : Data.fields _ = Data.cell v := z
      cases z'⟩
  keep := fun i h h' st k => k it (by simp) _ st
  item := by
    intro X hP hw hK hc i pins s σ H E I hf st hg
    subst hP hw hK
    obtain ⟨f0, f1, f2, f3, f4, f5⟩ := hf it (by simp)
    have W := Walks.range (prog := X.prog) (w := X.w) (I.ok.hd hc) it lo 1 n
    refine W.item i s _ _ hg st fun v h' tk hv st' kk => ?_
    obtain ⟨t, rfl⟩ := hv
    have I1 : Inv X pins σ H { s with heap := h', toks := tk } := I.turned (fun b o hb e => kk b o (by simpa using hb) e) f0 f1 f3 f4 f5
    refine ⟨_, rfl, go_of (s := { s with heap := h', toks := tk }) (n := "range_iterator") st' rfl rfl (by decide) ⟨.int (lo + i), H, I1, ⟨t, ?_⟩, ⟨rfl, rfl⟩, st', fun b hb => (hf b hb).1⟩⟩
    rw [Int.mul_one]
  done := by
    intro X hP hw hK hc i pins s σ H E I hf st hg
    subst hP hw hK
    obtain ⟨f0, f1, f2, f3, f4, f5⟩ := hf it (by simp)
    exact wpAny_pyNext_range_end (I.ok.hd hc) st (by have : n ≤ i := hg; omega) fun h' eb => ⟨rfl, I.turned (t' := s.toks) (fun b o hb e => eb b o hb e) f0 f1 f3 f4 f5⟩
  self := fun _ _ _ _ _ st h => wpAny_pyIter_rangeiter st h
end L2
namespace L2
open PySem PySem.Spec PyProof.Rows
section
variable {X : Cx} {tg : Expr}
def iList (K : PySem.W.Frag) (tl : TE) : TI := fun σ H R => tl σ H fun x H1 => ∃ a, x = .ref a ∧ (∃ xs, SqL K H1 a xs) ∧ R (Itl K a) H1
def iTup (K : PySem.W.Frag) (tl : TE) : TI := fun σ H R => tl σ H fun x H1 => ∃ a, x = .ref a ∧ (∃ xs, SqT K H1 a xs) ∧ R (Itt K a) H1
theorem pi_list {l : Expr} {tl : TE} (hl : PE X l tl) : PI X tg l (iList X.K tl) := by
  intro pins s σ H R I h
  refine thn (hl pins s σ H _ I h) fun v s1 ⟨x, H1, I1, r1, q1⟩ => ?_
  obtain ⟨a, e, ⟨xs, hq⟩, q⟩ := q1
  subst e
  cases r1
  obtain ⟨its, rv, p, hz⟩ := I1.list hq
  refine wpAny_pyIter_list p.isList ?_
  refine ⟨s1.heap.objs.size, [s1.heap.objs.size], _, _, H1, rfl, I1.kept (t' := s1.toks) fun b o e => Heap.get?_push_of_some _ e, turn_list a _, ⟨_, Heap.get?_push_size _ rfl, rfl, rfl⟩, fun b hb => ?_, q⟩
  have e : b = s1.heap.objs.size := by simpa using hb
  subst e
  exact I1.fpOk (Nat.le_refl _) (I1.hok.fresh (Nat.le_refl _))
theorem pi_tup {l : Expr} {tl : TE} (hl : PE X l tl) : PI X tg l (iTup X.K tl) := by
  intro pins s σ H R I h
  refine thn (hl pins s σ H _ I h) fun v s1 ⟨x, H1, I1, r1, q1⟩ => ?_
  obtain ⟨a, e, ⟨xs, hq⟩, q⟩ := q1
  subst e
  cases r1
  obtain ⟨its, rv, p, hz⟩ := I1.tuple hq
  refine wpAny_pyIter_tuple (show s1.heap.IsTuple a its.toArray from p) ?_
  refine ⟨s1.heap.objs.size, [s1.heap.objs.size], _, _, H1, rfl, I1.kept (t' := s1.toks) fun b o e => Heap.get?_push_of_some _ e, turn_tuple a _, ⟨_, Heap.get?_push_size _ rfl, rfl, rfl⟩, fun b hb => ?_, q⟩
  have e : b = s1.heap.objs.size := by simpa using hb
  subst e
  exact I1.fpOk (Nat.le_refl _) (I1.hok.fresh (Nat.le_refl _))
theorem range_it {pins : List (Addr × Obj)} {σ : St} {H : Hp} {s : Shared} {R : It → Hp → Prop} {E : Value → Shared → Prop} {lo hi : Int} {t u v : Tok} {tk : Nat} (I : Inv X pins σ H s) (h1 : -(2 ^ 62) ≤ lo) (h2 : lo < 2 ^ 62) (h3 : -(2 ^ 62) ≤ hi) (h4 : hi < 2 ^ 62)
    (q : R (Itr lo (hi - lo).toNat) H) : wpAny (model X.prog X.w) X.A (pyIter (.ref s.heap.objs.size)) (PIE X pins σ tg R) E { s with heap := s.heap.push { cls := .type "range", data := .fields #[.int lo t, .int hi u, .int 1 v] }, toks := tk } := by
  refine wpAny_pyIter_range (IsRange.new ..) (small_one h1 h2 h3 h4) ?_
  have I1 : Inv X pins σ H { s with heap := s.heap.push { cls := .type "range", data := .fields #[.int lo t, .int hi u, .int 1 v] }, toks := tk } := I.kept fun b o e => Heap.get?_push_of_some _ e
  refine ⟨(s.heap.push { cls := .type "range", data := .fields #[.int lo t, .int hi u, .int 1 v] }).objs.size, [(s.heap.push { cls := .type "range", data := .fields #[.int lo t, .int hi u, .int 1 v] }).objs.size], _, _, H, rfl,
    I1.kept (t' := tk) fun b o e => Heap.get?_push_of_some _ e, turn_range _ lo (hi - lo).toNat, ?_, fun b hb => ?_, q⟩
  · have e1 : lo + ((0 : Nat) : Int) * 1 = lo := by simp
    have e2 : (((hi - lo).toNat : Nat) : Int) - ((0 : Nat) : Int) = Builtin.Range.rangeSize lo hi 1 := by rw [rangeSize_one]; split <;> omega
    show IsRangeIter _ _ (lo + ((0 : Nat) : Int) * 1) ((((hi - lo).toNat : Nat) : Int) - ((0 : Nat) : Int)) 1
    rw [e1, e2]
    exact Heap.get?_push_size _ rfl
  · have e : b = (s.heap.push { cls := .type "range", data := .fields #[.int lo t, .int hi u, .int 1 v] }).objs.size := by simpa using hb
    subst e
    exact I1.fpOk (Nat.le_refl _) (I1.hok.fresh (Nat.le_refl _))
def iRng1 (ta : TA) : TI := fun σ H R => ta σ H fun vs H1 => ∃ j : Int, vs = [.int j] ∧ -(2 ^ 62) ≤ j ∧ j < 2 ^ 62 ∧ R (Itr 0 j.toNat) H1
def iRng2 (ta : TA) : TI := fun σ H R => ta σ H fun vs H1 => ∃ i j : Int, vs = [.int i, .int j] ∧ (-(2 ^ 62) ≤ i ∧ i < 2 ^ 62 ∧ -(2 ^ 62) ≤ j ∧ j < 2 ^ 62) ∧ R (Itr i (j - i).toNat) H1
theorem pi_range1 {a : Expr} {ta : TA} {p pos : Pos} (hg : Gl X "range") (hm : X.mg "range" = none) (ha : PA X [a] ta) (hs : starEach [a] X.env = [(false, eval a X.env)] := by rfl) : PI X tg (.Call (.Name "range" p) [a] [] pos) (iRng1 ta) := by
  intro pins s σ H R I h
  refine Call_ (ld_blt I hg hm boot_range (PyProof.Rows.callWith_type1 (thn (ha pos pins s σ H _ I h) fun us s1 ⟨vs, H1, I1, r1, q1⟩ => ?_) hs rfl))
  obtain ⟨j, e, q1, q2, q⟩ := q1
  subst e
  cases r1 with
  | cons r rr =>
    cases rr
    obtain ⟨t, rfl⟩ := r
    exact call_range_1 (range_it I1 (by omega) (by omega) q1 q2 (by simpa using q))
theorem pi_range2 {a b : Expr} {ta : TA} {p pos : Pos} (hg : Gl X "range") (hm : X.mg "range" = none) (ha : PA X [a, b] ta) (hs : starEach [a, b] X.env = [(false, eval a X.env), (false, eval b X.env)] := by rfl) (hs2 : starEach [b] X.env = [(false, eval b X.env)] := by rfl) :
    PI X tg (.Call (.Name "range" p) [a, b] [] pos) (iRng2 ta) := by
  intro pins s σ H R I h
  refine Call_ (ld_blt I hg hm boot_range (PyProof.Rows.callWith_type1 (thn (ha pos pins s σ H _ I h) fun us s1 ⟨vs, H1, I1, r1, q1⟩ => ?_) (by rw [hs, hs2]) (by rw [hs2]; rfl)))
  obtain ⟨i, j, e, ⟨q1, q2, q3, q4⟩, q⟩ := q1
  subst e
  cases r1 with
  | cons r rr =>
    cases rr with
    | cons r' rr =>
      cases rr
      obtain ⟨t, rfl⟩ := r
      obtain ⟨t', rfl⟩ := r'
      exact call_range_2 (range_it I1 q1 q2 q3 q4 q)
def tFor (wi : TI) (g : TG) (tb : TS) : TS := fun D σ H => wi σ H fun J H1 => ∃ W : Nat → Nat → St → Hp → Prop, (∃ m, W 0 m σ H1) ∧ ∀ i m σ H, W i m σ H →
  (J.stop i H ∧ D.nx σ H) ∨ (J.go i H ∧ ∃ N : St → Hp → Prop, (∀ σ' H', N σ' H' → ∃ m', m' < m ∧ W (i + 1) m' σ' H') ∧ ∀ x H', J.yld i H x H' → g x σ H' fun σ2 H2 => tb { D with nx := N, ct := N, bk := D.nx } σ2 H2)
def pinsAt (fp : List Addr) (h : Heap) : List (Addr × Obj) := fp.filterMap fun b => (h.get? b).map fun o => (b, o)
theorem mem_pinsAt {fp : List Addr} {h : Heap} {b : Addr} {o : Obj} (hb : b ∈ fp) (e : h.get? b = some o) : (b, o) ∈ pinsAt fp h := List.mem_filterMap.mpr ⟨b, hb, by rw [e]; rfl⟩
theorem of_pinsAt {fp : List Addr} {h : Heap} {p : Addr × Obj} (hp : p ∈ pinsAt fp h) : p.1 ∈ fp ∧ h.get? p.1 = some p.2 := by
  obtain ⟨b, hb, e⟩ := List.mem_filterMap.mp hp
  cases q : h.get? b with
  | none => rw [q] at e; cases e
  | some o =>
    rw [q] at e
    have e' : (b, o) = p := Option.some.inj e
    subst e'
    exact ⟨hb, q⟩
theorem Inv.pinned {pins : List (Addr × Obj)} {σ : St} {H : Hp} {s : Shared} {fp : List Addr} (I : Inv X pins σ H s) (hf : ∀ b ∈ fp, FpOk X pins H b) (ho : ∀ b ∈ fp, ∃ o, s.heap.get? b = some o ∧ ∀ v, o.data ≠ .cell v) : Inv X (pins ++ pinsAt fp s.heap) σ H s :=
  I.pins_of fun p hp => (List.mem_append.mp hp).elim (fun z => I.pin p (List.mem_append_right _ z)) fun z => by
    obtain ⟨hb, e⟩ := of_pinsAt z
    obtain ⟨f0, f1, f2, _⟩ := hf p.1 hb
    obtain ⟨o, e', d⟩ := ho p.1 hb
    rw [e] at e'; cases e'
    exact ⟨e, f0, f1, f2, d⟩
theorem Inv.unpinned {pins pl : List (Addr × Obj)} {σ : St} {H : Hp} {s : Shared} (I : Inv X (pins ++ pl) σ H s) : Inv X pins σ H s := I.pins_of fun p hp => I.pin p (List.mem_append_right _ (List.mem_append_left _ hp))
theorem ps_for {iter : Expr} {body : List Stmt} {wi : TI} {g : TG} {tb : TS} {pos : Pos} (hp : PassesOwn (model X.prog X.w) X.A X.env X.xe) (hc : X.calm = true) (hi : PI X tg iter wi) (hg : PG X tg g) (hb : PSs X body tb)
    (hs : ∀ x, foldedSetIterable iter X.env x = pure x := by intro _; rfl) : PS X (.For tg iter body [] pos) (tFor wi g tb) := by
  intro pins s σ H D I h
  refine wpAny_For (thn (hi pins s σ H _ I h) fun v s1 h1 => thn h1 fun itv s2 h2 => ?_) hs
  obtain ⟨it, fp, tn, J, H2, e, I2, T, st2, f2, W, ⟨m0, w0⟩, turn⟩ := h2
  subst e
  -- what stays true of the iterator's objects through the loop
  have stat : ∀ {H' : Hp}, (∀ b ∈ fp, H' b = none) → ∀ b ∈ fp, FpOk X pins H' b := fun hn b hb => ⟨hn b hb, (f2 b hb).2⟩
  refine codeAny_forLoop_any (fun n s' => ∃ i σ' H', Inv X pins σ' H' s' ∧ tn i s'.heap ∧ (∀ b ∈ fp, H' b = none) ∧ W i n σ' H') ?_ m0 ⟨0, σ, H2, I2, st2, fun b hb => (f2 b hb).1, w0⟩
  rintro n s3 ⟨i, σ3, H3, I3, st3, fr3, w3⟩
  rcases turn i n σ3 H3 w3 with ⟨stop, qn⟩ | ⟨go, N, hN, step⟩
  · refine wpAny_passesOwn hp (thn (T.done X rfl rfl rfl hc i pins s3 σ3 H3 X.xe I3 (stat fr3) st3 stop) fun r s4 ⟨hr, I4⟩ => ?_)
    subst hr
    exact wpAny_execs_nil ⟨σ3, H3, I4, qn⟩
  · refine wpAny_passesOwn hp (thn (T.item X rfl rfl rfl hc i pins s3 σ3 H3 X.xe I3 (stat fr3) st3 go) fun r s4 ⟨u, hr, h4⟩ => ?_)
    subst hr
    refine wpAny_passesOwn hp (thn h4 fun _ s5 ⟨x, H5, I5, r5, y5, st5, fr5⟩ => ?_)
    have I5' := I5.pinned (stat fr5) (T.obj _ _ st5)
    refine wpAny_passesOwn hp (thn (hg _ s5 σ3 H5 x u _ I5' r5 (step x H5 y5)) fun _ s6 ⟨σ6, H6, I6, q6⟩ => ?_)
    refine wpAny_passesOwn hp (thn (hb _ s6 σ6 H6 _ I6 q6) fun f s7 q7 => ?_)
    have again : ∀ {σ7 : St} {H7 : Hp}, Inv X (pins ++ pinsAt fp s5.heap) σ7 H7 s7 → N σ7 H7 → ∃ m, m < n ∧ ∃ i σ' H', Inv X pins σ' H' s7 ∧ tn i s7.heap ∧ (∀ b ∈ fp, H' b = none) ∧ W i m σ' H' := fun {σ7 H7} I7 n7 => by
      obtain ⟨m', hm, w7⟩ := hN σ7 H7 n7
      refine ⟨m', hm, i + 1, σ7, H7, I7.unpinned, T.keep _ _ _ st5 fun b hb o e => (I7.pin (b, o) (List.mem_append_right _ (List.mem_append_right _ (mem_pinsAt hb e)))).1, fun b hb => ?_, w7⟩
      obtain ⟨o, e, d⟩ := T.obj _ _ st5 b hb
      exact (I7.pin (b, o) (List.mem_append_right _ (List.mem_append_right _ (mem_pinsAt hb e)))).2.1
    cases f with
    | next => obtain ⟨σ7, H7, I7, n7⟩ := q7; exact again I7 n7
    | cont => obtain ⟨σ7, H7, I7, n7⟩ := q7; exact again I7 n7
    | brk => obtain ⟨σ7, H7, I7, q7⟩ := q7; exact ⟨σ7, H7, I7.unpinned, q7⟩
    | ret v => obtain ⟨x7, σ7, H7, I7, r7, q7⟩ := q7; exact ⟨x7, σ7, H7, I7.unpinned, r7, q7⟩
end
end L2
namespace L2
open PySem PySem.Spec PyProof.Rows
abbrev R2 := V → V → Hp → VK → Prop
def OpR (X : Cx) (f : Value → Value → Sem Value) (r : R2) : Prop :=
  ∀ (pins : List (Addr × Obj)) (s : Shared) (σ : St) (H : Hp) (x y : V) (v u : Value) (Q : VK), Inv X pins σ H s → RelV x v → RelV y u → r x y H Q →
    wpAny (model X.prog X.w) X.A (f v u) (EP X pins σ Q) X.xe s
def UnR (X : Cx) (f : Value → Sem Value) (r : V → Hp → VK → Prop) : Prop :=
  ∀ (pins : List (Addr × Obj)) (s : Shared) (σ : St) (H : Hp) (x : V) (v : Value) (Q : VK), Inv X pins σ H s → RelV x v → r x H Q →
    wpAny (model X.prog X.w) X.A (f v) (EP X pins σ Q) X.xe s
def CallR (X : Cx) (f : Value) (r : List V → Hp → VK → Prop) : Prop :=
  ∀ (pins : List (Addr × Obj)) (s : Shared) (σ : St) (H : Hp) (xs : List V) (us : List Value) (Q : VK), Inv X pins σ H s → Vals xs us → r xs H Q →
    wpAny (model X.prog X.w) X.A (call f us) (EP X pins σ Q) X.xe s
def tOp (r : R2) (ta tb : TE) : TE := fun σ H Q => ta σ H fun x H1 => tb σ H1 fun y H2 => r x y H2 Q
def tUn (r : V → Hp → VK → Prop) (ta : TE) : TE := fun σ H Q => ta σ H fun x H1 => r x H1 Q
def rI (C : Int → Int → Prop) (g : Int → Int → V) : R2 := fun x y H Q => ∃ i j, x = .int i ∧ y = .int j ∧ C i j ∧ Q (g i j) H
def rI0 (g : Int → Int → V) : R2 := fun x y H Q => ∃ i j, x = .int i ∧ y = .int j ∧ Q (g i j) H
def rU (g : Int → V) : V → Hp → VK → Prop := fun x H Q => ∃ i, x = .int i ∧ Q (g i) H
section
variable {X : Cx} {a b c : Expr} {ta tb tc : TE} {pos : Pos}
theorem binT (ha : PE X a ta) (hb : PE X b tb) {pins : List (Addr × Obj)} {s : Shared} {σ : St} {H : Hp} {R : V → V → Hp → Prop} (I : Inv X pins σ H s)
    (h : ta σ H fun x H1 => tb σ H1 fun y H2 => R x y H2) {Q : Value → Shared → Prop} {f : Value → Value → Sem Value}
    (hf : ∀ v u s2 x y H2, Inv X pins σ H2 s2 → RelV x v → RelV y u → R x y H2 → wpAny (model X.prog X.w) X.A (f v u) Q X.xe s2) :
    wpAny (model X.prog X.w) X.A (eval a X.env) (fun v s₁ => wpAny (model X.prog X.w) X.A (eval b X.env) (fun u s₂ => wpAny (model X.prog X.w) X.A (f v u) Q X.xe s₂) X.xe s₁) X.xe s := by
  refine thn (ha pins s σ H _ I h) fun v s1 ⟨x, H1, I1, r1, q1⟩ => ?_
  refine thn (hb pins s1 σ H1 _ I1 q1) fun u s2 ⟨y, H2, I2, r2, q2⟩ => ?_
  exact hf v u s2 x y H2 I2 r1 r2 q2
theorem pe_op {op : Operator} {r : R2} (ho : OpR X (binaryOp op) r) (ha : PE X a ta) (hb : PE X b tb) : PE X (.BinOp a op b pos) (tOp r ta tb) := by
  intro pins s σ H Q I h
  exact wpAny_BinOp (binT ha hb I h fun v u s2 x y H2 I2 rx ry q => ho pins s2 σ H2 x y v u Q I2 rx ry q)
theorem pe_un {op : UnaryOp} {r : V → Hp → VK → Prop} (ho : UnR X (unaryOp op) r) (ha : PE X a ta) : PE X (.UnaryOp op a pos) (tUn r ta) := by
  intro pins s σ H Q I h
  exact UnaryOp_ (thn (ha pins s σ H _ I h) fun v s1 ⟨x, H1, I1, r1, q1⟩ => ho pins s1 σ H1 x v Q I1 r1 q1)
theorem opI {f : Value → Value → Sem Value} {C : Int → Int → Prop} {g : Int → Int → Int}
    (rule : ∀ (i j : Int) (t u : Tok) (s : Shared) (Q : Value → Shared → Prop) (E : Value → Shared → Prop), C i j → Q (.int (g i j) s.toks) { s with toks := s.toks + 1 } → wpAny (model X.prog X.w) X.A (f (.int i t) (.int j u)) Q E s) :
    OpR X f (rI C fun i j => .int (g i j)) := by
  intro pins s σ H x y v u Q I rx ry h
  obtain ⟨i, j, rfl, rfl, hc, q⟩ := h
  obtain ⟨t, rfl⟩ := rx
  obtain ⟨t', rfl⟩ := ry
  exact rule i j t t' s _ _ hc ⟨.int (g i j), H, I.tok _, ⟨_, rfl⟩, q⟩
theorem opI0 {f : Value → Value → Sem Value} {g : Int → Int → Int}
    (rule : ∀ (i j : Int) (t u : Tok) (s : Shared) (Q : Value → Shared → Prop) (E : Value → Shared → Prop), Q (.int (g i j) s.toks) { s with toks := s.toks + 1 } → wpAny (model X.prog X.w) X.A (f (.int i t) (.int j u)) Q E s) :
    OpR X f (rI0 fun i j => .int (g i j)) := by
  intro pins s σ H x y v u Q I rx ry h
  obtain ⟨i, j, rfl, rfl, q⟩ := h
  obtain ⟨t, rfl⟩ := rx
  obtain ⟨t', rfl⟩ := ry
  exact rule i j t t' s _ _ ⟨.int (g i j), H, I.tok _, ⟨_, rfl⟩, q⟩
theorem opB0 {f : Value → Value → Sem Value} {g : Int → Int → Bool}
    (rule : ∀ (i j : Int) (t u : Tok) (s : Shared) (Q : Value → Shared → Prop) (E : Value → Shared → Prop), Q (.bool (g i j)) s → wpAny (model X.prog X.w) X.A (f (.int i t) (.int j u)) Q E s) :
    OpR X f (rI0 fun i j => .bl (g i j)) := by
  intro pins s σ H x y v u Q I rx ry h
  obtain ⟨i, j, rfl, rfl, q⟩ := h
  obtain ⟨t, rfl⟩ := rx
  obtain ⟨t', rfl⟩ := ry
  exact rule i j t t' s _ _ ⟨.bl (g i j), H, I, rfl, q⟩
def CDiv (i j : Int) : Prop := 0 < j ∧ j < 1073741824
def CDivN (i j : Int) : Prop := j ≠ 0 ∧ j.natAbs < 1073741824
def CPow (i j : Int) : Prop := 0 ≤ j ∧ j ≤ 1000000 ∧ i.natAbs < 2 ^ 64
def CMul (i j : Int) : Prop := (-(2 ^ 64) < i ∧ i < 2 ^ 64) ∨ (-(2 ^ 64) < j ∧ j < 2 ^ 64)
theorem CMul.ok {i j : Int} (h : CMul i j) : IntMulOk i j := by
  rcases h with ⟨h1, h2⟩ | ⟨h1, h2⟩
  · exact .of_left (intBits_le_64 h1 h2)
  · exact .of_right (intBits_le_64 h1 h2)
theorem op_add : OpR X (binaryOp .Add) (rI0 fun i j => .int (i + j)) := opI0 fun _ _ _ _ _ _ _ q => add_int q
theorem op_sub : OpR X (binaryOp .Sub) (rI0 fun i j => .int (i - j)) := opI0 fun _ _ _ _ _ _ _ q => sub_int q
theorem op_mul : OpR X (binaryOp .Mult) (rI CMul fun i j => .int (i * j)) := opI fun _ _ _ _ _ _ _ hc q => mul_int q hc.ok
theorem op_fdiv : OpR X (binaryOp .FloorDiv) (rI CDiv fun i j => .int (i / j)) := opI fun i j _ _ _ _ _ hc q => by
  have h1 : (0 : Int) < j := hc.1
  have h2 : j < 1073741824 := hc.2
  exact floordiv_int (by omega) (by rw [Int.fdiv_eq_ediv_of_nonneg i (by omega)]; exact q) (.inl (PyProof.noPylong_small (by omega)))
theorem op_mod : OpR X (binaryOp .Mod) (rI (fun _ j => 0 < j) fun i j => .int (i % j)) := opI fun i j _ _ _ _ _ hc q => by
  have h1 : (0 : Int) < j := hc
  exact mod_int' (by omega) (by rw [Int.fmod_eq_emod_of_nonneg i (by omega)]; exact q)
theorem op_pow : OpR X (binaryOp .Pow) (rI CPow fun i j => .int (i ^ j.toNat)) := opI fun _ _ _ _ _ _ _ hc q => pow_int_small hc.1 hc.2.1 hc.2.2 q
theorem unI {f : Value → Sem Value} {g : Int → Int}
    (rule : ∀ (i : Int) (t : Tok) (s : Shared) (Q : Value → Shared → Prop) (E : Value → Shared → Prop), Q (.int (g i) s.toks) { s with toks := s.toks + 1 } → wpAny (model X.prog X.w) X.A (f (.int i t)) Q E s) :
    UnR X f (rU fun i => .int (g i)) := by
  intro pins s σ H x v Q I rx h
  obtain ⟨i, rfl, q⟩ := h
  obtain ⟨t, rfl⟩ := rx
  exact rule i t s _ _ ⟨.int (g i), H, I.tok _, ⟨_, rfl⟩, q⟩
theorem un_neg : UnR X (unaryOp .USub) (rU fun i => .int (-i)) := unI fun _ _ _ _ _ q => neg_int q
end
section
variable {X : Cx} {a b c : Expr} {ta tb tc : TE} {pos : Pos}
theorem op_lt : OpR X (compareOp .Lt) (rI0 fun i j => .bl (decide (i < j))) := opB0 fun _ _ _ _ _ _ _ q => lt_int q
theorem op_gt : OpR X (compareOp .Gt) (rI0 fun i j => .bl (decide (j < i))) := opB0 fun _ _ _ _ _ _ _ q => gt_int q
theorem OpR.or {f : Value → Value → Sem Value} {r r' : R2} (h : OpR X f r) (h' : OpR X f r') : OpR X f (fun x y H Q => r x y H Q ∨ r' x y H Q) := by
  intro pins s σ H x y v u Q I rx ry q
  rcases q with q | q
  · exact h pins s σ H x y v u Q I rx ry q
  · exact h' pins s σ H x y v u Q I rx ry q
theorem nomark (b : Expr) {op : CmpOp} (h : op ≠ .In := by decide) (h2 : op ≠ .NotIn := by decide) : behindInMarks op b = false := by
  have e1 : (op == CmpOp.In) = false := by cases op <;> first | rfl | exact absurd rfl h
  have e2 : (op == CmpOp.NotIn) = false := by cases op <;> first | rfl | exact absurd rfl h2
  cases b <;> simp [behindInMarks, e1, e2]
theorem pe_cmpR {op : CmpOp} {r : R2} (ho : OpR X (compareOp op) r) (ha : PE X a ta) (hb : PE X b tb) (hm : behindInMarks op b = false) : PE X (.Compare a [op] [b] pos) (tOp r ta tb) := by
  intro pins s σ H Q I h
  exact wpAny_Compare1 (binT ha hb I h fun v u s2 x y H2 I2 rx ry q => ho pins s2 σ H2 x y v u Q I2 rx ry q) hm
def tTest (t : TE) : TT := fun σ H Q => t σ H fun x H' => ∃ k, x = .bl k ∧ Q k H'
theorem pt_cmpR {op : CmpOp} {r : R2} (ho : OpR X (compareOp op) r) (ha : PE X a ta) (hb : PE X b tb) (hm : behindInMarks op b = false) : PT X (.Compare a [op] [b] pos) (tTest (tOp r ta tb)) := by
  intro pins s σ H Q I h
  refine wpAny_isTrue_Compare1 (thn (ha pins s σ H _ I h) fun v s1 ⟨x, H1, I1, r1, q1⟩ => thn (hb pins s1 σ H1 _ I1 q1) fun u s2 ⟨y, H2, I2, r2, q2⟩ =>
    thn (ho pins s2 σ H2 x y v u _ I2 r1 r2 q2) fun c s3 ⟨z, H3, I3, r3, k, e, q3⟩ => ?_) hm
  subst e
  cases r3
  exact wpAny_truthy_bool ⟨H3, I3, q3⟩
theorem line63 : (sizeLine : Nat) < 2 ^ 63 := by rw [sizeLine_eq]; decide
theorem vals1 {x : V} {us : List Value} (r : Vals [x] us) : ∃ u, us = [u] ∧ RelV x u := by
  cases r with
  | cons r1 r2 => cases r2; exact ⟨_, rfl, r1⟩
theorem vals2 {x y : V} {us : List Value} (r : Vals [x, y] us) : ∃ u w', us = [u, w'] ∧ RelV x u ∧ RelV y w' := by
  cases r with
  | cons r1 r2 =>
    cases r2 with
    | cons r3 r4 => cases r4; exact ⟨_, _, rfl, r1, r3⟩
theorem call_min2 (hc : X.calm = true) : CallR X (.builtin "min") (fun xs H Q => ∃ i j, xs = [.int i, .int j] ∧ Q (.int (if j < i then j else i)) H) := by
  intro pins s σ H xs us Q I r h
  obtain ⟨i, j, rfl, q⟩ := h
  obtain ⟨u, w', rfl, ⟨t, rfl⟩, ⟨t', rfl⟩⟩ := vals2 r
  refine min_two_ints (I.ok.hd hc) fun h' tk k => ⟨_, H, I.kept k, ?_, q⟩
  by_cases hj : j < i
  · rw [if_pos hj, if_pos hj]; exact ⟨_, rfl⟩
  · rw [if_neg hj, if_neg hj]; exact ⟨_, rfl⟩
def LenV (K : PySem.W.Frag) (x : V) (H : Hp) (n : Nat) : Prop :=
  match x with
  | .str y => y.length ≤ sizeLine ∧ n = y.length
  | .byt y => y.size ≤ sizeLine ∧ n = y.size
  | .ref p => (∃ xs, SqL K H p xs ∧ n = xs.length) ∨ ∃ xs, SqT K H p xs ∧ n = xs.length
  | _ => False
theorem call_len : CallR X (.builtin "len") (fun xs H Q => ∃ x n, xs = [x] ∧ LenV X.K x H n ∧ Q (.int n) H) := by
  intro pins s σ H xs us Q I r h
  obtain ⟨x, n, rfl, e, q⟩ := h
  obtain ⟨u, rfl, rx⟩ := vals1 r
  have hl := line63
  have hs : sizeLine = 16777216 := sizeLine_eq
  cases x with
  | str y =>
    obtain ⟨t, rfl⟩ := rx
    obtain ⟨hy, e'⟩ : y.length ≤ sizeLine ∧ n = y.length := e
    subst e'
    exact len_str (by omega) ⟨.int _, H, I.tok _, ⟨_, rfl⟩, q⟩
  | byt y =>
    obtain ⟨t, rfl⟩ := rx
    obtain ⟨hy, e'⟩ : y.size ≤ sizeLine ∧ n = y.size := e
    subst e'
    exact PySem.W.len_bytes (by omega) ⟨.int _, H, I.tok _, ⟨_, rfl⟩, q⟩
  | ref p =>
    cases rx
    have e' : (∃ xs, SqL X.K H p xs ∧ n = xs.length) ∨ ∃ xs, SqT X.K H p xs ∧ n = xs.length := e
    rcases e' with ⟨xs, hx, e'⟩ | ⟨xs, hx, e'⟩
    · subst e'
      obtain ⟨its, r', pl, hz⟩ := I.list hx
      have hlen := r'.length
      exact Calls.call_len_list pl.isList (by simp only [List.size_toArray]; omega) ⟨.int xs.length, H, I.tok _, ⟨_, by simp only [List.size_toArray]; rw [hlen]⟩, q⟩
    · subst e'
      obtain ⟨its, r', pl, hz⟩ := I.tuple hx
      have hlen := r'.length
      exact len_tuple pl (by simp only [List.size_toArray]; omega) ⟨.int xs.length, H, I.tok _, ⟨_, by simp only [List.size_toArray]; rw [hlen]⟩, q⟩
  | _ => exact (show False from e).elim
end
end L2
namespace L2
open PySem PySem.Spec PyProof.Rows
structure ObjM (h : Heap) (x dx C : Addr) (mA : Str → Option Value) : Prop where
  obj : h.get? x = some (PySem.W.instObj C dx)
  ns : h.Ns1 dx mA
  ne : dx ≠ x
theorem lookIn_ns {h : Heap} {dx : Addr} {mA : Str → Option Value} (n : h.Ns1 dx mA) : ∃ od, h.get? dx = some od ∧ ∀ name, PySem.W.lookIn name od = some (mA name) := by
  obtain ⟨o, es, ep, ho, hd, hk, _, hm⟩ := n
  refine ⟨o, ho, fun name => ?_⟩
  have e := hm name
  unfold nsFind findBy at e
  rw [← Array.find?_toList] at e
  unfold PySem.W.lookIn
  rw [hd]
  dsimp only
  split
  · rename_i y q
    rw [q] at e
    exact congrArg some e
  · rename_i q
    rw [q] at e
    have a : es.toList.any (·.refKey) = false := by
      rw [List.any_eq_false]
      intro y hy
      obtain ⟨z, t, hkey⟩ := hk y (Array.mem_toList_iff.mp hy)
      simp [DictEntry.refKey, hkey]
    have a' : ¬ es.toList.any (·.refKey) = true := by rw [a]; exact Bool.false_ne_true
    rw [if_neg a']
    exact congrArg some e
theorem ObjM.look {h : Heap} {x dx C : Addr} {mA : Str → Option Value} (I : ObjM h x dx C mA) : ∃ od, PySem.W.InstAt h x (PySem.W.instObj C dx) C (some od) ∧ ∀ name, PySem.W.lookIn name od = some (mA name) :=
  let ⟨od, ho, hl⟩ := lookIn_ns I.ns
  ⟨od, ⟨I.obj, rfl, rfl, ho⟩, hl⟩
section
variable {P : Program} {w : World} {H H' : Hp} {h h' : Heap} {a C dx : Addr} {fs fs' : List (Str × V)}
theorem ins_get (hok : HOk P w H h) (e : H a = some (.ins C dx fs)) : ∃ mA, ObjM h a dx C mA ∧ (∀ f, RelO (fs.lookup f) (mA f)) ∧ PySem.Within mA (fs.map (·.1)) ∧ fs.length ≤ 1000 ∧ H dx = some (.own a) := by
  obtain ⟨d, z, ne, ob, mA, n, r, q⟩ := (show ObjOk P w H h a (.ins C dx fs) from hok a _ e)
  exact ⟨mA, ⟨ob, n, ne⟩, r, q, z, d⟩
end
structure Cls (K : PySem.W.Frag) (C : Addr) : Prop where
  pg : PySem.W.plainGet K C Str.empty = true
  hd : PySem.W.hasDictIn K C = true
  po : PySem.W.plainOver K C = true
  sa : PySem.W.findIn K (.ref C) "__setattr__" = some (some (.builtin "object.__setattr__"))
theorem Cls.get {K : PySem.W.Frag} {C : Addr} (c : Cls K C) (f : Str) : PySem.W.plainGet K C f = true := c.pg
section
variable {X : Cx} {pins : List (Addr × Obj)} {σ : St} {H : Hp} {s : Shared} {A : Around} {E : Value → Shared → Prop} {Q : Value → Shared → Prop} {c : Value} {b : Bool}
inductive TyOf (K : PySem.W.Frag) (H : Hp) : V → Value → Prop where
  | non : TyOf K H .non (.type "NoneType")
  | bl (x : Bool) : TyOf K H (.bl x) (.type "bool")
  | int (i : Int) : TyOf K H (.int i) (.type "int")
  | str (x : Str) : TyOf K H (.str x) (.type "str")
  | flt (x : UInt64) : TyOf K H (.flt x) (.type "float")
  | lst {a : Addr} {xs : List V} (e : H a = some (.lst xs)) : TyOf K H (.ref a) (.type "list")
  | frz {a : Addr} {o : Obj} {xs : List V} (e : H a = some (.frz o (.lst xs))) : TyOf K H (.ref a) (.type "list")
  | tup {a : Addr} {xs : List V} (e : H a = some (.tup xs)) : TyOf K H (.ref a) (.type "tuple")
  | dK {a : Addr} {kvs : List (Key × V)} (e : H a = some (.dK kvs)) : TyOf K H (.ref a) (.type "dict")
  | dT {a : Addr} {kvs : List (List Key × V)} (e : H a = some (.dT kvs)) : TyOf K H (.ref a) (.type "dict")
  | ins {a C dx : Addr} {fs : List (Str × V)} (e : H a = some (.ins C dx fs)) (cl : Cls K C) (ha : PySem.W.findIn K (.ref C) "__class__" = some (some (.builtin "object.__class__")))
      (hn : PySem.W.specialIn K (.builtin "object.__class__") "__get__" = some (some (.builtin "getset_descriptor.__get__"))) (htk : PySem.W.takesIn K (.builtin "object.__class__") = some true)
      (hm : PySem.W.mroIn K C (.type "object") = some true) : TyOf K H (.ref a) (.ref C)
theorem isinst_ok {x : V} {u t : Value} (I : Inv X pins σ H s) (rx : RelV x u) (ty : TyOf X.K H x t) (e : PySem.W.kitOne X.K t c = some b) (h : ∀ tk, Q (.bool b) { s with toks := tk }) :
    wpAny (model X.prog X.w) A (call (.builtin "isinstance") [u, c]) Q E s := by
  cases ty with
  | non => cases (show u = Value.none from rx); exact PySem.W.kia_one PySem.W.kitx_none I.kIn True.intro e (fun z => nomatch z) h
  | bl y => cases (show u = Value.bool y from rx); exact PySem.W.kia_one PySem.W.kitx_bool I.kIn True.intro e (fun z => nomatch z) h
  | int i => obtain ⟨t, q⟩ := (show ∃ t, u = Value.int i t from rx); cases q; exact PySem.W.kia_one PySem.W.kitx_int I.kIn True.intro e (fun z => nomatch z) h
  | str y => obtain ⟨t, q⟩ := (show ∃ t, u = Value.str y t from rx); cases q; exact PySem.W.kia_one PySem.W.kitx_str I.kIn True.intro e (fun z => nomatch z) h
  | flt y => obtain ⟨t, q⟩ := (show ∃ t, u = Value.float y t from rx); cases q; exact PySem.W.kia_one PySem.W.kitx_float I.kIn True.intro e (fun z => nomatch z) h
  | @lst a xs ea =>
    cases (show u = Value.ref a from rx)
    obtain ⟨_, _, n, _, h1⟩ := (show ObjOk X.prog X.w H s.heap a (.lst xs) from I.hok a _ ea)
    exact PySem.W.kia_one PySem.W.kitx_list I.kIn ⟨_, h1, rfl⟩ e (fun z => nomatch z) h
  | @frz a ob xs ea =>
    cases (show u = Value.ref a from rx)
    obtain ⟨_, _, _, n, _, h1⟩ := (show ObjOk X.prog X.w H s.heap a (.frz ob (.lst xs)) from I.hok a _ ea)
    exact PySem.W.kia_one PySem.W.kitx_list I.kIn ⟨_, h1, rfl⟩ e (fun z => nomatch z) h
  | @tup a xs ea =>
    cases (show u = Value.ref a from rx)
    obtain ⟨_, _, _, p⟩ := (show ObjOk X.prog X.w H s.heap a (.tup xs) from I.hok a _ ea)
    obtain ⟨o, h1, h2, _⟩ := p
    exact PySem.W.kia_one PySem.W.kitx_tuple I.kIn ⟨o, h1, h2⟩ e (fun z => nomatch z) h
  | @dK a kvs ea =>
    cases (show u = Value.ref a from rx)
    obtain ⟨_, _, vs, _, p⟩ := (show ObjOk X.prog X.w H s.heap a (.dK kvs) from I.hok a _ ea)
    obtain ⟨o, es, ep, h1, h2, _⟩ := p
    exact PySem.W.kia_one PySem.W.kitx_dict I.kIn ⟨o, h1, h2.1⟩ e (fun z => nomatch z) h
  | @dT a kvs ea =>
    cases (show u = Value.ref a from rx)
    obtain ⟨_, _, xs, _, o, es, ep, h1, h2, _⟩ := (show ObjOk X.prog X.w H s.heap a (.dT kvs) from I.hok a _ ea)
    exact PySem.W.kia_one PySem.W.kitx_dict I.kIn ⟨o, h1, h2.1⟩ e (fun z => nomatch z) h
  | @ins a C dx fs ea cl ha hn htk hm =>
    cases (show u = Value.ref a from rx)
    obtain ⟨mA, O, _⟩ := ins_get I.hok ea
    obtain ⟨od, J, _⟩ := O.look
    exact PySem.W.kia_one (PySem.W.kitx_own (cl.get _) cl.hd ha hn htk hm) I.kIn J e (fun z => nomatch z) h
end
end L2
namespace L2
open PySem PySem.Spec PyProof.Rows
structure Room (k : Nat) (A : Around) : Prop where
  hd : A.handled = none
  dp : A.depth + 3 * k + 5 < recursionLimit
  un : A.units + 16 * k + 200 < cLine
  gd : A.guards = some []
theorem Room.mono {j k : Nat} {A : Around} (r : Room k A) (h : j ≤ k) : Room j A := ⟨r.hd, by have := r.dp; omega, by have := r.un; omega, r.gd⟩
theorem Room.deeper {k : Nat} {A : Around} (r : Room (k + 1) A) (env : Env) : Room k (A.deeper env) :=
  ⟨r.hd, by have := r.dp; show A.depth + 1 + 3 * k + 5 < _; omega, by have := r.un; show A.units + 3 + 16 * k + 200 < _; omega, r.gd⟩
theorem Room.in1 {k : Nat} {A : Around} (r : Room (k + 1) A) : Room k A.in1 :=
  ⟨r.hd, by have := r.dp; show A.depth + 3 * k + 5 < _; omega, by have := r.un; show A.units + 1 + 16 * k + 200 < _; omega, r.gd⟩
theorem Room.depth {k : Nat} {A : Around} (r : Room k A) : A.depth < recursionLimit := by have := r.dp; omega
theorem Room.units {k : Nat} {A : Around} (r : Room k A) : A.units + 64 < cLine := by have := r.un; omega
def tNil : TA := fun _ H Q => Q [] H
def tCons (ta : TE) (tr : TA) : TA := fun σ H Q => ta σ H fun x H1 => tr σ H1 fun xs H2 => Q (x :: xs) H2
section
variable {X : Cx} {e : Expr} {es : List Expr} {te : TE} {t : TA} {pos : Pos}
theorem pa_nil : PA X [] tNil := fun _ _ _ _ H Q I h => Calls.spliced_nil ⟨[], H, I, .nil, h⟩
theorem pa_cons (ha : PE X e te) (hr : PA X es t) (hs : starEach (e :: es) X.env = (false, eval e X.env) :: starEach es X.env := by rfl) : PA X (e :: es) (tCons te t) := by
  intro pos pins s σ H Q I h
  rw [hs]
  show wpAny _ _ (spliced ((false, eval e X.env) :: backTo pos (starEach es X.env))) _ _ s
  refine Calls.spliced_cons (thn (ha pins s σ H _ I h) fun u s1 ⟨x, H1, I1, r1, q1⟩ => ?_)
  exact thn (hr pos pins s1 σ H1 _ I1 q1) fun us s2 ⟨xs, H2, I2, r2, q2⟩ => ⟨x :: xs, H2, I2, .cons r1 r2, q2⟩
def tLst (t : TA) : TE := fun σ H Q => t σ H fun xs H1 => xs.length ≤ sizeLine ∧ ∀ p, H1 p = none → Q (.ref p) (upd H1 p (.lst xs))
theorem pe_lst (h : PA X es t) : PE X (.List es pos) (tLst t) := by
  intro pins s σ H Q I hq
  refine wpAny_List_spliced (thn (h pos pins s σ H _ I hq) fun us s1 ⟨xs, H1, I1, r, z, q⟩ => ⟨by rw [← r.length]; exact z, ?_⟩)
  have hf : H1 s1.heap.objs.size = none := I1.hok.fresh (Nat.le_refl _)
  refine ⟨.ref s1.heap.objs.size, upd H1 s1.heap.objs.size (.lst xs), I1.laid (t' := s1.toks) (fun b u e => Heap.get?_push_of_some _ e) (Nat.le_refl _) ?_, rfl, q _ hf⟩
  exact ⟨z, us, 0, r, Heap.get?_push_size _ rfl⟩
end
abbrev Sp := List V → Hp → VK → XK → Prop
abbrev CXT := List Env → Hp → Shared → XK → Value → Shared → Prop
structure Env0 (P : Program) (w : World) (K : PySem.W.Frag) (mg : Str → Option Value) (base : Heap) (A : Around) (outer : List Env) (s : Shared) (H : Hp) : Prop where
  frames : A.frames = some outer
  mod : Mod K mg base
  bs : ∀ b o, base.get? b = some o → s.heap.get? b = some o ∧ H b = none
  bsz : base.objs.size ≤ s.heap.objs.size
  funs : s.heap.FunFrames base outer
  frf : ∀ b ∈ frs outer, H b = none
  hok : HOk P w H s.heap
  bare : AllBare s.gens
def CE (outer : List Env) (P : Program) (w : World) (H : Hp) (s : Shared) (Q : VK) (u : Value) (s' : Shared) : Prop :=
  ∃ v H', s'.os = s.os ∧ AllBare s'.gens ∧ Un (frs outer) [] H H' s.heap s'.heap ∧ HOk P w H' s'.heap ∧ RelV v u ∧ Q v H'
def CR (CX : CXT) (outer : List Env) (P : Program) (w : World) (H : Hp) (s : Shared) (Q : VK) (E : XK) (r : Result) (s' : Shared) : Prop :=
  match r with
  | .ok (.ret u) => CE outer P w H s Q u s'
  | .ok _ => False
  | .error e => CX outer H s E e s'
structure FnOk (P : Program) (w : World) (K : PySem.W.Frag) (mg : Str → Option Value) (base : Heap) (CX : CXT) (k : Nat) (f : Addr) (fd : FuncData) (ps : List Str) (sp : Sp) : Prop where
  len : ∀ vs H Q E, sp vs H Q E → vs.length = ps.length
  run : ∀ (A : Around) (outer : List Env) (s : Shared) (H : Hp) (args : Args) (us : List Value) (vs : List V) (Q : VK) (E : XK), Room k A → Env0 P w K mg base A outer s H → BindsTo s fd args (ps.zip us) → Vals vs us → sp vs H Q E →
    codeAny (model P w) A (.call (.ref f) args) (CR CX outer P w H s Q E) s
theorem FnOk.mono {P : Program} {w : World} {K : PySem.W.Frag} {mg : Str → Option Value} {base : Heap} {CX : CXT} {j k : Nat} {f : Addr} {fd : FuncData} {ps : List Str} {sp : Sp} (F : FnOk P w K mg base CX j f fd ps sp) (h : j ≤ k) :
    FnOk P w K mg base CX k f fd ps sp := ⟨F.len, fun A outer s H args us vs Q E hr => F.run A outer s H args us vs Q E (hr.mono h)⟩
theorem FnOk.imp {P : Program} {w : World} {K : PySem.W.Frag} {mg : Str → Option Value} {base : Heap} {CX : CXT} {k : Nat} {f : Addr} {fd : FuncData} {ps : List Str} {sp sp' : Sp} (F : FnOk P w K mg base CX k f fd ps sp)
    (h : ∀ vs H Q E, sp' vs H Q E → sp vs H Q E) : FnOk P w K mg base CX k f fd ps sp' :=
  ⟨fun vs H Q E q => F.len vs H Q E (h _ _ _ _ q), fun A outer s H args us vs Q E hr he hb hv hs => F.run A outer s H args us vs Q E hr he hb hv (h _ _ _ _ hs)⟩
theorem Env0.in1 {P : Program} {w : World} {K : PySem.W.Frag} {mg : Str → Option Value} {base : Heap} {A : Around} {outer : List Env} {s : Shared} {H : Hp} (e : Env0 P w K mg base A outer s H) :
    Env0 P w K mg base A.in1 outer s H := ⟨e.frames, e.mod, e.bs, e.bsz, e.funs, e.frf, e.hok, e.bare⟩
section
variable {X : Cx} {pins : List (Addr × Obj)} {σ : St} {H : Hp} {s s' : Shared}
theorem Inv.env0 (I : Inv X pins σ H s) : Env0 X.prog X.w X.K X.mg X.base X.A X.stack s H :=
  ⟨I.ok.frames, I.ok.mod, I.bs, Nat.le_trans I.ok.bsz I.sz, I.stack, I.stkFree, I.hok, I.bare⟩
theorem Inv.after {Q : VK} {u : Value} (I : Inv X pins σ H s) (h : CE X.stack X.prog X.w H s Q u s') : EP X pins σ Q u s' := by
  obtain ⟨v, H', os, bare, un, hok, r, q⟩ := h
  obtain ⟨hh, g, d, t, os'⟩ := s'
  obtain rfl : os' = s.os := os
  exact ⟨v, H', I.call (h' := hh) (g' := g) (d' := d) (t' := t) (ch := []) un hok bare (fun b z => absurd z (by simp)), r, q⟩
end
def tCall (sp : Sp) (dvs : List V) (E : XK) (t : TA) : TE := fun σ H Q => t σ H fun vs H1 => sp (vs ++ dvs) H1 Q E
def Binds (K : PySem.W.Frag) (fd : FuncData) (ps : List Str) (ds : List Value) : Prop :=
  ∀ (s : Shared) (us : List Value), K.In s.heap → (us ++ ds).length = ps.length → BindsTo s fd ⟨us, []⟩ (ps.zip (us ++ ds))
theorem Binds.all {K : PySem.W.Frag} {fd : FuncData} {ps : List Str} (h : ∀ us : List Value, us.length = ps.length → bindArgs fd ⟨us, []⟩ = pure (ps.zip us)) : Binds K fd ps [] := fun s us _ hl => by
  rw [List.append_nil] at hl ⊢
  exact .of_eq (h us hl)
def Passes (CX : CXT) (X : Cx) (E : XK) : Prop := ∀ (pins : List (Addr × Obj)) (σ : St) (H : Hp) (s : Shared) (e : Value) (s' : Shared), Inv X pins σ H s → CX X.stack H s E e s' → X.xe e s'
section
variable {X : Cx} {CX : CXT} {k : Nat} {f C : Addr} {fd : FuncData} {ps : List Str} {sp : Sp} {dvs : List V} {ds : List Value} {E : XK} {x m : Str} {p pos apos : Pos} {e o : Expr} {es : List Expr} {ta : TE} {t : TA}
theorem run_fn {pins : List (Addr × Obj)} {σ : St} {H : Hp} {s : Shared} {Q : VK} {us : List Value} {vs : List V} (F : FnOk X.prog X.w X.K X.mg X.base CX k f fd ps sp) (hr : Room k X.A) (hb : Binds X.K fd ps ds) (hd : Vals dvs ds) (hx : Passes CX X E)
    (I : Inv X pins σ H s) (r : Vals vs us) (h : sp (vs ++ dvs) H Q E) : wpAny (model X.prog X.w) X.A (call (.ref f) us) (EP X pins σ Q) X.xe s := by
  have r2 : Vals (vs ++ dvs) (us ++ ds) := r.append hd
  have hl : (us ++ ds).length = ps.length := by rw [← r2.length]; exact F.len _ _ _ _ h
  refine wpAny_call (codeAny_mono (F.run X.A X.stack s H ⟨us, []⟩ (us ++ ds) (vs ++ dvs) Q E hr I.env0 (hb s us I.kIn hl) r2 h) fun r s' hq => ?_)
  cases r with
  | error e => exact hx pins σ H s e s' I hq
  | ok fl =>
    cases fl with
    | ret u => exact I.after hq
    | next => exact False.elim hq
    | brk => exact False.elim hq
    | cont => exact False.elim hq
theorem pe_call (F : FnOk X.prog X.w X.K X.mg X.base CX k f fd ps sp) (hr : Room k X.A) (hg : Gl X x) (hm : X.mg x = some (.ref f)) (hk : PySem.W.keepIn X.K (.ref f) = true) (hb : Binds X.K fd ps ds) (hd : Vals dvs ds) (hx : Passes CX X E)
    (ha : PA X (e :: es) t) (hdb : (x == ("__debug__" : Str)) = false := by decide) (he : starEach (e :: es) X.env = (false, eval e X.env) :: starEach es X.env := by rfl) (hpl : (backTo pos (starEach es X.env)).any (·.1) = false := by rfl) :
    PE X (.Call (.Name x p) (e :: es) [] pos) (tCall sp dvs E t) := by
  intro pins s σ H Q I h
  refine wpAny_Call_Name_kw (ld_glob I hg hm ?_ hdb)
  refine PySem.W.callWith_K (h₀ := X.base) I.ok.mod.kin hk (thn (ha pos pins s σ H _ I h) fun us s1 ⟨vs, H1, I1, r, q⟩ => ⟨I1.kIn, ?_⟩) he hpl
  exact run_fn F hr hb hd hx I1 r q
end
structure FnScope (N P : List Str) (sc : Scope) : Prop where
  kind : sc.kind = .function
  co : sc.isCoroutine = false
  gen : sc.isGenerator = false
  nd : N.Nodup
  pre : N.take P.length = P
  par : ∀ x ∈ P, sc.names.lookup x = some .local ∨ sc.names.lookup x = some .cell
  nofree : ∀ y ∈ sc.names, y.2 ≠ .free
theorem bindL_out {kindOf : Str → Option NameKind} {x : Str} : ∀ {binds : List (Str × Value)} {m : Str → Option Value}, (∀ v, (x, v) ∉ binds) → bindL kindOf binds m x = m x
  | [], _, _ => rfl
  | (n, v) :: r, m, h => by
    unfold bindL
    rw [bindL_out fun w hw => h w (List.mem_cons_of_mem _ hw)]
    split
    · have : x ≠ n := by rintro rfl; exact h v List.mem_cons_self
      simp [this]
    · rfl
theorem bindC_out {kindOf : Str → Option NameKind} {x : Str} : ∀ {binds : List (Str × Value)} {m : Str → Option Value}, (∀ v, (x, v) ∉ binds) → bindC kindOf binds m x = m x
  | [], _, _ => rfl
  | (n, v) :: r, m, h => by
    unfold bindC
    rw [bindC_out fun w hw => h w (List.mem_cons_of_mem _ hw)]
    split
    · rfl
    · have : x ≠ n := by rintro rfl; exact h v List.mem_cons_self
      simp [this]
theorem bindL_get {kindOf : Str → Option NameKind} {x : Str} {v : Value} : ∀ {P : List Str} {vs : List Value} {i : Nat} {m : Str → Option Value}, P.Nodup → P[i]? = some x → vs[i]? = some v → kindOf x = some .local →
    bindL kindOf (P.zip vs) m x = some v
  | [], _, _, _, _, h, _, _ => by simp at h
  | _ :: _, [], _, _, _, _, h, _ => by simp at h
  | p :: P, w :: vs, 0, m, nd, h1, h2, hk => by
    simp at h1 h2; subst h1; subst h2
    show bindL kindOf ((p, w) :: P.zip vs) m p = _
    unfold bindL
    rw [bindL_out fun v hv => (List.nodup_cons.mp nd).1 (List.of_mem_zip hv).1, if_pos hk]
    simp
  | p :: P, w :: vs, i + 1, m, nd, h1, h2, hk => by
    show bindL kindOf ((p, w) :: P.zip vs) m x = _
    unfold bindL
    exact bindL_get (i := i) (List.nodup_cons.mp nd).2 (by simpa using h1) (by simpa using h2) hk
theorem bindC_get {kindOf : Str → Option NameKind} {x : Str} {v : Value} : ∀ {P : List Str} {vs : List Value} {i : Nat} {m : Str → Option Value}, P.Nodup → P[i]? = some x → vs[i]? = some v → kindOf x ≠ some .local →
    bindC kindOf (P.zip vs) m x = some v
  | [], _, _, _, _, h, _, _ => by simp at h
  | _ :: _, [], _, _, _, _, h, _ => by simp at h
  | p :: P, w :: vs, 0, m, nd, h1, h2, hk => by
    simp at h1 h2; subst h1; subst h2
    show bindC kindOf ((p, w) :: P.zip vs) m p = _
    unfold bindC
    rw [bindC_out fun v hv => (List.nodup_cons.mp nd).1 (List.of_mem_zip hv).1, if_neg hk]
    simp
  | p :: P, w :: vs, i + 1, m, nd, h1, h2, hk => by
    show bindC kindOf ((p, w) :: P.zip vs) m x = _
    unfold bindC
    exact bindC_get (i := i) (List.nodup_cons.mp nd).2 (by simpa using h1) (by simpa using h2) hk
def start (N : List Str) (vs : List V) : St := vs.map some ++ List.replicate (N.length - vs.length) none
def cxOf (CX : CXT) (P : Program) (w : World) (K : PySem.W.Frag) (mg : Str → Option Value) (base : Heap) (N : List Str) (qual : Str) (scope : Scope) (f : Addr) (cd : Value) (A : Around) (outer : List Env) (s : Shared) (H : Hp) (E : XK) : Cx where
  prog := P
  w := w
  K := K
  mg := mg
  base := base
  A := A.deeper (envOfC qual scope s.heap.objs.size f cd)
  N := N
  s₀ := s
  H₀ := H
  env := envOfC qual scope s.heap.objs.size f cd
  outer := outer
  stack := envOfC qual scope s.heap.objs.size f cd :: outer
  ex := []
  calm := true
  fn := fun _ => true
  pn := []
  xe := fun e s' => wpAny (model P w) (A.deeper (envOfC qual scope s.heap.objs.size f cd)) (leaving (envOfC qual scope s.heap.objs.size f cd) e) (fun _ s'' => CX outer H s E e s'') (fun e' s'' => CX outer H s E e' s'') s'
theorem cell_has {sc : Scope} {n : Nat} {x : Str} (h : sc.names.lookup x = some .cell) : ∃ c, (cellsFrom n sc.names []).lookup x = some c := by
  have q := PySem.W.cellsFrom_some sc.names n [] (.inl h)
  exact Option.isSome_iff_exists.mp q
theorem inv_start {CX : CXT} {P : Program} {w : World} {K : PySem.W.Frag} {mg : Str → Option Value} {base : Heap} {N ps : List Str} {qual : Str} {scope : Scope} {f : Addr} {cd : Value} {A : Around} {outer : List Env} {s s1 : Shared} {H : Hp} {E : XK} {us : List Value} {vs : List V}
    (S : FnScope N ps scope) (hd : A.handled = none) (e0 : Env0 P w K mg base A outer s H) (hl : vs.length = ps.length) (r : Vals vs us)
    (x : InCallC s s.heap.objs.size (bindL (envOfC qual scope s.heap.objs.size f cd).kindOf (ps.zip us) fun _ => none) (cellsFrom (s.heap.objs.size + 1) scope.names []) (bindC (envOfC qual scope s.heap.objs.size f cd).kindOf (ps.zip us) fun _ => none) s1) :
    Inv (cxOf CX P w K mg base N qual scope f cd A outer s H E) [] (start N vs) H s1 := by
  have hpl : ps.length ≤ N.length := by have := congrArg List.length S.pre; rw [List.length_take] at this; omega
  obtain ⟨h1, tk, rfl, hk⟩ := x.done
  have noA : ∀ b : Addr, b ∉ (cxOf CX P w K mg base N qual scope f cd A outer s H E).ex := fun b z => absurd (show b ∈ ([] : List Addr) from z) (by simp)
  refine ⟨⟨e0.mod, S.kind, rfl, rfl, Nat.le_refl _, fun y z c h1 h2 => ?_, fun y hy => ?_, fun y c _ h => ?_, fun _ => hd, Around.frames_deeper e0.frames, .inr ⟨rfl, rfl⟩, fun b z => absurd z (noA b), e0.bs, e0.bsz, fun b _ _ => noA b, fun b z => absurd z (noA b), e0.funs, e0.frf⟩,
    rfl, e0.bare, Un.kept hk, ⟨_, x.toInCall.ns, fun i y v h1 h2 h3 => ?_⟩, fun y c h => ⟨_, x.cell y c h⟩, e0.hok.fresh (Nat.le_refl _), fun y c h => ?_, fun p hp => absurd (show p ∈ ([] : List (Addr × Obj)) from hp) (by simp), e0.hok.kept hk, ?_⟩
  · exact name_of_addr x.apart (PySem.mem_of_lookup h1) (PySem.mem_of_lookup h2)
  · have hy : scope.names.lookup y = some .cell ∨ scope.names.lookup y = some .free := hy
    rcases hy with hy | hy
    · exact cell_has hy
    · exact absurd rfl (S.nofree _ (PySem.mem_of_lookup hy))
  · exact Nat.le_of_lt (x.above y c (PySem.mem_of_lookup h))
  · have hi : i < vs.length := by
      unfold start at h2
      by_cases hi : i < vs.length
      · exact hi
      · rw [List.getElem?_append_right (by simpa using hi)] at h2
        rw [List.getElem?_replicate] at h2
        split at h2 <;> cases h2
    have ha : vs[i]? = some v := by
      unfold start at h2
      rw [List.getElem?_append_left (by simpa using hi), List.getElem?_map] at h2
      cases e : vs[i]? with
      | none => rw [e] at h2; cases h2
      | some a => rw [e] at h2; cases h2; rfl
    obtain ⟨u, hu, rv⟩ := r.get ha
    have hp : ps[i]? = some y := by
      rw [← S.pre, List.getElem?_take_of_lt (by omega)]; exact h1
    have ndP : ps.Nodup := by rw [← S.pre]; exact S.nd.sublist (List.take_sublist _ _)
    refine ⟨u, rv, ?_⟩
    rcases S.par y (List.mem_of_getElem? hp) with k | k
    · exact .inl ⟨k, bindL_get ndP hp hu k⟩
    · obtain ⟨c, e⟩ := cell_has (n := s.heap.objs.size + 1) k
      refine .inr ⟨.inl k, c, e, ?_⟩
      have q := x.cell y c e
      rw [bindC_get ndP hp hu (by show scope.names.lookup y ≠ _; rw [k]; decide)] at q
      exact q
  · exact e0.hok.fresh (Nat.le_of_lt (x.above y c (PySem.mem_of_lookup h)))
  · unfold start
    show _ = N.length
    rw [List.length_append, List.length_map, List.length_replicate]
    omega
theorem fn_of {CX : CXT} {P : Program} {w : World} {K : PySem.W.Frag} {mg : Str → Option Value} {base : Heap} {k : Nat} {f : Addr} {name qual : Str} {params : Arguments} {body : List Stmt} {scope : Scope} {dV kV doc pm cdv ct oc : Value} {an od : Option Addr}
    {osl : Array (Option Value)} {N ps : List Str} {sp : Sp} (lk : K.lookup f = some ⟨oc, od, .func (PySem.W.fnOf name qual params body scope dV kV doc pm an cdv ct), osl⟩) (hcd : PySem.W.codeIn K cdv qual = true) (S : FnScope N ps scope)
    (len : ∀ vs H Q E, sp vs H Q E → vs.length = ps.length)
    (hbody : ∀ (A : Around) (outer : List Env) (s : Shared) (H : Hp) (vs : List V) (Q : VK) (E : XK), Room k (A.deeper (envOfC qual scope s.heap.objs.size f cdv)) → sp vs H Q E →
      ∃ t, PSs (cxOf CX P w K mg base N qual scope f cdv A outer s H E) body t ∧ t { nx := fun _ H' => Q .non H', rt := Q } (start N vs) H) :
    FnOk P w K mg base CX (k + 1) f (PySem.W.fnOf name qual params body scope dV kV doc pm an cdv ct) ps sp := by
  refine ⟨len, fun A outer s H args us vs Q E hr e0 hb r hsp => ?_⟩
  have hl := len _ _ _ _ hsp
  have KX : K.In s.heap := e0.mod.kin.keeps fun b o e => (e0.bs b o e).1
  have lim : s.heap.NoLimit := e0.mod.nolimit.keeps fun b o e => (e0.bs b o e).1
  have hkind : ∀ y ∈ ps.zip us, scope.names.lookup y.1 = some .local ∨ (scope.names.lookup y.1 = some .cell ∧ ((cellsFrom (s.heap.objs.size + 1) scope.names []).lookup y.1).isSome = true) := fun ⟨n, v⟩ hy => by
    rcases S.par n (List.of_mem_zip hy).1 with q | q
    · exact .inl q
    · exact .inr ⟨q, PySem.W.cellsFrom_some _ _ _ (.inl q)⟩
  refine codeAny_call_function hr.depth (KX _ _ lk) rfl S.co S.gen rfl (PySem.W.codeRec_of KX hcd) (hb _ _ _ _ ?_)
  refine wpAny_newFunctionEnv_cells S.kind hkind fun env he s1 x => ?_
  subst he
  refine ⟨lim.keeps x.toInCall.keep, codeAny_func ?_⟩
  obtain ⟨t, ht, hq⟩ := hbody A outer s H vs Q E (hr.deeper _) hsp
  have I : Inv (cxOf CX P w K mg base N qual scope f cdv A outer s H E) [] (start N vs) H s1 := inv_start S hr.hd e0 hl r x
  refine wpAny_mono (ht [] s1 (start N vs) H _ I hq) (fun fl s' hs => ?_) fun e s' hs => hs
  have fin : ∀ {σ' : St} {H' : Hp} {v : V} {u : Value}, Inv (cxOf CX P w K mg base N qual scope f cdv A outer s H E) [] σ' H' s' → RelV v u → Q v H' → CE outer P w H s Q u s' :=
    fun {σ' H' v u} J rv q => ⟨v, H', J.os, J.bare, J.base, J.hok, rv, q⟩
  cases fl with
  | ret u =>
    obtain ⟨v, σ', H', J, rv, q⟩ := hs
    exact fin J rv q
  | next =>
    obtain ⟨σ', H', J, q⟩ := hs
    exact fin (v := V.non) (u := Value.none) J rfl q
  | brk =>
    obtain ⟨_, _, _, q⟩ := hs
    exact False.elim q
  | cont =>
    obtain ⟨_, _, _, q⟩ := hs
    exact False.elim q
end L2
namespace L2
open PySem PySem.Spec PyProof.Rows
section
variable {X : Cx} {x : Str} {p pos : Pos} {e : Expr} {es : List Expr} {t : TA} {id T : String} {r : List V → Hp → VK → Prop}
def tCB (r : List V → Hp → VK → Prop) (t : TA) : TE := fun σ H Q => t σ H fun vs H1 => r vs H1 Q
theorem pe_callB (hc : CallR X (.builtin id) r) (hg : Gl X x) (hm : X.mg x = none) (hv : bootBuiltins x = some (.builtin id)) (ha : PA X (e :: es) t) (hn : x ≠ "__name__" := by decide) (hdb : (x == ("__debug__" : Str)) = false := by decide)
    (he : starEach (e :: es) X.env = (false, eval e X.env) :: starEach es X.env := by rfl) (hpl : (backTo pos (starEach es X.env)).any (·.1) = false := by rfl) : PE X (.Call (.Name x p) (e :: es) [] pos) (tCB r t) := by
  intro pins s σ H Q I h
  refine wpAny_Call_Name_kw (ld_blt I hg hm hv ?_ hn hdb)
  exact PyProof.Rows.callWith_builtin1 (thn (ha pos pins s σ H _ I h) fun us s1 ⟨vs, H1, I1, r1, q1⟩ => hc pins s1 σ H1 vs us Q I1 r1 q1) he hpl
theorem pe_callTy (hc : CallR X (.type T) r) (hg : Gl X x) (hm : X.mg x = none) (hv : bootBuiltins x = some (.type T)) (ha : PA X (e :: es) t) (hn : x ≠ "__name__" := by decide) (hdb : (x == ("__debug__" : Str)) = false := by decide)
    (he : starEach (e :: es) X.env = (false, eval e X.env) :: starEach es X.env := by rfl) (hpl : (backTo pos (starEach es X.env)).any (·.1) = false := by rfl) : PE X (.Call (.Name x p) (e :: es) [] pos) (tCB r t) := by
  intro pins s σ H Q I h
  refine wpAny_Call_Name_kw (ld_blt I hg hm hv ?_ hn hdb)
  exact PyProof.Rows.callWith_type1 (thn (ha pos pins s σ H _ I h) fun us s1 ⟨vs, H1, I1, r1, q1⟩ => hc pins s1 σ H1 vs us Q I1 r1 q1) he hpl
end
end L2
namespace L2
open PySem PySem.Spec PyProof.Rows
abbrev TO := St → Hp → (Option Int → Hp → Prop) → Prop
section
variable {X : Cx} {e : Expr} {te : TE} {lo hi : Option Expr} {tl th : TO} {pos p2 : Pos}
def SlR (X : Cx) (r : V → Option Int → Option Int → Hp → VK → Prop) : Prop :=
  ∀ (pins : List (Addr × Obj)) (s : Shared) (σ : St) (H : Hp) (x : V) (v vl vu : Value) (lo hi : Option Int) (sl : Addr) (Q : VK), Inv X pins σ H s → RelV x v → s.heap.IsSliceOf sl vl vu .none → IsPart vl lo → IsPart vu hi → r x lo hi H Q →
    ∃ T id, typeLookup (.type T) "__getitem__" = pure (some (.builtin id)) ∧ s.TypeIs v T ∧ wpAny (model X.prog X.w) X.A (getItem v (.ref sl)) (EP X pins σ Q) X.xe s
theorem SlR.or {r r' : V → Option Int → Option Int → Hp → VK → Prop} (h : SlR X r) (h' : SlR X r') : SlR X (fun x lo hi H Q => r x lo hi H Q ∨ r' x lo hi H Q) := by
  intro pins s σ H x v vl vu lo hi sl Q I rx hs pl pu q
  rcases q with q | q
  · exact h pins s σ H x v vl vu lo hi sl Q I rx hs pl pu q
  · exact h' pins s σ H x v vl vu lo hi sl Q I rx hs pl pu q
end
end L2
namespace L2
open PySem PySem.Spec PyProof.Rows
def ixN (n : Nat) (i : Int) : Option Nat := if 0 ≤ i then (if i < n then some i.toNat else none) else if -(n : Int) ≤ i then some (i + n).toNat else none
def atI {α : Type} (xs : List α) (i : Int) : Option α := (ixN xs.length i).bind fun j => xs[j]?
theorem ixN_seq {n : Nat} {i : Int} {j : Nat} (h : ixN n i = some j) : seqIndex? i n = some j ∧ j < n ∧ -(n : Int) ≤ i ∧ i < n := by
  unfold ixN at h
  by_cases h0 : 0 ≤ i
  · rw [if_pos h0] at h
    by_cases h1 : i < n
    · rw [if_pos h1] at h
      have e : i.toNat = j := Option.some.inj h
      exact ⟨by rw [seqIndex_of h0 h1, e], by omega, by omega, h1⟩
    · rw [if_neg h1] at h; cases h
  · rw [if_neg h0] at h
    by_cases h1 : -(n : Int) ≤ i
    · rw [if_pos h1] at h
      have e : (i + n).toNat = j := Option.some.inj h
      exact ⟨by rw [seqIndex_neg (by omega) h1, e], by omega, h1, by omega⟩
    · rw [if_neg h1] at h; cases h
theorem atI_get {α : Type} {xs : List α} {i : Int} {v : α} (h : atI xs i = some v) : ∃ j, seqIndex? i xs.length = some j ∧ xs[j]? = some v ∧ j < xs.length ∧ -(xs.length : Int) ≤ i ∧ i < xs.length := by
  unfold atI at h
  cases e : ixN xs.length i with
  | none => rw [e] at h; cases h
  | some j =>
    rw [e] at h
    obtain ⟨h1, h2, h3, h4⟩ := ixN_seq e
    exact ⟨j, h1, h, h2, h3, h4⟩
theorem atI_nat {α : Type} {xs : List α} {j : Nat} {v : α} (h : xs[j]? = some v) : atI xs (j : Int) = some v := by
  have hj : j < xs.length := (List.getElem?_eq_some_iff.mp h).1
  have e : ixN xs.length (j : Int) = some j := by
    unfold ixN
    rw [if_pos (by omega), if_pos (by omega)]; simp
  unfold atI; rw [e]; exact h
def PlainIx (b : Expr) : Prop := ∀ o i, subscripted b false o i = operate [o, i] (getItem o i)
def IxR (X : Cx) (r : R2) : Prop :=
  ∀ (value slice : Expr) (pins : List (Addr × Obj)) (s : Shared) (σ : St) (H : Hp) (x y : V) (v u : Value) (Q : VK), Inv X pins σ H s → RelV x v → RelV y u → r x y H Q →
    subscripted slice false v u = operate [v, u] (getItem v u) → wpAny (model X.prog X.w) X.A (subscriptTail value slice v u) (EP X pins σ Q) X.xe s
def MtR (X : Cx) (id : String) (r : V → List V → Hp → VK → Prop) : Prop :=
  ∀ (pins : List (Addr × Obj)) (s : Shared) (σ : St) (H : Hp) (x : V) (xs : List V) (v : Value) (us : List Value) (Q : VK), Inv X pins σ H s → RelV x v → Vals xs us → r x xs H Q →
    wpAny (model X.prog X.w) X.A (call (.builtin id) (v :: us)) (EP X pins σ Q) X.xe s
section
variable {X : Cx} {a b : Expr} {ta tb : TE} {pos : Pos}
theorem IxR.or {r r' : R2} (h : IxR X r) (h' : IxR X r') : IxR X (fun x y H Q => r x y H Q ∨ r' x y H Q) := by
  intro value slice pins s σ H x y v u Q I rx ry q hs
  rcases q with q | q
  · exact h value slice pins s σ H x y v u Q I rx ry q hs
  · exact h' value slice pins s σ H x y v u Q I rx ry q hs
theorem MtR.or {id : String} {r r' : V → List V → Hp → VK → Prop} (h : MtR X id r) (h' : MtR X id r') : MtR X id (fun x xs H Q => r x xs H Q ∨ r' x xs H Q) := by
  intro pins s σ H x xs v us Q I rx rs q
  rcases q with q | q
  · exact h pins s σ H x xs v us Q I rx rs q
  · exact h' pins s σ H x xs v us Q I rx rs q
theorem pe_ix {r : R2} (hr : IxR X r) (ha : PE X a ta) (hb : PE X b tb) (hs : PlainIx b) : PE X (.Subscript a b pos) (tOp r ta tb) := by
  intro pins s σ H Q I h
  exact Subscript_ (binT ha hb I h fun v u s2 x y H2 I2 rx ry q => hr a b pins s2 σ H2 x y v u Q I2 rx ry q (hs _ _))
def rIxL (K : PySem.W.Frag) : R2 := fun x y H Q => ∃ p xs i v, x = .ref p ∧ y = .int i ∧ SqL K H p xs ∧ atI xs i = some v ∧ Q v H
def rIxT (K : PySem.W.Frag) : R2 := fun x y H Q => ∃ p xs i v, x = .ref p ∧ y = .int i ∧ SqT K H p xs ∧ atI xs i = some v ∧ Q v H
def rIxS : R2 := fun x y H Q => ∃ z i c, x = .str z ∧ y = .int i ∧ z.length ≤ sizeLine ∧ atI z.cps.toList i = some c ∧ Q (.str ⟨#[c]⟩) H
theorem ix_list : IxR X (rIxL X.K) := by
  intro value slice pins s σ H x y v u Q I rx ry h hs
  obtain ⟨p, xs, i, z, rfl, rfl, hq, he, q⟩ := h
  cases rx
  obtain ⟨t, rfl⟩ := ry
  obtain ⟨its, r, pl, hz⟩ := I.list hq
  obtain ⟨j, h1, h2, h3, h4, h5⟩ := atI_get he
  obtain ⟨w, ew, rw'⟩ := r.get h2
  have hl := r.length
  have hn := line63
  have fin : EP X pins σ Q w s := ⟨z, H, I, rw', q⟩
  by_cases h0 : 0 ≤ i
  · have hj : i.toNat = j := by
      rw [seqIndex_of h0 h5] at h1
      exact Option.some.inj h1
    exact item_listR pl.isList h0 (by omega) (by rw [hj]; simpa using ew) fin hs
  · have hj : (i + (its.toArray.size : Int)).toNat = j := by
      rw [seqIndex_neg (by omega) h4] at h1
      rw [List.size_toArray, ← hl]
      exact Option.some.inj h1
    exact subscriptTail_builtinR (x := w) pl.isList.typeIs slot_list_getitem.lookup
      (wpAny_getItem_list_neg (Q := fun r s' => r = w ∧ EP X pins σ Q r s') pl.isList (by omega) (by rw [List.size_toArray] <;> omega) (by omega) (by rw [hj]; simpa using ew) ⟨rfl, fin⟩) hs
theorem ix_tup : IxR X (rIxT X.K) := by
  intro value slice pins s σ H x y v u Q I rx ry h hs
  obtain ⟨p, xs, i, z, rfl, rfl, hq, he, q⟩ := h
  cases rx
  obtain ⟨t, rfl⟩ := ry
  obtain ⟨its, r, pl, hz⟩ := I.tuple hq
  obtain ⟨j, h1, h2, h3, h4, h5⟩ := atI_get he
  obtain ⟨w, ew, rw'⟩ := r.get h2
  have hl := r.length
  have hn := line63
  have fin : EP X pins σ Q w s := ⟨z, H, I, rw', q⟩
  exact subscriptTail_builtinR (x := w) pl.typeIs slot_tuple_getitem.lookup
    (getItem_tuple (j := j) (Q := fun r s' => r = w ∧ EP X pins σ Q r s') pl (by omega) (by omega) (by rw [List.size_toArray, ← hl]; exact h1) (by simpa using ew) ⟨rfl, fin⟩) hs
theorem ix_str : IxR X rIxS := by
  intro value slice pins s σ H x y v u Q I rx ry h hs
  obtain ⟨z, i, c, rfl, rfl, hz, he, q⟩ := h
  obtain ⟨t, rfl⟩ := rx
  obtain ⟨t', rfl⟩ := ry
  obtain ⟨j, h1, h2, h3, h4, h5⟩ := atI_get he
  have hl : z.cps.toList.length = z.length := by simp [Str.length]
  rw [hl] at h1 h4 h5
  have hn := line63
  exact tail_any (typeIs_str s z t) slot_str_getitem.lookup (getItem_str (c := c) (by
    have e1 : decide (i < -(2 ^ 63 : Int)) = false := decide_eq_false (by omega)
    have e2 : decide (i ≥ 2 ^ 63) = false := decide_eq_false (by omega)
    rw [e1, e2, Bool.or_false]) (by rw [h1]; simpa using h2) ⟨.str ⟨#[c]⟩, H, I.tok _, ⟨_, rfl⟩, q⟩) hs
def rIx (K : PySem.W.Frag) : R2 := fun x y H Q => rIxL K x y H Q ∨ rIxT K x y H Q ∨ rIxS x y H Q
theorem ix_seq : IxR X (rIx X.K) := ix_list.or (ix_tup.or ix_str)
theorem mapSeq_set (its : List Value) (n j : Nat) (u : Value) : Obj.mapSeq (·.setIfInBounds j u) { cls := .type "list", data := .seq its.toArray n } = { cls := .type "list", data := .seq (its.set j u).toArray n } := by
  simp [Obj.mapSeq]
theorem Inv.lst {pins : List (Addr × Obj)} {σ : St} {H : Hp} {s : Shared} {p : Addr} {xs : List V} (I : Inv X pins σ H s) (h : H p = some (.lst xs)) :
    ∃ (its : List Value) (n : Nat), Vals xs its ∧ s.heap.get? p = some { cls := .type "list", data := .seq its.toArray n } ∧ xs.length ≤ sizeLine := by
  obtain ⟨z, its, n, r, e⟩ := I.hok p _ h
  exact ⟨its, n, r, e, z⟩
theorem Inv.lstUpd {pins : List (Addr × Obj)} {σ : St} {H : Hp} {s : Shared} {p : Addr} {xs ys : List V} {its its' : List Value} {n n' : Nat} {f : Obj → Obj} (I : Inv X pins σ H s) (h : H p = some (.lst xs))
    (ho : s.heap.get? p = some { cls := .type "list", data := .seq its.toArray n }) (hf : f { cls := .type "list", data := .seq its.toArray n } = { cls := .type "list", data := .seq its'.toArray n' }) (r : Vals ys its') (hz : ys.length ≤ sizeLine) (t : Nat) :
    Inv X pins σ (upd H p (.lst ys)) { s with heap := s.heap.update p f, toks := t } := by
  have e : (s.heap.update p f).get? p = some { cls := .type "list", data := .seq its'.toArray n' } := by
    rw [Heap.get?_update_self f ho (by rw [hf] <;> rfl), hf]
  refine I.write (x := p) (e := p) (by rw [h]; trivial) (.inl rfl) (fun b u hb q => (Heap.get?_update_other _ _ (Ne.symm hb)).trans q) ⟨_, e⟩ ?_
  exact ⟨hz, its', n', r, e⟩
def rSetL : V → V → V → Hp → (Hp → Prop) → Prop := fun o i v H Q => ∃ p xs k j, o = .ref p ∧ i = .int k ∧ H p = some (.lst xs) ∧ ixN xs.length k = some j ∧ Q (upd H p (.lst (xs.set j v)))
theorem set_list : PSet X rSetL := by
  intro pins s σ H o i v ov iv u Q I ro ri rv h
  obtain ⟨p, xs, k, j, rfl, rfl, hp, hj, q⟩ := h
  cases ro
  obtain ⟨t, rfl⟩ := ri
  obtain ⟨its, n, r, ho, hz⟩ := I.lst hp
  obtain ⟨h1, h2, h3, h4⟩ := ixN_seq hj
  have hl := r.length
  have hn := line63
  have I' : Inv X pins σ (upd H p (.lst (xs.set j v))) { s with heap := s.heap.update p (Obj.mapSeq (·.setIfInBounds j u)) } :=
    I.lstUpd hp ho (mapSeq_set its n j u) (r.set rv j) (by rw [List.length_set]; exact hz) s.toks
  by_cases h0 : 0 ≤ k
  · have hk : k.toNat = j := by
      rw [seqIndex_of h0 h4] at h1
      exact Option.some.inj h1
    exact PySem.W.ki_setAt ho h0 (by omega) (by rw [List.size_toArray, ← hl]; exact h4) (by rw [hk]; exact ⟨_, I', q⟩)
  · have hk : (k + (its.toArray.size : Int)).toNat = j := by
      rw [seqIndex_neg (by omega) h3] at h1
      rw [List.size_toArray, ← hl]
      exact Option.some.inj h1
    exact PySem.W.ki_setBack ho (by omega) (by rw [List.size_toArray, ← hl]; exact h3) (by omega) (by rw [hk]; exact ⟨_, I', q⟩)
theorem CallR.or {f : Value} {r r' : List V → Hp → VK → Prop} (h : CallR X f r) (h' : CallR X f r') : CallR X f (fun xs H Q => r xs H Q ∨ r' xs H Q) := by
  intro pins s σ H xs us Q I rs q
  rcases q with q | q
  · exact h pins s σ H xs us Q I rs q
  · exact h' pins s σ H xs us Q I rs q
theorem call_tuple_of : CallR X (.type "tuple") (fun xs H Q => ∃ p ys, xs = [.ref p] ∧ ((SqL X.K H p ys ∧ ∀ l, H l = none → Q (.ref l) (upd H l (.tup ys))) ∨ (SqT X.K H p ys ∧ Q (.ref p) H))) := by
  intro pins s σ H xs us Q I r h
  obtain ⟨p, ys, rfl, h⟩ := h
  obtain ⟨u, rfl, rx⟩ := vals1 r
  cases rx
  rcases h with ⟨hq, q⟩ | ⟨hq, q⟩
  · obtain ⟨its, r', pl, hz⟩ := I.list hq
    have hlen := r'.length
    refine call_tuple_list pl.isList (fun h' kp => ?_) (by simp only [List.size_toArray] <;> omega)
    have I1 : Inv X pins σ H { s with heap := h' } := I.kept (t' := s.toks) kp
    have I2 : Inv X pins σ (upd H h'.objs.size (.tup ys)) { s with heap := h'.push { cls := .type "tuple", data := .seq its.toArray } } :=
      I1.laid (t' := s.toks) (fun b o e => Heap.get?_push_of_some _ e) (Nat.le_refl _) (show ObjOk X.prog X.w _ _ _ (.tup ys) from ⟨hz, its, r', IsTup.new _ _⟩)
    exact ⟨.ref h'.objs.size, _, I2, rfl, q _ (I1.hok.fresh (Nat.le_refl _))⟩
  · obtain ⟨its, r', pl, hz⟩ := I.tuple hq
    exact call_tuple_same pl ⟨.ref p, H, I, rfl, q⟩
def tyV (K : PySem.W.Frag) (T : String) (x : V) (H : Hp) : Prop := match x with
  | .str _ => T = "str"
  | .int _ => T = "int"
  | .ref p => (T = "list" ∧ ∃ xs, SqL K H p xs) ∨ (T = "tuple" ∧ ∃ o, K.lookup p = some o ∧ o.cls = .type "tuple" ∧ o.dict = none) ∨
      (T = "dict" ∧ ((∃ kvs, H p = some (.dK kvs)) ∨ ∃ kvs, H p = some (.dT kvs))) ∨ (T = "set" ∧ ∃ S n, H p = some (.set S n))
  | _ => False
theorem tyV_is {pins : List (Addr × Obj)} {σ : St} {H : Hp} {s : Shared} {T : String} {x : V} {v : Value} (I : Inv X pins σ H s) (r : RelV x v) (ty : tyV X.K T x H) :
    s.TypeIs v T ∧ ∀ a, v = .ref a → ∃ ob, s.heap.get? a = some ob ∧ ob.dict = none := by
  cases x with
  | str z =>
    obtain ⟨t, rfl⟩ := r
    cases (show T = "str" from ty)
    exact ⟨typeIs_str s z t, fun _ e => nomatch e⟩
  | int i =>
    obtain ⟨t, rfl⟩ := r
    cases (show T = "int" from ty)
    exact ⟨typeIs_int s i t, fun _ e => nomatch e⟩
  | ref p =>
    cases r
    rcases ty with ⟨rfl, xs, hq⟩ | ⟨rfl, o, hk, hc, hd⟩ | ⟨rfl, hk⟩ | ⟨rfl, S, n, hk⟩
    · obtain ⟨its, _, pl, _⟩ := I.list hq
      refine ⟨pl.isList.typeIs, fun a e => ?_⟩
      cases e
      obtain ⟨o, n, e, c, hd, _⟩ := pl
      exact ⟨o, e, hd⟩
    · refine ⟨⟨o, I.kIn p o hk, hc⟩, fun a e => ?_⟩
      cases e
      exact ⟨o, I.kIn _ o hk, hd⟩
    · have z : ∃ o, s.heap.get? p = some o ∧ o.ExactDict := by
        rcases hk with ⟨kvs, hk⟩ | ⟨kvs, hk⟩
        · obtain ⟨_, _, _, _, o, _, _, e, ex, _⟩ := I.hok p _ hk
          exact ⟨o, e, ex⟩
        · obtain ⟨_, _, _, _, o, _, _, e, ex, _⟩ := I.hok p _ hk
          exact ⟨o, e, ex⟩
      obtain ⟨o, e, ex⟩ := z
      refine ⟨⟨o, e, ex.1⟩, fun a e2 => ?_⟩
      cases e2
      exact ⟨o, e, ex.2.1⟩
    · obtain ⟨o, _, _, _, e, ex, _⟩ := I.hok p _ hk
      refine ⟨⟨o, e, ex.1⟩, fun a e2 => ?_⟩
      cases e2
      exact ⟨o, e, ex.2.1⟩
  | _ => exact False.elim ty
def tBM (K : PySem.W.Frag) (T : String) (r : V → List V → Hp → VK → Prop) (to : TE) (t : TA) : TE := fun σ H Q => to σ H fun x H1 => tyV K T x H1 ∧ t σ H1 fun xs H2 => r x xs H2 Q
variable {o e : Expr} {es : List Expr} {to : TE} {t : TA} {name : Str} {apos cpos : Pos} {T id : String} {r : V → List V → Hp → VK → Prop}
theorem pe_bm (pa : PlainAttrs T) (slot : Slot T name id) (hty : typeOf (.builtin id) = pure (.type "method_descriptor")) (hm : MtR X id r) (ho : PE X o to) (ha : PA X (e :: es) t)
    (hbase : attributeBase o name X.env (eval o X.env) = eval o X.env := by rfl)
    (hfew : ((backTo cpos (starEach (e :: es) X.env)).all (fun x => !x.1) && (backToKw cpos (keywordEach [] X.env)).all (fun x => x.1.isSome)
      && decide ((e :: es).length + ([] : List Keyword).length + (if ([] : List Keyword).isEmpty then 0 else 1) < 30)) = true := by rfl)
    (hline : (apos.endLine == cpos.line) = true := by rfl) (hs : starEach (e :: es) X.env = (false, eval e X.env) :: starEach es X.env := by rfl) (hplain : (backTo cpos (starEach es X.env)).any (·.1) = false := by rfl) :
    PE X (.Call (.Attribute o name apos) (e :: es) [] cpos) (tBM X.K T r to t) := by
  intro pins s σ H Q I h
  refine wpAny_Call_method_late hbase hfew hline rfl (thn (ho pins s σ H _ I h) fun v s1 ⟨x, H1, I1, r1, ty, q1⟩ => ?_)
  obtain ⟨h1, h2⟩ := tyV_is I1 r1 ty
  refine ⟨T, id, pa, slot, hty, h1, h2, ?_⟩
  have hA := ha cpos pins s1 σ H1 _ I1 q1
  rw [hs] at hA ⊢
  refine Calls.callWith_builtin (by show (false || (backTo cpos (starEach es X.env)).any (·.1)) = false; rw [hplain] <;> rfl) (Calls.evalArgs_plain ?_)
  exact thn hA fun us s2 ⟨vs, H2, I2, r2, q2⟩ => hm pins s2 σ H2 x vs v us Q I2 r1 r2 q2
end
end L2
namespace L2
open PySem PySem.Spec PyProof.Rows
def MtM (X : Cx) (id : String) (r : V → List V → Hp → VK → Prop) : Prop :=
  ∀ (pins : List (Addr × Obj)) (s : Shared) (σ : St) (H : Hp) (x : V) (xs : List V) (v : Value) (us : List Value) (Q : VK), Inv X pins σ H s → RelV x v → Vals xs us → r x xs H Q →
    wpAny (model X.prog X.w) X.A (call (.builtin id) (v :: us)) (EP X pins σ Q) X.xe s
theorem Vals.one : ∀ {x : V} {us : List Value}, Vals [x] us → ∃ u, us = [u] ∧ RelV x u
  | _, _, .cons r .nil => ⟨_, rfl, r⟩
theorem Vals.two : ∀ {x y : V} {us : List Value}, Vals [x, y] us → ∃ u v, us = [u, v] ∧ RelV x u ∧ RelV y v
  | _, _, _, .cons r (.cons q .nil) => ⟨_, _, rfl, r, q⟩
theorem Vals.zero : ∀ {us : List Value}, Vals [] us → us = []
  | _, .nil => rfl
theorem Vals.rep {xs : List V} {us : List Value} (h : Vals xs us) : ∀ k : Nat, Vals (List.replicate k xs).flatten (List.replicate k us).flatten
  | 0 => .nil
  | k + 1 => by
    rw [List.replicate_succ, List.replicate_succ, List.flatten_cons, List.flatten_cons]
    exact Vals.append h (Vals.rep h k)
theorem foldl_rep (its : List Value) : ∀ (k : Nat) (acc : List Value),
    List.foldl (fun x1 x2 => x1 ++ x2) acc.toArray (List.replicate k its.toArray) = (acc ++ (List.replicate k its).flatten).toArray
  | 0, acc => by simp
  | k + 1, acc => by
    have e : acc.toArray ++ its.toArray = (acc ++ its).toArray := by simp
    have e2 : (acc ++ its) ++ (List.replicate k its).flatten = acc ++ (List.replicate (k + 1) its).flatten := by
      rw [List.replicate_succ, List.flatten_cons, List.append_assoc]
    rw [← e2, ← foldl_rep its k (acc ++ its), ← e, List.replicate_succ, List.foldl_cons]
section
variable {X : Cx} {pins : List (Addr × Obj)} {σ : St} {H : Hp} {s : Shared} {l b : Addr} {xs ys zs : List V}
theorem Inv.lset {its its' : List Value} {n : Nat} {f : Array Value → Array Value} {t' : Nat} (I : Inv X pins σ H s) (hH : H l = some (.lst xs))
    (e : s.heap.get? l = some { cls := .type "list", data := .seq its.toArray n }) (hf : f its.toArray = its'.toArray) (hv : Vals ys its') (hz : ys.length ≤ sizeLine) :
    Inv X pins σ (upd H l (.lst ys)) { s with heap := s.heap.update l (Obj.mapSeq f), toks := t' } := by
  have q := PySem.IsL.update e f
  rw [hf] at q
  refine I.write (x := l) (e := l) (by rw [hH]; exact trivial) (.inl rfl) (fun b' u hb hu => (Heap.get?_update_other s.heap (Obj.mapSeq f) (Ne.symm hb)).trans hu) ⟨_, q⟩ ?_
  exact ⟨hz, its', _, hv, q⟩
theorem Inv.lnew {its : List Value} {t' : Nat} (I : Inv X pins σ H s) (hv : Vals ys its) (hz : ys.length ≤ sizeLine) :
    Inv X pins σ (upd H s.heap.objs.size (.lst ys)) { s with heap := s.heap.push { cls := .type "list", data := .seq its.toArray }, toks := t' } :=
  I.laid (fun _ _ q => Heap.get?_push_of_some _ q) (Nat.le_refl _) ⟨hz, its, 0, hv, Heap.get?_push_size _ rfl⟩
theorem Inv.fresh (I : Inv X pins σ H s) : H s.heap.objs.size = none := I.hok.fresh (Nat.le_refl _)
theorem Inv.lstM (I : Inv X pins σ H s) (hH : H l = some (.lst xs)) : xs.length ≤ sizeLine ∧ ∃ (its : List Value) (n : Nat), Vals xs its ∧ xs.length = its.length ∧ s.heap.get? l = some { cls := .type "list", data := .seq its.toArray n } := by
  obtain ⟨z, its, n, r, e⟩ := I.hok l _ hH
  exact ⟨z, its, n, r, r.length, e⟩
theorem notLongL {n : Nat} (h : n ≤ sizeLine) : Builtin.List.listTooLong n = false := by
  unfold Builtin.List.listTooLong
  exact decide_eq_false (by omega)
end
section
variable {X : Cx}
def rAppend : V → List V → Hp → VK → Prop := fun x vs H Q => ∃ l xs y, x = .ref l ∧ vs = [y] ∧ H l = some (.lst xs) ∧ xs.length < sizeLine ∧ Q .non (upd H l (.lst (xs ++ [y])))
theorem mt_append : MtM X "list.append" rAppend := by
  intro pins s σ H x vs v us Q I rx rv h
  obtain ⟨l, xs, y, rfl, rfl, hH, hz, q⟩ := h
  cases rx
  obtain ⟨u, rfl, ru⟩ := rv.one
  obtain ⟨z, its, n, r, hl, e⟩ := I.lstM hH
  refine call_meets F.slot_list_append ⟨_, e, rfl⟩ F.entry_list_append (F.args_list_append_2 _ _) (PySem.list_append l its.toArray n u (by rw [List.size_toArray]; omega)) ⟨e, ?_⟩
  refine ⟨.non, _, I.lset (its' := its ++ [u]) hH e (by simp) (r.append (.cons ru .nil)) ?_, rfl, q⟩
  rw [List.length_append, List.length_singleton]
  omega
def rRep : R2 := fun x y H Q => ∃ l k xs, x = .ref l ∧ y = .int k ∧ H l = some (.lst xs) ∧ -(2 ^ 63) ≤ k ∧ k < 2 ^ 63 ∧ xs.length * k.toNat ≤ sizeLine ∧
  ∀ p, H p = none → Q (.ref p) (upd H p (.lst (List.replicate k.toNat xs).flatten))
theorem len_rep {α : Type} (xs : List α) (k : Nat) : (List.replicate k xs).flatten.length = k * xs.length := by
  induction k with
  | zero => simp
  | succ k ih => rw [List.replicate_succ, List.flatten_cons, List.length_append, ih, Nat.succ_mul, Nat.add_comm]
theorem op_rep : OpR X (binaryOp .Mult) rRep := by
  intro pins s σ H x y v u Q I rx ry h
  obtain ⟨l, k, xs, rfl, rfl, hH, h1, h2, hz, q⟩ := h
  cases rx
  obtain ⟨t, rfl⟩ := ry
  obtain ⟨z, its, n, r, hl, e⟩ := I.lstM hH
  have hlen : its.toArray.size * k.toNat ≤ sizeLine := by rw [List.size_toArray, ← hl]; exact hz
  have hcap : ¬ its.toArray.size * k.toNat > (2 ^ 63 - 1) / 8 := by
    have : (sizeLine : Nat) ≤ (2 ^ 63 - 1) / 8 := by decide
    omega
  have hfit : ¬ (!Builtin.List.listFitsIndex k) = true := by
    rw [fitsIndex_both h1 h2]
    exact Bool.false_ne_true
  have hlong : ¬ Builtin.List.listTooLong (its.toArray.size * k.toNat) = true := by
    rw [notLongL hlen]
    exact Bool.false_ne_true
  have hnew : List.foldl (fun x1 x2 => x1 ++ x2) #[] (List.replicate (if its.toArray.isEmpty = true then 0 else k.toNat) its.toArray) = (List.replicate k.toNat its).flatten.toArray := by
    have f0 : ∀ m : Nat, List.foldl (fun x1 x2 => x1 ++ x2) #[] (List.replicate m its.toArray) = (List.replicate m its).flatten.toArray := fun m => by
      have := foldl_rep its m []
      rw [List.nil_append] at this
      exact this
    rw [f0]
    cases its with
    | nil => simp
    | cons a r' => rw [if_neg (by simp)]
  refine wpAny_binaryOp_repeat_ref (T := "list") (U := "int") (by decide) ⟨_, e, rfl⟩ (fun s' => typeIs_int s' k t) noFill_list_mul F.fills_int_mul F.slot_int_rmul repeat_list F.slot_int_index.lookup
    (call_meets F.slot_int_rmul (typeIs_int s k t) F.entry_int_rmul (F.args_int_rmul_2 _ _) (int___rmul___int_list k t l its.toArray n)
      ⟨e, rfl, ⟨_, e, rfl⟩, call_meets F.slot_list_mul ⟨_, e, rfl⟩ F.entry_list_mul (F.args_list_mul_2 _ _) (AutoListH.list___mul___list_int_3 l its.toArray n k t hfit hcap hlong) ⟨e, ?_⟩⟩)
  rw [hnew]
  exact ⟨.ref _, _, I.lnew (t' := s.toks) (r.rep k.toNat) (by rw [len_rep, Nat.mul_comm]; exact hz), rfl, q _ I.fresh⟩
end
end L2
namespace Att
open PySem PySem.W PySem.Calls PyProof.Rows
theorem ints_of_wellAll {P : Params} {h : Heap} : ∀ (ns : List Int) (vs : List Value), WellAll P h vs (ns.map WData.int) → IntsAre vs ns := by
  intro ns
  induction ns with
  | nil =>
    intro vs w
    rw [List.map_nil] at w
    cases w
    exact .nil
  | cons n ns ih =>
    intro vs w
    rw [List.map_cons] at w
    cases w with
    | cons a b =>
      cases a
      exact .cons _ _ (ih _ b)
theorem script_of {l : OpenLaw} {n : Nat} (hn : l.most = some n) {P : Params} {h : Heap} {args : List WData} {vals : List Value}
    (hpre : l.row.toRowW.claim.pre args = true) (hwl : WellAll P h vals args) :
    ∃ a vs ns, vals = [Value.ref a] ∧ args = [WData.list (ns.map WData.int)] ∧ h.get? a = some { cls := .type "list", data := .seq vs.toArray } ∧ IntsAre vs ns ∧ ns.length ≤ n := by
  have hsh : WShape.hasAll [] args [.list .int] = true := (pre_splitW hpre).1
  have hc : l.pre.holds [] { args := args } = true := (pre_splitW hpre).2
  obtain ⟨d, r, rfl, h1, h2⟩ := hasAllW_cons hsh
  obtain rfl := hasAllW_nil h2
  obtain ⟨xs, rfl, h3⟩ := hasW_list h1
  obtain ⟨ns, rfl⟩ := items_int h3
  have hlen : ns.length ≤ n := by
    unfold OpenLaw.pre at hc
    have h4 : (WTm.not (.lt (.lit (.int (n : Int))) (.len (.arg 0)))).holds [] { args := [.list (ns.map .int)] } = true := by
      have h4 := (holds_andW hc).1
      rw [hn] at h4
      exact h4
    have h5 := condW_of h4 (w_not (w_lt w_lit (w_len_list (w_arg rfl))))
    rw [List.length_map] at h5
    refine Nat.le_of_not_lt fun q => ?_
    have q' : (n : Int) < ((ns.length : Nat) : Int) := by omega
    first
      | (rw [decide_eq_true q'] at h5; exact absurd h5 (by decide))
      | (simp at h5; omega)
  cases hwl with
  | cons w1 w2 =>
    cases w2
    cases w1 with
    | list ho hall => exact ⟨_, _, ns, rfl, rfl, ho, ints_of_wellAll ns _ hall, hlen⟩
theorem post_true (l : OpenLaw) (args : List WData) : l.row.toRowW.claim.post args (.bool true) args = true :=
  postW_of (r := l.row.toRowW) (X := (true == true))
    (show WShape.has [] (.bool true) .bool = true by first | rfl | decide | simp [WShape.has, WShape.arms, WShape.armsAll])
    (show (WTm.eq .res (.lit (.bool true))).value [] { args := args, res := some (.bool true), after := args } = some (.bool (true == true)) from w_eq_bool (w_res rfl) w_lit) rfl
end Att
namespace L2
open PySem PySem.Spec PyProof.Rows
section
variable {κ : Type} [DecidableEq κ]
def valV (kvs : List (κ × V)) (k : κ) : Option V := (kvs.find? fun kv => decide (kv.1 = k)).map (·.2)
def putK (kvs : List (κ × V)) (k : κ) (v : V) : List (κ × V) :=
  if (kvs.any fun kv => decide (kv.1 = k)) = true then kvs.map (fun kv => if kv.1 = k then (kv.1, v) else kv) else kvs ++ [(k, v)]
def dropK (kvs : List (κ × V)) (k : κ) : List (κ × V) := kvs.filter fun kv => decide (kv.1 ≠ k)
theorem RelO.getD {o : Option V} {u : Option Value} {d : V} {d' : Value} (r : RelO o u) (rd : RelV d d') : RelV (o.getD d) (u.getD d') := by
  cases o with
  | none => cases u with
    | none => exact rd
    | some _ => exact (show False from r).elim
  | some _ => cases u with
    | none => exact (show False from r).elim
    | some _ => exact r
theorem KV.any {kvs : List (κ × V)} {vs : List (κ × Value)} (r : KV kvs vs) (k : κ) : (kvs.any fun kv => decide (kv.1 = k)) = vs.any fun kv => decide (kv.1 = k) := by
  unfold KV at r
  induction r with
  | nil => rfl
  | cons h t ih => rw [List.any_cons, List.any_cons, ih, h.1]
theorem KV.drop {kvs : List (κ × V)} {vs : List (κ × Value)} (r : KV kvs vs) (k : κ) : KV (dropK kvs k) (without vs k) := by
  unfold KV at r ⊢
  unfold dropK without
  induction r with
  | nil => exact .nil
  | @cons p q ps qs h t ih =>
    obtain ⟨h1, h2⟩ := h
    rw [List.filter_cons, List.filter_cons]
    by_cases e : p.1 = k
    · have a : ¬ decide (p.1 ≠ k) = true := by simp [e]
      have b : ¬ decide (q.1 ≠ k) = true := by simp [h1.symm.trans e]
      rw [if_neg a, if_neg b]; exact ih
    · have e' : ¬ q.1 = k := fun z => e (h1.trans z)
      have a : decide (p.1 ≠ k) = true := by simp [e]
      have b : decide (q.1 ≠ k) = true := by simp [e']
      rw [if_pos a, if_pos b]; exact .cons ⟨h1, h2⟩ ih
theorem KV.keys {kvs : List (κ × V)} {vs : List (κ × Value)} (r : KV kvs vs) : kvs.map (·.1) = vs.map (·.1) := by
  unfold KV at r
  induction r with
  | nil => rfl
  | cons h t ih => rw [List.map_cons, List.map_cons, ih, h.1]
theorem KV.length {kvs : List (κ × V)} {vs : List (κ × Value)} (r : KV kvs vs) : kvs.length = vs.length := Paired.length r
end
abbrev KT (H : Hp) : List (List Key × V) → List (List Key × Addr × Value) → Prop := Paired fun p q => p.1 = q.1 ∧ H q.2.1 = some (.tup (p.1.map kV)) ∧ RelV p.2 q.2.2
theorem KT.keeps {H H' : Hp} {kvs : List (List Key × V)} {xs : List (List Key × Addr × Value)} (r : KT H kvs xs) (ht : ∀ b ys, H b = some (.tup ys) → H' b = some (.tup ys)) : KT H' kvs xs :=
  Paired.mapP r fun _ _ z => ⟨z.1, ht _ _ z.2.1, z.2.2⟩
def DGet (H : Hp) (a : Addr) (y : V) (r : Option V) : Prop :=
  (∃ kvs k, Rd H a (.dK kvs) ∧ y = kV k ∧ r = valV kvs k) ∨ ∃ kvs k b, Rd H a (.dT kvs) ∧ y = .ref b ∧ H b = some (.tup (k.map kV)) ∧ r = valV kvs k
def DPut (H : Hp) (a : Addr) (y v : V) (H' : Hp) : Prop :=
  (∃ kvs k, H a = some (.dK kvs) ∧ y = kV k ∧ kvs.length < sizeLine ∧ H' = upd H a (.dK (putK kvs k v))) ∨
  ∃ kvs k b, H a = some (.dT kvs) ∧ y = .ref b ∧ H b = some (.tup (k.map kV)) ∧ kvs.length < sizeLine ∧ H' = upd H a (.dT (putK kvs k v))
theorem DGet.k {H : Hp} {a : Addr} {kvs : List (Key × V)} {k : Key} (e : H a = some (.dK kvs)) : DGet H a (kV k) (valV kvs k) := .inl ⟨kvs, k, .inl e, rfl, rfl⟩
theorem DGet.t {H : Hp} {a b : Addr} {kvs : List (List Key × V)} {k : List Key} (e : H a = some (.dT kvs)) (eb : H b = some (.tup (k.map kV))) : DGet H a (.ref b) (valV kvs k) := .inr ⟨kvs, k, b, .inl e, rfl, eb, rfl⟩
theorem DPut.k {H : Hp} {a : Addr} {kvs : List (Key × V)} {k : Key} {v : V} (e : H a = some (.dK kvs)) (hl : kvs.length < sizeLine) : DPut H a (kV k) v (upd H a (.dK (putK kvs k v))) := .inl ⟨kvs, k, e, rfl, hl, rfl⟩
theorem DPut.t {H : Hp} {a b : Addr} {kvs : List (List Key × V)} {k : List Key} {v : V} (e : H a = some (.dT kvs)) (eb : H b = some (.tup (k.map kV))) (hl : kvs.length < sizeLine) :
    DPut H a (.ref b) v (upd H a (.dT (putK kvs k v))) := .inr ⟨kvs, k, b, e, rfl, eb, hl, rfl⟩
section
variable {X : Cx} {pins : List (Addr × Obj)} {σ : St} {H : Hp} {s : Shared} {a : Addr} {y v : V} {u r : Value} {o : Option V} {A : Around} {E : Value → Shared → Prop}
theorem Inv.big (I : Inv X pins σ H s) : sysModules < s.heap.objs.size := by
  have h : mainGlobals < s.heap.objs.size := (I.mod.glob.keeps I.bk).lt
  exact Nat.lt_trans (by decide) h
end
structure M2 (X : Cx) (o : Expr) (m : Str) (apos : Pos) (e f : Expr) (cpos : Pos) : Prop where
  base : attributeBase o m X.env (eval o X.env) = eval o X.env
  few : ((backTo cpos (starEach [e, f] X.env)).all (fun x => !x.1) && (backToKw cpos (keywordEach [] X.env)).all (fun x => x.1.isSome)
    && decide (([e, f] : List Expr).length + ([] : List Keyword).length + (if ([] : List Keyword).isEmpty then 0 else 1) < 30)) = true
  line : (apos.endLine == cpos.line) = true
  trees : backTo cpos (starEach [e, f] X.env) = [(false, eval e X.env), (false, eval f X.env)]
end L2
namespace L2
open PySem PySem.Spec PyProof.Rows
theorem vals_ints : ∀ {vs : List Value} {ns : List Int}, IntsAre vs ns → Vals (ns.map V.int) vs
  | _, _, .nil => .nil
  | _, _, .cons n t h => .cons ⟨t, rfl⟩ (vals_ints h)
def Only (H : Hp) : Prop := ∀ b, H b = none ∨ ∃ o xs, H b = some (.frz o (.lst xs))
theorem law_call {P : Program} {w : World} {K : PySem.W.Frag} {mg mb : Str → Option Value} {CX : CXT} {k : Nat} {fa a : Addr} {fd : FuncData} {x : Str} {sp : Sp} {s₁ : Shared} {vs : List Value} {ns : List Int}
    (KX : K.In s₁.heap) (hns : s₁.heap.Ns mainGlobals mg) (hb : s₁.heap.Ns builtinsNs mb) (hbb : ∀ x : Str, x ≠ "__name__" → mb x = bootBuiltins x) (hlim : s₁.heap.NoLimit) (hg : s₁.gens = #[])
    (ha : s₁.heap.get? a = some { cls := .type "list", data := .seq vs.toArray }) (hi : IntsAre vs ns) (hl : ns.length ≤ sizeLine) (hr : Room k callerA)
    (F : ∀ base : Heap, K.In base → base.Ns mainGlobals mg → FnOk P w K mg base CX k fa fd [x] sp) (hbind : ∀ (s : Shared) (u : Value), BindsTo s fd ⟨[u], []⟩ [(x, u)])
    (hsp : ∀ H : Hp, Only H → SqL K H a (ns.map V.int) → sp [.ref a] H (fun v _ => v = .bl true) fun _ _ _ => False)
    (hCX : ∀ H e s', CX [] H s₁ (fun _ _ _ => False) e s' → False) :
    codeAny (model P w) callerA (.call (.ref fa) ⟨[.ref a], []⟩) (fun r s' => r = .ok (.ret (.bool true)) ∧ OldK s₁.heap s'.heap ∧ s'.os = s₁.os ∧ AllBare s'.gens) s₁ := by
  have rv := vals_ints hi
  have lenV := hi.length
  -- from an abstract heap in which nothing but the script may be tracked
  have core : ∀ H : Hp, Only H → SqL K H a (ns.map V.int) → HOk P w H s₁.heap → (∀ b, H b ≠ none → b = a) → (H a ≠ none → K.lookup a = none) →
      codeAny (model P w) callerA (.call (.ref fa) ⟨[.ref a], []⟩) (fun r s' => r = .ok (.ret (.bool true)) ∧ OldK s₁.heap s'.heap ∧ s'.os = s₁.os ∧ AllBare s'.gens) s₁ := by
    intro H hO hS hok hA hK
    have base_of : ∀ {b : Addr} {o : Obj}, s₁.heap.get? b = some o → H b = none → (hidT s₁.heap H).get? b = some o := fun e n => hidT_get e n
    have noA : ∀ {b : Addr} {o : Obj} {es : Array DictEntry} {ep : Nat}, s₁.heap.get? b = some o → o.data = .dict es ep → H b = none := fun {b o es ep} e d => by
      cases q : H b with
      | none => rfl
      | some u =>
        have e' : b = a := hA b (by rw [q]; simp)
        subst e'
        rw [ha] at e; cases e
        have d' : Data.seq vs.toArray _ = Data.dict es ep := d
        cases d'
    have nsK : ∀ {b : Addr} {m : Str → Option Value}, s₁.heap.Ns b m → (hidT s₁.heap H).Ns b m := fun {b m} ⟨o, es, ep, e, d, r⟩ => ⟨o, es, ep, base_of e (noA e d), d, r⟩
    have hKb : K.In (hidT s₁.heap H) := fun b o e => base_of (KX b o e) (by
      cases q : H b with
      | none => rfl
      | some u =>
        have e' : b = a := hA b (by rw [q]; simp)
        subst e'
        rw [hK (by rw [q]; simp)] at e; cases e)
    have hM : Mod K mg (hidT s₁.heap H) := ⟨hKb, nsK hns, ⟨mb, nsK hb, hbb⟩, let ⟨mc, h1, h2⟩ := hlim; ⟨mc, nsK h1, h2⟩⟩
    have e0 : Env0 P w K mg (hidT s₁.heap H) callerA [] s₁ H := ⟨rfl, hM, fun b o e => of_hidT e, Nat.le_of_eq (hidT_size _ _), trivial, fun b hb => absurd (show b ∈ ([] : List Addr) from hb) (by simp), hok, .of_eq hg⟩
    refine codeAny_mono ((F _ hKb (nsK hns)).run callerA [] s₁ H ⟨[.ref a], []⟩ [.ref a] [.ref a] _ _ hr e0 (hbind s₁ (.ref a)) (.cons rfl .nil) (hsp H hO hS)) fun r s' h => ?_
    cases r with
    | error e => exact (hCX H e s' h).elim
    | ok fl =>
      cases fl with
      | next => exact False.elim h
      | brk => exact False.elim h
      | cont => exact False.elim h
      | ret u =>
        obtain ⟨v, H', os, bare, un, hok', r', q⟩ := h
        have q' : v = .bl true := q
        subst q'
        obtain rfl : u = Value.bool true := r'
        refine ⟨rfl, OldK.of_keep fun b o e => ?_, os, bare⟩
        cases q : H b with
        | none => exact un.keep b o e q (by intro z; exact absurd (show b ∈ ([] : List Addr) from z) (by simp)) (by simp)
        | some u =>
          rcases hO b with z | ⟨ob, xs, z⟩
          · rw [q] at z; cases z
          · have z2 := un.frzs b ob _ z
            obtain ⟨e1, _⟩ := hok b _ z
            obtain ⟨e2, _⟩ := hok' b _ z2
            rw [e] at e1; cases e1
            exact e2
  cases hk : K.lookup a with
  | some o =>
    -- the script is one of the module's own objects
    have e := KX a o hk
    rw [ha] at e
    cases e
    refine core (fun _ => none) (fun _ => .inl rfl) (.inr ⟨_, vs.toArray, _, hk, rfl, rfl, rfl, by rw [List.size_toArray, lenV]; exact hl, by simpa using rv⟩) (fun b u z => by have z' : (none : Option HO) = some u := z; cases z') (fun b z => absurd rfl z) fun z => absurd rfl z
  | none =>
    refine core (fun b => if b = a then some (.frz { cls := .type "list", data := .seq vs.toArray } (.lst (ns.map V.int))) else none) (fun b => ?_) (.inl (.inr ⟨{ cls := .type "list", data := .seq vs.toArray }, if_pos rfl⟩)) (fun b u z => ?_) (fun b z => ?_) fun _ => hk
    · by_cases hb : b = a
      · exact .inr ⟨_, _, if_pos hb⟩
      · exact .inl (if_neg hb)
    · by_cases hb : b = a
      · have z' := (if_pos hb).symm.trans z
        cases z'
        subst hb
        exact ⟨ha, by rw [List.length_map]; exact hl, vs, _, rv, ha⟩
      · have z' := (if_neg hb).symm.trans z
        cases z'
    · by_cases hb : b = a
      · exact hb
      · exact absurd (if_neg hb) z
end L2
namespace L2
open PySem PySem.Spec PyProof.Rows
def defArgs (s : Stmt) : Arguments := match s with
  | .FunctionDef _ a _ _ _ _ _ _ _ _ => a
  | _ => { posonlyargs := [], args := [], vararg := none, kwonlyargs := [], kw_defaults := [], kwarg := none, defaults := [] }
def defBody (s : Stmt) : List Stmt := match s with
  | .FunctionDef _ _ b _ _ _ _ _ _ _ => b
  | _ => []
def defScope (s : Stmt) : Scope := match s with
  | .FunctionDef _ _ _ _ _ _ sc _ _ _ => sc
  | _ => { kind := .function, names := [], isGenerator := false, isCoroutine := false }
abbrev CX0 : CXT := fun _ _ _ _ _ _ => False
abbrev E0 : XK := fun _ _ _ => False
theorem pass0 {X : Cx} : Passes CX0 X E0 := fun _ _ _ _ _ _ _ h => h.elim
structure Fun (K : PySem.W.Frag) (x qual : Str) (st : Stmt) (f : Addr) (fd : FuncData) : Prop where
  ex : ∃ (oc : Value) (od : Option Addr) (kV doc pm : Value) (an : Option Addr) (cdv ct : Value) (osl : Array (Option Value)),
    fd = PySem.W.fnOf x qual (defArgs st) (defBody st) (defScope st) .none kV doc pm an cdv ct ∧ K.lookup f = some ⟨oc, od, .func fd, osl⟩ ∧ PySem.W.codeIn K cdv qual = true
  kp : PySem.W.keepIn K (.ref f) = true
section
variable {P : Program} {w : World} {K : PySem.W.Frag} {mg : Str → Option Value} {base : Heap}
theorem Fun.ok {x qual : Str} {st : Stmt} {f : Addr} {fd : FuncData} {N ps : List Str} {k : Nat} {sp : Sp} (F : Fun K x qual st f fd) (S : FnScope N ps (defScope st)) (len : ∀ vs H Q E, sp vs H Q E → vs.length = ps.length)
    (hbody : ∀ (cdv : Value) (A : Around) (outer : List Env) (s : Shared) (H : Hp) (vs : List V) (Q : VK) (E : XK), Room k (A.deeper (envOfC qual (defScope st) s.heap.objs.size f cdv)) → sp vs H Q E →
      ∃ t, PSs (cxOf CX0 P w K mg base N qual (defScope st) f cdv A outer s H E).nox (defBody st) t ∧ t { nx := fun _ H' => Q .non H', rt := Q } (start N vs) H) : FnOk P w K mg base CX0 (k + 1) f fd ps sp := by
  obtain ⟨oc, od, kV, doc, pm, an, cdv, ct, osl, rfl, lk, hcd⟩ := F.ex
  refine fn_of lk hcd S len fun A outer s H vs Q E hr hsp => ?_
  obtain ⟨t, h, q⟩ := hbody cdv A outer s H vs Q E hr hsp
  exact ⟨t, h.nox, q⟩
theorem Fun.binds {x qual : Str} {st : Stmt} {f : Addr} {fd : FuncData} {ps : List Str} (F : Fun K x qual st f fd)
    (h : ∀ (kV doc pm : Value) (an : Option Addr) (cdv ct : Value) (us : List Value), us.length = ps.length → bindArgs (PySem.W.fnOf x qual (defArgs st) (defBody st) (defScope st) .none kV doc pm an cdv ct) ⟨us, []⟩ = pure (ps.zip us)) : Binds K fd ps [] := by
  obtain ⟨oc, od, kV, doc, pm, an, cdv, ct, osl, rfl, lk, hcd⟩ := F.ex
  exact .all (h kV doc pm an cdv ct)
theorem fun_mk {x qual : Str} {st : Stmt} {f : Addr} {oc : Value} {od an : Option Addr} {osl : Array (Option Value)} {kV doc pm cdv ct : Value} (l : K.lookup f = some ⟨oc, od, .func (PySem.W.fnOf x qual (defArgs st) (defBody st) (defScope st) .none kV doc pm an cdv ct), osl⟩)
    (c : PySem.W.codeIn K cdv qual = true) (k : PySem.W.keepIn K (.ref f) = true) : Fun K x qual st f (PySem.W.fnOf x qual (defArgs st) (defBody st) (defScope st) .none kV doc pm an cdv ct) := ⟨⟨oc, od, kV, doc, pm, an, cdv, ct, osl, rfl, l, c⟩, k⟩
end
section
variable {X : Cx}
theorem pv (i : Nat) {x : Str} {pos : Pos} (hN : X.N[i]? = some x := by rfl) (hv : Vis X.env.scope x := by first | exact Or.inl rfl | exact Or.inr (Or.inl rfl) | exact Or.inr (Or.inr rfl)) (hd : (x == ("__debug__" : Str)) = false := by decide)
    (hcd : (x == ("__classdict__" : Str)) = false := by decide) : PE X (.Name x pos) (tVar i) := pe_var hN hv hd hcd
end
theorem iteF {A B : Prop} (h : B) : if false = true then A else B := by
  rw [if_neg Bool.false_ne_true]
  exact h
theorem iteT {A B : Prop} (h : A) : if true = true then A else B := by
  rw [if_pos rfl]
  exact h
def Same (H H' : Hp) : Prop := ∀ b o, H b = some o → H' b = some o
theorem Same.refl (H : Hp) : Same H H := fun _ _ h => h
theorem Same.trans {H H1 H2 : Hp} (a : Same H H1) (b : Same H1 H2) : Same H H2 := fun c o h => b c o (a c o h)
theorem Same.free {H H' : Hp} (e : Same H H') {l : Addr} (h : H' l = Option.none) : H l = Option.none := by
  cases q : H l with
  | none => rfl
  | some o =>
    rw [e l o q] at h
    cases h
theorem Same.seq {K : PySem.W.Frag} {H H' : Hp} {a : Addr} {xs : List V} (e : Same H H') (h : SqL K H a xs) : SqL K H' a xs := by
  rcases h with (h | ⟨o, h⟩) | h
  · exact .inl (.inl (e _ _ h))
  · exact .inl (.inr ⟨o, e _ _ h⟩)
  · exact .inr h
end L2
set_option Elab.async false
set_option linter.all false
set_option maxRecDepth 100000
set_option maxHeartbeats 4000000
namespace L2
open PySem PySem.Spec PyProof.Rows
def closG (cells : List (Str × Addr)) : List (Str × NameKind) → List (Str × Addr) → List (Str × Addr)
  | [], acc => acc
  | (n, k) :: r, acc => closG cells r (if (k == NameKind.free) = true then (n, (cells.lookup n).getD 0) :: acc else acc)
theorem closureFor_go {env : Env} : ∀ (names : List (Str × NameKind)) (acc : List (Str × Addr)), (∀ y ∈ names, y.2 = .free → (env.cells.lookup y.1).isSome = true) →
    (forIn (m := Sem) names acc fun (x : Str × NameKind) (cs : List (Str × Addr)) => 
      match x with
      | (name, kind) => if (kind == NameKind.free) = true then do
          let c ← cellOf env name
          pure (ForInStep.yield ((name, c) :: cs))
        else pure (ForInStep.yield cs)) = pure (closG env.cells names acc)
  | [], acc, _ => rfl
  | (n, k) :: r, acc, h => by
    rw [List.forIn_cons]
    have ih := fun acc' => closureFor_go r acc' fun y hy => h y (List.mem_cons_of_mem _ hy)
    cases hk : (k == NameKind.free) with
    | true =>
      have hs := h (n, k) List.mem_cons_self (by simpa using hk)
      obtain ⟨c, hc⟩ := Option.isSome_iff_exists.mp hs
      have hc : env.cells.lookup n = some c := hc
      have e1 : cellOf env n = pure c := by unfold cellOf; rw [hc]
      dsimp only
      rw [hk, if_pos rfl, e1]
      refine Eq.trans (ih ((n, c) :: acc)) ?_
      show _ = pure (closG env.cells r (if (k == NameKind.free) = true then (n, (env.cells.lookup n).getD 0) :: acc else acc))
      rw [if_pos hk, hc]
      rfl
    | false =>
      dsimp only
      rw [hk, if_neg Bool.false_ne_true]
      refine Eq.trans (ih acc) ?_
      show _ = pure (closG env.cells r (if (k == NameKind.free) = true then (n, (env.cells.lookup n).getD 0) :: acc else acc))
      rw [if_neg (by rw [hk]; exact Bool.false_ne_true)]
theorem closureFor_is {scope : Scope} {env : Env} (h : ∀ y ∈ scope.names, y.2 = .free → (env.cells.lookup y.1).isSome = true) : closureFor scope env = pure (closG env.cells scope.names []) := by
  have e := closureFor_go (env := env) scope.names [] h
  unfold closureFor
  dsimp only
  rw [e]
  rfl
theorem closG_sub {cells : List (Str × Addr)} {x : Str} {c : Addr} : ∀ (names : List (Str × NameKind)) (acc : List (Str × Addr)), (∀ y ∈ names, y.2 = .free → (cells.lookup y.1).isSome = true) → (acc.lookup x = some c → cells.lookup x = some c) →
    (closG cells names acc).lookup x = some c → cells.lookup x = some c
  | [], _, _, h, e => h e
  | (n, k) :: r, acc, hf, h, e => by
    refine closG_sub r _ (fun y hy => hf y (List.mem_cons_of_mem _ hy)) ?_ e
    intro q
    by_cases hk : (k == NameKind.free) = true
    · rw [if_pos hk, List.lookup_cons] at q
      cases hx : x == n with
      | true =>
        rw [hx] at q
        have exn : x = n := by simpa using hx
        obtain ⟨d, hd⟩ := Option.isSome_iff_exists.mp (hf (n, k) List.mem_cons_self (by simpa using hk))
        have hd : cells.lookup n = some d := hd
        rw [hd] at q
        rw [exn, hd]; exact q
      | false => rw [hx] at q; exact h q
    · rw [if_neg hk] at q; exact h q
theorem closG_keep {cells : List (Str × Addr)} {x : Str} : ∀ (names : List (Str × NameKind)) (acc : List (Str × Addr)), (acc.lookup x).isSome = true → ((closG cells names acc).lookup x).isSome = true
  | [], _, h => h
  | (n, k) :: r, acc, h => by
    refine closG_keep r _ ?_
    split
    · rw [List.lookup_cons]; split <;> simp_all
    · exact h
theorem closG_has {cells : List (Str × Addr)} {x : Str} : ∀ (names : List (Str × NameKind)) (acc : List (Str × Addr)), (x, NameKind.free) ∈ names → ((closG cells names acc).lookup x).isSome = true
  | (n, k) :: r, acc, h => by
    rcases List.mem_cons.mp h with e | h
    · cases e
      refine closG_keep r _ ?_
      rw [if_pos (by decide), List.lookup_cons]
      simp
    · exact closG_has r _ h
structure CompScope (N : List Str) (around scope : Scope) (own fr : List Str) (ix : List Nat) : Prop where
  kind : scope.kind = .function
  nocell : ∀ y ∈ scope.names, y.2 ≠ .cell
  names : ∀ y ∈ scope.names, y.2 = .local → scope.names.lookup y.1 = some .local
  frees : ∀ y ∈ scope.names, y.2 = .free → (around.names.lookup y.1 = some .cell ∨ around.names.lookup y.1 = some .free)
  slots : fr.map some = ix.map (fun i => N[i]?)
  outs : ∀ x ∈ fr, (x, NameKind.free) ∈ scope.names
  apart : ∀ x ∈ fr, scope.names.lookup x ≠ some .local
def cxComp (X : Cx) (N' : List Str) (scope : Scope) (cl : List (Str × Addr)) (C : Addr) (s : Shared) (H : Hp) (ex : List Addr) : Cx :=
  { X with N := N', s₀ := s, H₀ := H, env := compEnvC scope cl C X.env, outer := X.stack, ex := ex, fn := fun _ => false, pn := [], xe := fun _ _ => False }
def stComp (n : Nat) (ix : List Nat) (σ : St) : St := List.replicate n none ++ ix.map (fun i => (σ[i]?).join)
theorem relabel_look {env : Env} {x : Str} : ∀ {names : List (Str × NameKind)} {k : NameKind}, names.lookup x = some k →
    (names.map fun (n, k) => if (k == NameKind.free && env.scope.kind == .function && env.kindOf n == some .cell) then (n, NameKind.cell) else (n, k)).lookup x =
      some (if (k == NameKind.free && env.scope.kind == .function && env.kindOf x == some .cell) = true then NameKind.cell else k)
  | [], _, h => by simp at h
  | (n, k') :: r, k, h => by
    show List.lookup x ((if (k' == NameKind.free && env.scope.kind == .function && env.kindOf n == some .cell) = true then (n, NameKind.cell) else (n, k')) :: _) = _
    cases hx : x == n with
    | true =>
      simp only [List.lookup_cons, hx] at h
      cases h
      have e : x = n := by simpa using hx
      subst e
      split
      · simp [List.lookup_cons]
      · simp [List.lookup_cons]
    | false =>
      simp only [List.lookup_cons, hx] at h
      split
      · simp only [List.lookup_cons, hx]; exact relabel_look h
      · simp only [List.lookup_cons, hx]; exact relabel_look h
theorem relabel_back {env : Env} {x : Str} : ∀ {names : List (Str × NameKind)} {k' : NameKind},
    (names.map fun (n, k) => if (k == NameKind.free && env.scope.kind == .function && env.kindOf n == some .cell) then (n, NameKind.cell) else (n, k)).lookup x = some k' → ∃ k, names.lookup x = some k
  | [], _, h => by simp at h
  | (n, k0) :: r, k', h => by
    have h : List.lookup x ((if (k0 == NameKind.free && env.scope.kind == .function && env.kindOf n == some .cell) = true then (n, NameKind.cell) else (n, k0)) :: _) = some k' := h
    cases hx : x == n with
    | true => exact ⟨k0, by simp [List.lookup_cons, hx]⟩
    | false =>
      have : ∃ k, r.lookup x = some k := by
        apply relabel_back (env := env) (k' := k')
        split at h <;> simpa [List.lookup_cons, hx] using h
      obtain ⟨k, e⟩ := this
      exact ⟨k, by simp [List.lookup_cons, hx, e]⟩
section
variable {X : Cx} {pins : List (Addr × Obj)} {σ : St} {H : Hp} {s : Shared} {own fr : List Str} {ix : List Nat} {scope : Scope}
theorem CompScope.clos (S : CompScope X.N X.env.scope scope own fr ix) (I : Inv X pins σ H s) : ∀ y ∈ scope.names, y.2 = .free → (X.env.cells.lookup y.1).isSome = true := fun y hy hf => by
  obtain ⟨c, e⟩ := I.ok.has y.1 (S.frees y hy hf)
  rw [e]; rfl
end
theorem compLoop_own {prog : Program} {w : World} {A : Around} {R : Result → Shared → Prop} {s : Shared} {elt target iter : Expr} {ifs : List Expr} {scope : Scope} {pos : Pos} {it acc : Value} {env : Env} (I : Nat → Shared → Prop)
    (turn : ∀ n s, I n s → wpAny (model prog w) A (pyNext it) (fun r s₁ => match r with
      | none => R (.ok .next) s₁
      | some v => wpAny (model prog w) A (letOwnedTupleGo target it v) (fun _ s₁' => wpAny (model prog w) A (assign target env v) (fun _ s₂ =>
          wpAny (model prog w) A (forIn ifs true fun c r => if r = true then do let ok ← isTrue c env (eval c env); pure (ForInStep.yield ok) else pure (ForInStep.yield r)) (fun ok s₃ =>
            if ok = true then wpAny (model prog w) A (eval elt env) (fun x s₄ =>
              wpAny (model prog w) A (call (.builtin "list.append") [acc, x]) (fun _ s₅ => ∃ m, m < n ∧ I m s₅) (notedBy (model prog w) A env fun e s' => R (.error e) s') s₄) (notedBy (model prog w) A env fun e s' => R (.error e) s') s₃
            else ∃ m, m < n ∧ I m s₃) (notedBy (model prog w) A env fun e s' => R (.error e) s') s₂) (notedBy (model prog w) A env fun e s' => R (.error e) s') s₁') (notedBy (model prog w) A env fun e s' => R (.error e) s') s₁) (notedBy (model prog w) A env fun e s' => R (.error e) s') s)
    (n : Nat) (h : I n s) :
    codeAny (model prog w) A (.compLoop (.ListComp elt [⟨target, iter, ifs, 0⟩] scope pos) 0 it acc env) R s := by
  refine codeAny_loop rfl I (fun n s hI => ?_) n h
  show wpAny _ A ((compTurn (.ListComp elt [⟨target, iter, ifs, 0⟩] scope pos) 0 it acc env).onRaise (fun x => do noteFrame x env; theTreesLotGoes x)) _ _ s
  refine wpAny_noted ?_
  rw [compTurn_list]
  refine wpAny_bind (wpAny_standAt (wpAny_bind (wpAny_mono (turn n s hI) (fun r s₁ h₁ => ?_) fun _ _ h' => h')))
  cases r with
  | none => exact wpAny_pure h₁
  | some v =>
    refine wpAny_bind (wpAny_mono h₁ (fun _ s₁' h₁' => ?_) fun _ _ h' => h')
    refine wpAny_bind (wpAny_mono h₁' (fun _ s₂ h₂ => wpAny_bind (wpAny_mono h₂ (fun ok s₃ h₃ => ?_) fun _ _ h' => h')) fun _ _ h' => h')
    cases ok with
    | false => exact wpAny_pure ⟨rfl, h₃⟩
    | true =>
      exact wpAny_bind (wpAny_bind (wpAny_mono h₃ (fun x s₄ h₄ => wpAny_bind (wpAny_mono h₄ (fun _ s₅ h₅ => wpAny_pure (wpAny_pure ⟨rfl, h₅⟩)) fun _ _ h' => h')) fun _ _ h' => h'))
def PTs (X : Cx) (ifs : List Expr) (t : TT) : Prop :=
  ∀ (pins : List (Addr × Obj)) (s : Shared) (σ : St) (H : Hp) (Q : Bool → Hp → Prop), Inv X pins σ H s → t σ H Q →
    wpAny (model X.prog X.w) X.A (forIn ifs true fun c r => if r = true then do let ok ← isTrue c X.env (eval c X.env); pure (ForInStep.yield ok) else pure (ForInStep.yield r)) (TP X pins σ Q) X.xe s
def tTrue : TT := fun _ H Q => Q true H
theorem pts_nil {X : Cx} : PTs X [] tTrue := fun _ _ _ H _ I h => wpAny_tests_nil ⟨H, I, h⟩
theorem pts_one {X : Cx} {c : Expr} {t : TT} (h : PT X c t) : PTs X [c] t := fun pins s σ H Q I hq => wpAny_tests_one (h pins s σ H Q I hq)
def CompW (n : Nat) (ix : List Nat) (g : TG) (tt : TT) (te : TE) (σ : St) (Q : VK) (J : It) (H1 : Hp) : Prop :=
  ∃ W : Nat → Nat → List V → Hp → Prop, (∃ m, W 0 m [] H1) ∧ ∀ i m ys H, W i m ys H → ys.length ≤ sizeLine ∧
    ((J.stop i H ∧ ∀ p, H p = none → Q (.ref p) (upd H p (.lst ys))) ∨
      (J.go i H ∧ ∃ N : List V → Hp → Prop, (∀ ys' H', N ys' H' → ∃ m', m' < m ∧ W (i + 1) m' ys' H') ∧
        ∀ x H', J.yld i H x H' → g x (stComp n ix σ) H' fun σ2 H2 => σ2.drop n = (stComp n ix σ).drop n ∧ tt σ2 H2 fun b H3 => if b = true then te σ2 H3 fun y H4 => N (ys ++ [y]) H4 else N ys H3))
def tComp (n : Nat) (ix : List Nat) (wi : TI) (g : TG) (tt : TT) (te : TE) : TE := fun σ H Q => wi σ H fun J H1 => CompW n ix g tt te σ Q J H1
theorem weak_drop {n : Nat} {ix : List Nat} {σ σ2 : St} (hd : σ2.drop n = (stComp n ix σ).drop n) : ∀ (i : Nat) v, (stComp n ix σ)[i]? = some (some v) → σ2[i]? = some (some v) := fun i v e => by
  by_cases hi : i < n
  · unfold stComp at e
    rw [List.getElem?_append_left (by simpa using hi), List.getElem?_replicate] at e
    rw [if_pos hi] at e; cases e
  · have q := congrArg (fun l => l[i - n]?) hd
    simp only [List.getElem?_drop] at q
    rw [show n + (i - n) = i by omega] at q
    rw [q]; exact e
section
variable {X : Cx} {tg elt iter : Expr} {ifs : List Expr} {scope : Scope} {pos : Pos} {own fr : List Str} {ix : List Nat} {wi : TI} {g : TG} {tt : TT} {te : TE}
theorem comp_inv {pins : List (Addr × Obj)} {σ : St} {H2 : Hp} {s2 : Shared} {fp : List Addr} {h₁ : Heap} {tk : Nat} {C : Addr} (S : CompScope X.N X.env.scope scope own fr ix) (I2 : Inv X pins σ H2 s2) (f2 : ∀ b ∈ fp, FpOk X pins H2 b) (hfp : ∀ b ∈ fp, b < s2.heap.objs.size)
    (hC : s2.heap.objs.size ≤ C) (hns : h₁.Ns C fun _ => none) (old : ∀ b o, s2.heap.get? b = some o → h₁.get? b = some o) :
    Inv (cxComp X (own ++ fr) scope (closG X.env.cells scope.names []) C s2 H2 fp) [] (stComp own.length ix σ) H2 { s2 with heap := h₁, toks := tk } := by
  have cs := S.clos I2
  have sub : ∀ x c, (closG X.env.cells scope.names []).lookup x = some c → X.env.cells.lookup x = some c := fun x c e => closG_sub scope.names [] cs (fun h => by simp at h) e
  have stk := I2.stkSub
  have okk : (cxComp X (own ++ fr) scope (closG X.env.cells scope.names []) C s2 H2 fp).Ok := by
    refine ⟨I2.ok.mod, S.kind, I2.ok.glob, I2.ok.blt, hC, fun x y c h1 h2 => I2.ok.inj x y c (sub x c h1) (sub y c h2), fun x hx => ?_, fun x c h _ => ?_, I2.ok.hd, I2.ok.frames, .inl rfl, fun b hb => ⟨?_, fun x c e => ?_⟩, I2.bs, ?_, fun b o e hb => ?_, fun b hb z => ?_, I2.stack, I2.stkFree⟩
    · -- the cells of the block's free names
      have hx : (relabel scope X.env).names.lookup x = some .cell ∨ (relabel scope X.env).names.lookup x = some .free := hx
      have key : (x, NameKind.free) ∈ scope.names := by
        have : ∃ k', (relabel scope X.env).names.lookup x = some k' ∧ (k' = .cell ∨ k' = .free) := by
          rcases hx with h | h
          · exact ⟨_, h, .inl rfl⟩
          · exact ⟨_, h, .inr rfl⟩
        obtain ⟨k', e, hk'⟩ := this
        obtain ⟨k, e0⟩ := relabel_back e
        have e1 := relabel_look (env := X.env) e0
        have e : (scope.names.map fun (n, k) => if (k == NameKind.free && X.env.scope.kind == .function && X.env.kindOf n == some .cell) then (n, NameKind.cell) else (n, k)).lookup x = some k' := e
        rw [e1] at e
        have m := PySem.mem_of_lookup e0
        cases k with
        | free => exact m
        | cell => exact absurd rfl (S.nocell _ m)
        | _ => simp at e; subst e; rcases hk' with z | z <;> cases z
      exact Option.isSome_iff_exists.mp (closG_has _ _ key)
    · cases h
    · -- fp differs from the frame
      exact Nat.ne_of_lt (Nat.lt_of_lt_of_le (hfp b hb) hC)
    · exact (f2 b hb).2.2.2.2.1 x c (sub x c e)
    · exact Nat.le_trans I2.ok.bsz I2.sz
    · rcases (f2 b hb).2.2.2.1 with z | z
      · exact I2.ok.noex b o e z
      · exact absurd (Nat.lt_of_lt_of_le (Heap.lt_size (I2.ok.bs b o e).1) z) (Nat.lt_irrefl _)
    · rcases List.mem_cons.mp (stk b z) with e | e
      · exact (f2 b hb).2.1 e
      · exact (f2 b hb).2.2.1 e
  have sl : fr.length = ix.length := by simpa using congrArg List.length S.slots
  refine ⟨okk, rfl, I2.bare, Un.kept old, ⟨_, hns, fun i x v h1 h2 h3 => ?_⟩, fun x c e => ?_, I2.hok.fresh hC, fun x c e => I2.freeC x c (sub x c e), fun p hp => absurd (show p ∈ ([] : List (Addr × Obj)) from hp) (by simp), I2.hok.kept old, ?_⟩
  · -- a name of the def around
    have h1 : (own ++ fr)[i]? = some x := h1
    have hi : ¬ i < own.length := fun hi => by
      unfold stComp at h2
      rw [List.getElem?_append_left (by simpa using hi), List.getElem?_replicate, if_pos hi] at h2
      cases h2
    rw [List.getElem?_append_right (by omega)] at h1
    unfold stComp at h2
    rw [List.getElem?_append_right (by simpa using hi), List.length_replicate, List.getElem?_map] at h2
    cases ej : ix[i - own.length]? with
    | none => rw [ej] at h2; cases h2
    | some j =>
      rw [ej] at h2
      have h2 : (σ[j]?).join = some v := by simpa using h2
      have h2 : σ[j]? = some (some v) := by
        cases q : σ[j]? with
        | none => rw [q] at h2; cases h2
        | some z => rw [q] at h2; exact congrArg some h2
      have hN : X.N[j]? = some x := by
        have q := congrArg (fun l => l[i - own.length]?) S.slots
        simp only [List.getElem?_map, h1, ej, Option.map_some] at q
        exact (Option.some.inj q).symm
      have hm := S.outs x (List.mem_of_getElem? h1)
      have hk := S.frees _ hm rfl
      have hk : X.env.scope.names.lookup x = some .cell ∨ X.env.scope.names.lookup x = some .free := hk
      obtain ⟨m, hn, hl⟩ := I2.loc
      obtain ⟨u, r, l⟩ := hl j x v hN h2 (by rcases hk with k | k; exact .inr (.inl k); exact .inr (.inr k))
      refine ⟨u, r, ?_⟩
      rcases l with ⟨k, _⟩ | ⟨_, c, hc, hcell⟩
      · have k : X.env.scope.names.lookup x = some .local := k
        rcases hk with q | q <;> rw [k] at q <;> cases q
      · obtain ⟨c', hc'⟩ := Option.isSome_iff_exists.mp (closG_has (cells := X.env.cells) _ [] hm)
        have ec := sub x c' hc'
        rw [hc] at ec; cases ec
        refine .inr ⟨?_, c, hc', ?_⟩
        · have h3 : (relabel scope X.env).names.lookup x = some .local ∨ (relabel scope X.env).names.lookup x = some .cell ∨ (relabel scope X.env).names.lookup x = some .free := h3
          rcases h3 with h3 | h3
          · obtain ⟨k0, e0⟩ := relabel_back h3
            have e1 := relabel_look (env := X.env) e0
            have h3 : (scope.names.map fun (n, k) => if (k == NameKind.free && X.env.scope.kind == .function && X.env.kindOf n == some .cell) then (n, NameKind.cell) else (n, k)).lookup x = some .local := h3
            rw [e1] at h3
            have k0l : k0 = .local := by
              cases k0 <;> simp at h3 ⊢
              split at h3 <;> cases h3
            subst k0l
            exact absurd e0 (S.apart x (List.mem_of_getElem? h1))
          · exact h3
        · obtain ⟨o, ho, hd⟩ := hcell
          exact ⟨o, old _ _ ho, hd⟩
  · obtain ⟨v, o, ho, hd⟩ := I2.cell x c (sub x c e)
    exact ⟨v, o, old _ _ ho, hd⟩
  · show (stComp own.length ix σ).length = (own ++ fr).length
    unfold stComp
    rw [List.length_append, List.length_replicate, List.length_map, List.length_append, sl]
theorem comp_block {pins : List (Addr × Obj)} {σ : St} {H2 : Hp} {s2 : Shared} {fp : List Addr} {it : Addr} {tn : Nat → Heap → Prop} {J : It} {Fin : List V → Hp → Prop} {RR : Value → Addr → Result → Shared → Prop} {E : Value → Shared → Prop}
    (hcalm : X.calm = true) (S : CompScope X.N X.env.scope scope own fr ix)
    (hg : ∀ cl C s H ex, PG (cxComp X (own ++ fr) scope cl C s H ex) tg g) (ht : ∀ cl C s H ex, PTs (cxComp X (own ++ fr) scope cl C s H ex) ifs tt) (he : ∀ cl C s H ex, PE (cxComp X (own ++ fr) scope cl C s H ex) elt te)
    (I2 : Inv X pins σ H2 s2) (T : Turn X.prog X.w X.K tg J fp it tn) (st2 : tn 0 s2.heap) (f2 : ∀ b ∈ fp, FpOk X pins H2 b)
    {W : Nat → Nat → List V → Hp → Prop} {m0 : Nat} (w0 : W 0 m0 [] H2)
    (turn : ∀ i m ys H, W i m ys H → ys.length ≤ sizeLine ∧
      ((J.stop i H ∧ Fin ys H) ∨
        (J.go i H ∧ ∃ N : List V → Hp → Prop, (∀ ys' H', N ys' H' → ∃ m', m' < m ∧ W (i + 1) m' ys' H') ∧
          ∀ x H', J.yld i H x H' → g x (stComp own.length ix σ) H' fun σ2 H2 => σ2.drop own.length = (stComp own.length ix σ).drop own.length ∧ tt σ2 H2 fun b H3 => if b = true then te σ2 H3 fun y H4 => N (ys ++ [y]) H4 else N ys H3)))
    (hRR : ∀ (D C : Addr) (oC : Obj) (m : Str → Option Value) (s' : Shared) (H' : Hp) (ys : List V), Inv X (pins ++ [(C, oC)]) σ (upd H' D (.lst ys)) s' → s'.heap.get? C = some oC → s'.heap.Ns C m → FpOk X pins (upd H' D (.lst ys)) C → H' D = none → Fin ys H' → RR (.ref D) C (.ok .next) s') :
    wpAny (model X.prog X.w) X.A (newList []) (fun acc s₃ => wpAny (model X.prog X.w) X.A (newFunctionEnv scope X.env.globals (closG X.env.cells scope.names []) [] X.env.qual none .none (some X.env)) (fun cenv s₄ =>
      codeAny (model X.prog X.w) X.A (.compStart (.ListComp elt [⟨tg, iter, ifs, 0⟩] scope pos) 0 (.ref it) acc { cenv with scope := relabel scope X.env }) (RR acc cenv.locals) s₄) E s₃) E s2 := by
  have hfp : ∀ b ∈ fp, b < s2.heap.objs.size := fun b hb => by
    obtain ⟨o, e, _⟩ := T.obj 0 s2.heap st2 b hb
    exact Heap.lt_size e
  refine wpAny_newObj_type (wpAny_newFunctionEnv S.nocell (by intro y hy; simp at hy) (fun h₁ hns₁ hsb₁ => ?_) S.kind)
  dsimp only at hns₁ hsb₁ ⊢
  generalize hH2 : s2.heap.push { cls := .type "list", dict := none, data := .seq ([] : List Value).toArray } = G2 at hns₁ hsb₁ ⊢
  have hC : G2.objs.size = s2.heap.objs.size + 1 := by rw [← hH2, Heap.size_push]
  generalize hCC : G2.objs.size = C at hns₁ hsb₁ hC ⊢
  generalize hDD : s2.heap.objs.size = D at hC ⊢
  have hDC : D ≠ C := by omega
  have below : ∀ b, b < s2.heap.objs.size → b ≠ C ∧ b ≠ D := fun b hb => by
    rw [hDD] at hb
    exact ⟨Nat.ne_of_lt (by omega), Nat.ne_of_lt hb⟩
  have old : ∀ b o, s2.heap.get? b = some o → h₁.get? b = some o := fun b o e => hsb₁.extBut b o (below b (Heap.lt_size e)).1 (Heap.get?_push_of_some _ (hH2 ▸ Heap.get?_push_of_some _ e))
  have hacc : h₁.get? D = some { cls := .type "list", data := .seq ([] : List Value).toArray 0 } := by
    have e0 : G2.get? D = some { cls := .type "list", data := .seq ([] : List Value).toArray 0 } := by
      rw [← hH2, ← hDD]
      exact Heap.get?_push_size _ rfl
    exact hsb₁.extBut _ _ hDC (Heap.get?_push_of_some _ e0)
  have hns₁' : h₁.Ns C fun _ => none := by simpa using hns₁
  have I0 := fun tk => comp_inv (tk := tk) S I2 f2 hfp (C := C) (by omega) hns₁' old
  -- what stays true of the iterator's objects in the block
  have loop : ∀ s₃ : Shared, s₃ = { s2 with heap := h₁, toks := s2.toks + ([] : List (Str × Value)).length } →
      codeAny (model X.prog X.w) X.A (.compLoop (.ListComp elt [⟨tg, iter, ifs, 0⟩] scope pos) 0 (.ref it) (.ref D) (compEnvC scope (closG X.env.cells scope.names []) C X.env)) (RR (.ref D) C) s₃ := by
    rintro s₃ rfl
    generalize hY : cxComp X (own ++ fr) scope (closG X.env.cells scope.names []) C s2 H2 fp = Y at I0
    have stat : ∀ {H' : Hp} {pn : List (Addr × Obj)}, (∀ b ∈ fp, H' b = none) → (∀ p ∈ pn, ∀ b ∈ fp, p.1 ≠ b) → ∀ b ∈ fp, FpOk Y pn H' b := fun {H' pn} hn hp b hb => by
      subst hY
      refine ⟨hn b hb, (below b (hfp b hb)).1, fun z => ?_, .inl hb, fun x c e => ?_, fun p hp' => hp p hp' b hb⟩
      · exact (I0 0).ok.exfs b hb z
      · exact ((I0 0).ok.exf b hb).2 x c e
    have dfp : ∀ b ∈ fp, D ≠ b := fun b hb => Ne.symm (below b (hfp b hb)).2
    have hcellD : ∀ x c, Y.env.cells.lookup x = some c → c ≠ D := fun x c e z => by
      subst hY
      have e : (closG X.env.cells scope.names []).lookup x = some c := e
      have e' := closG_sub scope.names [] (S.clos I2) (fun h => by simp at h) e
      obtain ⟨v, q⟩ := I2.cell x c e'
      exact (below c q.lt).2 z
    have hfsD : D ∉ Y.fs := fun z => by
      subst hY
      obtain ⟨_, o, ho, _⟩ := (I0 0).ok.funs.mem z
      have := Heap.lt_size ho
      have : D < s2.heap.objs.size := this
      omega
    have eL : Y.env.locals = C := by subst hY; rfl
    have eS : Y.s₀ = s2 := by subst hY; rfl
    have eP : Y.pn = [] := by subst hY; rfl
    refine compLoop_own (fun n s' => ∃ i ys its nn H', Inv Y [] (stComp own.length ix σ) H' s' ∧ tn i s'.heap ∧ (∀ b ∈ fp, H' b = none) ∧ s'.heap.get? D = some { cls := .type "list", data := .seq its nn } ∧ Vals ys its.toList ∧ H' D = none ∧ W i n ys H') ?_ m0
      ⟨0, [], #[], 0, H2, I0 _, T.keep _ _ _ st2 fun b _ o e => old b o e, fun b hb => (f2 b hb).1, hacc, .nil, I2.hok.fresh (by omega), w0⟩
    rintro n s3 ⟨i, ys, its, nn, H3, I3, st3, fr3, oD, vD, nD, w3⟩
    obtain ⟨hlen, cases3⟩ := turn i n ys H3 w3
    have hsize : its.size ≤ sizeLine := by
      have := vD.length
      simp only [Array.length_toList] at this
      omega
    have pD : Inv Y [(D, { cls := .type "list", data := .seq its nn })] (stComp own.length ix σ) H3 s3 := I3.pins_of fun p hp => by
      rw [List.mem_singleton.mp hp]
      exact ⟨oD, nD, by rw [eL]; exact hDC, hfsD, fun v z => by cases z⟩
    have YP : Y.prog = X.prog := by subst hY; rfl
    have Yw : Y.w = X.w := by subst hY; rfl
    have YK : Y.K = X.K := by subst hY; rfl
    have YA : Y.A = X.A := by subst hY; rfl
    have Yx : Y.xe = fun _ _ => False := by subst hY; rfl
    have Ye : Y.env = compEnvC scope (closG X.env.cells scope.names []) C X.env := by subst hY; rfl
    have ne1 : ∀ p ∈ [((D, { cls := .type "list", data := .seq its nn }) : Addr × Obj)], ∀ b ∈ fp, p.1 ≠ b := fun p hp b hb => by rw [List.mem_singleton.mp hp]; exact dfp b hb
    rcases cases3 with ⟨stop, qn⟩ | ⟨go, N, hN, step⟩
    · have d := T.done Y YP Yw YK (by subst hY; exact hcalm) i _ s3 _ H3 (notedBy (model X.prog X.w) X.A (compEnvC scope (closG X.env.cells scope.names []) C X.env) fun e s' => RR (.ref D) C (.error e) s') pD (stat fr3 ne1) st3 stop
      rw [YA] at d
      refine thn d fun r s4 ⟨hr, I4⟩ => ?_
      subst hr
      show RR (.ref D) C (.ok .next) s4
      obtain ⟨oD4, nD4, _⟩ := I4.pin (D, _) (by rw [eP]; exact List.mem_cons_self)
      obtain ⟨m, hn, _⟩ := I4.loc
      rw [eL] at hn
      obtain ⟨oC, es, ep, hoC, hdC, hrest⟩ := id hn
      have hfreeC : H3 C = none := by have := I4.free; rw [eL] at this; exact this
      have un : Un (frs X.stack) fp H2 H3 s2.heap s4.heap := by
        have := I4.base
        subst hY
        exact this
      have lt2 : ∀ b o, s2.heap.get? b = some o → b ≠ D := fun b o e => (below b (Heap.lt_size e)).2
      have un' : Un (frs X.stack) fp H2 (upd H3 D (.lst ys)) s2.heap s4.heap := by
        refine ⟨un.keep, un.slot, fun b o e n hx => ?_, un.there, fun b xs e => ?_, fun b o u e => ?_, fun b ps e => ?_⟩
        · rw [upd_ne (lt2 b o e)]; exact un.free b o e n hx
        · have q := un.tups b xs e
          rw [upd_ne (ne_of_none q nD4)]; exact q
        · have q := un.frzs b o u e
          rw [upd_ne (ne_of_none q nD4)]; exact q
        · obtain ⟨more, q⟩ := un.tbls b ps e
          exact ⟨more, by rw [upd_ne (ne_of_none q nD4)]; exact q⟩
      have hok4 : HOk X.prog X.w H3 s4.heap := by
        have := I4.hok
        rw [YP, Yw] at this
        exact this
      have hok' : HOk X.prog X.w (upd H3 D (.lst ys)) s4.heap := fun b u q => by
        by_cases hb : b = D
        · subst hb
          rw [upd_same] at q
          cases q
          exact ⟨hlen, its.toList, nn, vD, by simpa using oD4⟩
        · rw [upd_ne hb] at q
          exact (hok4 b u q).stay (fun c v _ z => z) (fun c z => by rw [upd_ne (ne_of_none z nD4)]; exact z) fun c xs z => by rw [upd_ne (ne_of_none z nD4)]; exact z
      have os4 : s4.os = s2.os := by rw [I4.os, eS]
      have I5 : Inv X pins σ (upd H3 D (.lst ys)) s4 := I2.call' os4 un' hok' I4.bare fun b hb => ⟨(f2 b hb).2.2.2.1, (f2 b hb).2.1, (f2 b hb).2.2.2.2.1, (f2 b hb).2.2.2.2.2⟩
      have CL : C ≠ X.env.locals := fun z => by
        exact (below _ I2.lt).1 z.symm
      have fpC : FpOk X pins (upd H3 D (.lst ys)) C := I2.fpOk (by omega) (by rw [upd_ne (Ne.symm hDC)]; exact hfreeC)
      refine hRR D C oC m s4 H3 ys (I5.pins_of fun p hp => ?_) hoC hn fpC nD4 qn
      rcases List.mem_append.mp hp with z | z
      · exact I5.pin p (List.mem_append_right _ z)
      · rw [List.mem_singleton.mp z]
        exact ⟨hoC, fpC.1, fpC.2.1, fpC.2.2.1, fun v z => by rw [hdC] at z; cases z⟩
    · have d := T.item Y YP Yw YK (by subst hY; exact hcalm) i _ s3 _ H3 (fun _ _ => False) pD (stat fr3 ne1) st3 go
      rw [YA] at d
      refine wpAny_mono d (fun r s4 ⟨u, hr, h4⟩ => ?_) fun _ _ z => z.elim
      subst hr
      refine wpAny_mono h4 (fun _ s5 ⟨x, H5, I5, r5, y5, st5, fr5⟩ => ?_) fun _ _ z => z.elim
      have I5' := I5.pinned (stat fr5 ne1) (T.obj _ _ st5)
      have hg' := hg (closG X.env.cells scope.names []) C s2 H2 fp
      have ht' := ht (closG X.env.cells scope.names []) C s2 H2 fp
      have he' := he (closG X.env.cells scope.names []) C s2 H2 fp
      rw [hY] at hg' ht' he'
      have a6 := hg' _ s5 _ H5 x u _ I5' r5 (step x H5 y5)
      rw [YP, Yw, YA, Ye, Yx] at a6
      refine wpAny_mono a6 (fun _ s6 ⟨σ6, H6, I6, dr, q6⟩ => ?_) fun _ _ z => z.elim
      have a7 := ht' _ s6 σ6 H6 _ I6 q6
      rw [YP, Yw, YA, Ye, Yx] at a7
      refine wpAny_mono a7 (fun ok s7 ⟨H7, I7, q7⟩ => ?_) fun _ _ z => z.elim
      have back : ∀ {H8 : Hp} {s8 : Shared}, Inv Y ([((D, { cls := .type "list", data := .seq its nn }) : Addr × Obj)] ++ pinsAt fp s5.heap) σ6 H8 s8 →
          s8.heap.get? D = some { cls := .type "list", data := .seq its nn } ∧ H8 D = none ∧ tn (i + 1) s8.heap ∧ (∀ b ∈ fp, H8 b = none) := fun {H8 s8} I8 => by
        obtain ⟨e1, e2, _⟩ := I8.pin (D, { cls := .type "list", data := .seq its nn }) (by rw [eP]; exact List.mem_cons_self)
        refine ⟨e1, e2, T.keep _ _ _ st5 fun b hb o e => (I8.pin (b, o) (by rw [eP]; exact List.mem_cons_of_mem _ (mem_pinsAt hb e))).1, fun b hb => ?_⟩
        obtain ⟨o, e, _⟩ := T.obj _ _ st5 b hb
        exact (I8.pin (b, o) (by rw [eP]; exact List.mem_cons_of_mem _ (mem_pinsAt hb e))).2.1
      have unp : ∀ {H8 : Hp} {s8 : Shared}, Inv Y ([((D, { cls := .type "list", data := .seq its nn }) : Addr × Obj)] ++ pinsAt fp s5.heap) σ6 H8 s8 → Inv Y [] (stComp own.length ix σ) H8 s8 := fun {H8 s8} I8 =>
        (I8.pins_of (pins' := []) fun p hp => absurd hp (by simp)).weak (by
          have e1 := (I0 0).len
          have e2 := I8.len
          rw [e1, e2]) (weak_drop dr)
      cases ok with
      | false =>
        rw [if_neg Bool.false_ne_true] at q7
        show ∃ m, m < n ∧ _
        obtain ⟨e1, e2, e3, e4⟩ := back I7
        obtain ⟨m', hm, w7⟩ := hN _ _ q7
        exact ⟨m', hm, i + 1, ys, its, nn, H7, unp I7, e3, e4, e1, vD, e2, w7⟩
      | true =>
        rw [if_pos rfl] at q7
        show wpAny _ _ _ _ _ _
        have a8 := he' _ s7 σ6 H7 _ I7 q7
        rw [YP, Yw, YA, Ye, Yx] at a8
        refine wpAny_mono a8 (fun yv s8 ⟨y, H8, I8, ry, q8⟩ => ?_) fun _ _ z => z.elim
        obtain ⟨e1, e2, e3, e4⟩ := back I8
        obtain ⟨m', hm, w8⟩ := hN _ _ q8
        refine append_at e1 (fun h9 hs9 hD9 => ?_) hsize
        have I9 : Inv Y [] (stComp own.length ix σ) H8 { s8 with heap := h9 } := (unp I8).turned (t' := s8.toks) (it := D) (fun b o hb e => hs9.extBut b o hb e) e2 (by rw [eL]; exact hDC) (.inr (by rw [eS]; omega)) hcellD (fun p hp => absurd (show p ∈ ([] : List (Addr × Obj)) by rw [eP] at hp; exact hp) (by simp))
        refine ⟨m', hm, i + 1, ys ++ [y], its.push yv, nn + 1, H8, I9, T.keep _ _ _ e3 fun b hb o e => hs9.extBut b o (Ne.symm (dfp b hb)) e, e4, hD9, ?_, e2, w8⟩
        rw [Array.toList_push]
        exact vD.append (.cons ry .nil)
  exact codeAny_compStart_list (loop _ rfl) (T.self X.A 0 _ _ _ (T.keep _ _ _ st2 fun b _ o e => old b o e) (loop _ rfl))
theorem pe_comp (hcalm : X.calm = true) (hi : PI X tg iter wi) (S : CompScope X.N X.env.scope scope own fr ix)
    (hg : ∀ cl C s H ex, PG (cxComp X (own ++ fr) scope cl C s H ex) tg g) (ht : ∀ cl C s H ex, PTs (cxComp X (own ++ fr) scope cl C s H ex) ifs tt) (he : ∀ cl C s H ex, PE (cxComp X (own ++ fr) scope cl C s H ex) elt te)
    (hs : ∀ x, foldedSetIterable iter X.env x = pure x := by intro _; rfl) : PE X (.ListComp elt [⟨tg, iter, ifs, 0⟩] scope pos) (tComp own.length ix wi g tt te) := by
  intro pins s σ H Q I h
  rw [eval_ListComp]
  refine wpAny_comprehension_free (use := none) (cl := closG X.env.cells scope.names []) rfl hs (closureFor_is (S.clos I)) S.kind S.names (thn (hi pins s σ H _ I h) fun v s1 h1 => thn h1 fun itv s2 h2 => ?_)
  obtain ⟨it, fp, tn, J, H2, e, I2, T, st2, f2, W, ⟨m0, w0⟩, turn⟩ := h2
  subst e
  refine comp_block (Fin := fun ys H => ∀ p, H p = none → Q (.ref p) (upd H p (.lst ys))) (RR := fun acc C => compPost (model X.prog X.w) X.A X.xe none (EP X pins σ Q) acc C) hcalm S hg ht he I2 T st2 f2 w0 turn ?_
  intro D C oC m s' H' ys I5 hoC hn fpC nD fin
  refine ⟨m, hn, fun h' hs' => ⟨.ref D, upd H' D (.lst ys), ?_, rfl, fin D nD⟩⟩
  exact (I5.unpinned (pl := [(C, oC)])).turned (t' := s'.toks) (it := C) (fun b o hb e => hs'.extBut b o hb e) fpC.1 fpC.2.1 fpC.2.2.2.1 fpC.2.2.2.2.1 fpC.2.2.2.2.2
theorem ps_setC {i : Nat} {y : Str} {py spos : Pos} (hN : X.N.Nodup) (hy : X.N[i]? = some y) (hloc : X.env.scope.names.lookup y = some .local) (hcalm : X.calm = true) (hi : PI X tg iter wi) (S : CompScope X.N X.env.scope scope own fr ix)
    (hg : ∀ cl C s H ex, PG (cxComp X (own ++ fr) scope cl C s H ex) tg g) (ht : ∀ cl C s H ex, PTs (cxComp X (own ++ fr) scope cl C s H ex) ifs tt) (he : ∀ cl C s H ex, PE (cxComp X (own ++ fr) scope cl C s H ex) elt te)
    (hsw : swapsWith (.ListComp elt [⟨tg, iter, ifs, 0⟩] scope pos) (some (.Name y py)) spos.line X.env = pure true := by rfl)
    (hs : ∀ x, foldedSetIterable iter X.env x = pure x := by intro _; rfl) : PS X (.Assign [.Name y py] (.ListComp elt [⟨tg, iter, ifs, 0⟩] scope pos) spos) (tAsg (tComp own.length ix wi g tt te) (gName i)) := by
  intro pins s σ H D0 I h
  rw [exec_Assign_Name_used _ _ _ _ hsw]
  refine wpAny_bind (wpAny_standAt (wpAny_bind ?_))
  show wpAny _ X.A (do let _ ← comprehension (.ListComp elt [⟨tg, iter, ifs, 0⟩] scope pos) scope X.env _ (newList []) false (eval iter X.env) (some (assign (.Name y py) X.env))) _ _ s
  refine wpAny_bind (wpAny_mono (wpAny_comprehension_free (cl := closG X.env.cells scope.names []) (use := some (assign (.Name y py) X.env)) (Q := fun _ s' => SP X pins D0 .next s') (E := X.xe) rfl hs (closureFor_is (S.clos I)) S.kind S.names
    (thn (hi pins s σ H _ I h) fun v s1 h1 => thn h1 fun itv s2 h2 => ?_)) (fun _ s' hq => wpAny_pure (wpAny_pure hq)) fun _ _ e => e)
  obtain ⟨it, fp, tn, J, H2, e, I2, T, st2, f2, W, ⟨m0, w0⟩, turn⟩ := h2
  subst e
  refine comp_block (Fin := fun ys H => ∀ p, H p = none → gName i (.ref p) σ (upd H p (.lst ys)) D0.nx) (RR := fun acc C => compPost (model X.prog X.w) X.A X.xe (some (assign (.Name y py) X.env)) (fun _ s' => SP X pins D0 .next s') acc C) hcalm S hg ht he I2 T st2 f2 w0 turn ?_
  intro D C oC m s' H' ys I5 hoC hn fpC nD fin
  show wpAny _ X.A (assign (.Name y py) X.env (.ref D)) _ _ _
  refine wpAny_assign_Name (store_ok I5 hN hy (.inl hloc) (v := .ref D) rfl (fun s6 I6 => ?_) (.inr hloc))
  obtain ⟨e6, _⟩ := I6.pin (C, oC) (List.mem_append_right _ (List.mem_append_right _ List.mem_cons_self))
  obtain ⟨o', es, ep, ho', r'⟩ := hn
  rw [hoC] at ho'; cases ho'
  refine ⟨m, ⟨oC, es, ep, e6, r'⟩, fun h' hs' => ⟨_, upd H' D (.lst ys), ?_, fin D nD⟩⟩
  exact (I6.unpinned (pl := [(C, oC)])).turned (t' := s6.toks) (it := C) (fun b o hb e => hs'.extBut b o hb e) fpC.1 fpC.2.1 fpC.2.2.2.1 fpC.2.2.2.2.1 fpC.2.2.2.2.2
end
end L2
set_option Elab.async false
set_option linter.all false
set_option maxRecDepth 100000
set_option maxHeartbeats 4000000
namespace L2
open PySem PySem.Spec PyProof.Rows
open AutoSeq1 (wpAny_loadPart')
section
variable {prog : Program} {w : World} {A : Around} {E : Value → Shared → Prop} {s : Shared}
theorem nextOf_tuple_item {it l : Addr} {i : Nat} {items} {x : Value} {Q : Value → Shared → Prop} (hit : s.heap.IsTupleIter it l i)
    (hl : s.heap.IsTuple l items) (hx : items[i]? = some x)
    (hQ : ∀ h', h'.IsTupleIter it l (i + 1) → Heap.SameBut it s.heap h' → Q x { s with heap := h' }) :
    wpAny (model prog w) A (Builtin.SmallTypes.nextOf (.ref it)) Q E s := by
  obtain ⟨o, ho, hc, hd⟩ := id hit
  obtain ⟨ol, hol, _, nl, hdl⟩ := hl
  unfold Builtin.SmallTypes.nextOf
  refine wpAny_bind (wpAny_callSpecial?_slot (name := Str.ofString "__next__") hit.typeIs F.slot_tuple_iterator_next
    (wpAny_call_entry F.slot_tuple_iterator_next hit.typeIs F.entry_tuple_iterator_next ?_ (F.args_tuple_iterator_next_1 _)))
  show wpAny _ _ (field (.ref it) 0 >>= _) _ _ s
  refine wpAny_bind (wpAny_field ho hd (x := .ref l) rfl ?_)
  show wpAny _ _ (if (Value.ref l == Value.none) = true then _ else _) _ _ s
  rw [if_neg (show ¬ ((Value.ref l == Value.none) = true) from Bool.false_ne_true)]
  show wpAny _ _ (field (.ref it) 1 >>= _) _ _ s
  refine wpAny_bind (wpAny_field ho hd (x := .int i 0) rfl ?_)
  show wpAny _ _ (seqItems? (.ref l) >>= _) _ _ s
  refine wpAny_bind (wpAny_seqItems hol hdl ?_)
  simp only [Int.toNat_natCast, hx]
  refine wpAny_bind (wpAny_setField ho hd (by simp) (wpAny_pure ⟨x, rfl, wpAny_pure (hQ _ ?_ (Heap.SameBut.update ..))⟩))
  exact ⟨_, Heap.get?_update_self _ ho (Obj.isFreed_of_fields (Obj.data_mapFields hd _)), (Obj.cls_mapFields ..).trans hc, by
    rw [Obj.data_mapFields hd]; simp [rawInt]⟩
theorem nextOf_tuple_end {it l : Addr} {i : Nat} {items} {Q : Value → Shared → Prop} (hh : A.handled = none)
    (hit : s.heap.IsTupleIter it l i) (hl : s.heap.IsTuple l items) (hx : items[i]? = none)
    (hE : ∀ h' e, Heap.ExtBut it s.heap h' → (∃ o, h'.get? e = some o ∧ o.cls = .type "StopIteration") → E (.ref e) { s with heap := h' }) :
    wpAny (model prog w) A (Builtin.SmallTypes.nextOf (.ref it)) Q E s := by
  obtain ⟨o, ho, hc, hd⟩ := id hit
  obtain ⟨ol, hol, _, nl, hdl⟩ := hl
  unfold Builtin.SmallTypes.nextOf
  refine wpAny_bind (wpAny_callSpecial?_slot (name := Str.ofString "__next__") hit.typeIs F.slot_tuple_iterator_next
    (wpAny_call_entry F.slot_tuple_iterator_next hit.typeIs F.entry_tuple_iterator_next ?_ (F.args_tuple_iterator_next_1 _)))
  show wpAny _ _ (field (.ref it) 0 >>= _) _ _ s
  refine wpAny_bind (wpAny_field ho hd (x := .ref l) rfl ?_)
  show wpAny _ _ (if (Value.ref l == Value.none) = true then _ else _) _ _ s
  rw [if_neg (show ¬ ((Value.ref l == Value.none) = true) from Bool.false_ne_true)]
  show wpAny _ _ (field (.ref it) 1 >>= _) _ _ s
  refine wpAny_bind (wpAny_field ho hd (x := .int i 0) rfl ?_)
  show wpAny _ _ (seqItems? (.ref l) >>= _) _ _ s
  refine wpAny_bind (wpAny_seqItems hol hdl ?_)
  simp only [Int.toNat_natCast, hx]
  refine wpAny_bind (wpAny_rule (wpAny_bind (wpAny_setField ho hd (by simp) ?_)))
  show wpAny _ _ (newExc (.type "StopIteration") [] >>= _) _ _ _
  refine wpAny_bind ?_
  simp only [newExc, newTuple]
  refine wpAny_bind (wpAny_newObj_type ?_ (by size_fits))
  refine wpAny_bind (m := firstArgMember _ _) (wpAny_of_eq (a := Value.none) (by first | rfl | (simp only [firstArgMember]; rfl)) ?_)
  refine wpAny_newObj_type ?_ (by size_fits)
  simp only [raiseNew]
  refine wpAny_bind (wpAny_handled ?_)
  first | rw [show A.in1.handled = none from hh] | rw [hh]
  refine wpAny_bind (wpAny_pure (wpAny_throw ?_))
  exact hE _ _ (((Heap.SameBut.update ..).extBut.push _).push _) ⟨_, Heap.get?_push_size _ rfl, rfl⟩
end
def SeqB (b : Bool) (h : Heap) (a : Addr) (its : Array Value) : Prop := if b = true then h.IsList a its else h.IsTuple a its
def IterB (b : Bool) (h : Heap) (it a : Addr) (i : Nat) : Prop := if b = true then h.IsListIter it a i else h.IsTupleIter it a i
def SqB (b : Bool) (K : PySem.W.Frag) (H : Hp) (a : Addr) (xs : List V) : Prop := if b = true then SqL K H a xs else SqT K H a xs
def itObj (b : Bool) (a : Addr) : Obj := { cls := .type (if b = true then "list_iterator" else "tuple_iterator"), data := .fields #[.ref a, .int 0 0] }
theorem SeqB.at {b : Bool} {h h' : Heap} {a : Addr} {its : Array Value} (x : SeqB b h a its) (k : ∀ o, h.get? a = some o → h'.get? a = some o) : SeqB b h' a its := by
  cases b with
  | true => obtain ⟨o, e, r⟩ := (show h.IsList a its from x); exact ⟨o, k o e, r⟩
  | false => obtain ⟨o, e, r⟩ := (show h.IsTuple a its from x); exact ⟨o, k o e, r⟩
theorem SeqB.has {b : Bool} {h : Heap} {a : Addr} {its : Array Value} (x : SeqB b h a its) : ∃ o, h.get? a = some o := by
  cases b with
  | true => obtain ⟨o, e, r⟩ := (show h.IsList a its from x); exact ⟨o, e⟩
  | false => obtain ⟨o, e, r⟩ := (show h.IsTuple a its from x); exact ⟨o, e⟩
theorem IterB.at {b : Bool} {h h' : Heap} {it a : Addr} {i : Nat} (x : IterB b h it a i) (k : ∀ o, h.get? it = some o → h'.get? it = some o) : IterB b h' it a i := by
  cases b with
  | true => obtain ⟨o, e, r⟩ := (show h.IsListIter it a i from x); exact ⟨o, k o e, r⟩
  | false => obtain ⟨o, e, r⟩ := (show h.IsTupleIter it a i from x); exact ⟨o, k o e, r⟩
theorem IterB.has {b : Bool} {h : Heap} {it a : Addr} {i : Nat} (x : IterB b h it a i) : ∃ o, h.get? it = some o ∧ ∀ v, o.data ≠ .cell v := by
  cases b with
  | true => obtain ⟨o, e, _, d⟩ := (show h.IsListIter it a i from x); exact ⟨o, e, fun v z => by rw [d] at z; cases z⟩
  | false => obtain ⟨o, e, _, d⟩ := (show h.IsTupleIter it a i from x); exact ⟨o, e, fun v z => by rw [d] at z; cases z⟩
theorem IterB.new {b : Bool} {h : Heap} {it a : Addr} (e : h.get? it = some (itObj b a)) : IterB b h it a 0 := by
  cases b with
  | true => exact ⟨_, e, rfl, rfl⟩
  | false => exact ⟨_, e, rfl, rfl⟩
section
variable {X : Cx} {pins : List (Addr × Obj)} {σ : St} {H : Hp} {s : Shared} {a : Addr} {xs ys : List V} {b : Bool}
theorem Inv.seqB (I : Inv X pins σ H s) (h : SqB b X.K H a xs) : ∃ its : List Value, Vals xs its ∧ SeqB b s.heap a its.toArray ∧ xs.length ≤ sizeLine := by
  cases b with
  | true =>
    obtain ⟨its, r, p, z⟩ := I.list (show SqL X.K H a xs from h)
    exact ⟨its, r, p.isList, z⟩
  | false =>
    obtain ⟨its, r, p, z⟩ := I.tuple (show SqT X.K H a xs from h)
    exact ⟨its, r, p, z⟩
theorem Inv.seqB_inj (I : Inv X pins σ H s) (h : SqB b X.K H a xs) (h' : SqB b X.K H a ys) : xs = ys := by
  cases b with
  | true => exact I.list_inj (show SqL X.K H a xs from h) (show SqL X.K H a ys from h')
  | false => exact I.tuple_inj (show SqT X.K H a xs from h) (show SqT X.K H a ys from h')
end
theorem Draws.seq {prog : Program} {w : World} {A : Around} (b : Bool) (hh : A.handled = none) (it l : Addr) (hne : l ≠ it) (items : Array Value) :
    Draws prog w A it [it, l] items.size (fun i v => items[i]? = some v) (fun i h => IterB b h it l i ∧ SeqB b h l items) where
  live := fun _ _ st => let ⟨o, ho, _⟩ := st.1.has; ⟨o, ho⟩
  frame := fun _ _ _ st hk => ⟨st.1.at fun o e => hk it (by simp) o e, st.2.at fun o e => hk l (by simp) o e⟩
  item := fun i s Q E hi st hQ => by
    cases b with
    | true =>
      refine wpAny_nextOf_list_item (show s.heap.IsListIter it l i from st.1) (show s.heap.IsList l items from st.2) (x := items[i]) (by simp [hi]) fun h' hit' hs' => ?_
      exact hQ _ h' s.toks (by simp [hi]) ⟨hit', st.2.at fun o e => hs'.extBut l o hne e⟩ hs'
    | false =>
      refine nextOf_tuple_item (show s.heap.IsTupleIter it l i from st.1) (show s.heap.IsTuple l items from st.2) (x := items[i]) (by simp [hi]) fun h' hit' hs' => ?_
      exact hQ _ h' s.toks (by simp [hi]) ⟨hit', st.2.at fun o e => hs'.extBut l o hne e⟩ hs'
  done := fun s Q E st hE => by
    cases b with
    | true => exact wpAny_nextOf_list_end hh (show s.heap.IsListIter it l _ from st.1) (show s.heap.IsList l items from st.2) (by simp) hE
    | false => exact nextOf_tuple_end hh (show s.heap.IsTupleIter it l _ from st.1) (show s.heap.IsTuple l items from st.2) (by simp) hE
theorem pyIter_seqB {prog : Program} {w : World} {A : Around} {E : Value → Shared → Prop} {s : Shared} {b : Bool} {a : Addr} {its : Array Value} {Q : Value → Shared → Prop} (h : SeqB b s.heap a its)
    (hQ : Q (.ref s.heap.objs.size) { s with heap := s.heap.push (itObj b a) }) : wpAny (model prog w) A (pyIter (.ref a)) Q E s := by
  cases b with
  | true => exact wpAny_pyIter_list (show s.heap.IsList a its from h) hQ
  | false => exact wpAny_pyIter_tuple (show s.heap.IsTuple a its from h) hQ
set_option maxHeartbeats 4000000 in
theorem meets_enum_seq (b : Bool) (l : Addr) (items : Array Value) :
    Meets (Builtin.«enumerate.__new__» ⟨[.type "enumerate", .ref l], []⟩) (fun _ R s => SeqB b s.heap l items ∧
      R (.ok (.ret (.ref (s.heap.push (itObj b l)).objs.size)))
        { s with heap := (s.heap.push (itObj b l)).push { cls := .type "enumerate", data := .fields #[.none, .bool false, .ref s.heap.objs.size, rawInt 0, .none, .none] } }) :=
  .of_wp fun prog w A R s h => by
    obtain ⟨hp, g, d, tk, os⟩ := s; obtain ⟨hl, h⟩ := h
    have hsub := sub_enumerate
    obtain ⟨o, ho⟩ := hl.has
    have hL : SeqB b (Shared.heap ⟨hp, g, d, tk, os⟩) l items := hl
    wp_walk using wpAny_loadPart' ho
    refine wpAny_stack_any fun st => wpAny_pure ?_
    split
    · rename_i c _ _ _ _ _
      cases (c == Value.type "enumerate")
      · wp_walk using wpAny_loadPart' ho, pyIter_seqB hL
        exact ⟨_, rfl, h⟩
      · wp_walk using wpAny_loadPart' ho, pyIter_seqB hL
        exact ⟨_, rfl, h⟩
    · wp_walk using wpAny_loadPart' ho, pyIter_seqB hL
      exact ⟨_, rfl, h⟩
section
variable {prog : Program} {w : World} {A : Around} {E : Value → Shared → Prop} {s : Shared}
theorem call_enum_seq {b : Bool} {l : Addr} {items : Array Value} {Q : Value → Shared → Prop} (hL : SeqB b s.heap l items)
    (h : ∀ h', IsEnum h' (s.heap.objs.size + 1) s.heap.objs.size 0 .none → IterB b h' s.heap.objs.size l 0 → h'.objs.size = s.heap.objs.size + 2 →
      (∀ b o, s.heap.get? b = some o → h'.get? b = some o) → Q (.ref (s.heap.objs.size + 1)) { s with heap := h' }) :
    wpAny (model prog w) A (call (.type "enumerate") [.ref l]) Q E s := by
  refine callType_new F.called_enumerate (by decide) (F.typeCall_enumerate_1 _) (F.newCall_enumerate_1 _) (fun obj => F.args_object_init_2 obj _) F.entry_enumerate_new
    (meets_enum_seq b l items) ⟨hL, ?_⟩
  have hz : (s.heap.push (itObj b l)).objs.size = s.heap.objs.size + 1 := Heap.size_push ..
  show _ ∧ _
  rw [hz]
  have he : IsEnum ((s.heap.push (itObj b l)).push
      { cls := .type "enumerate", data := .fields #[.none, .bool false, .ref s.heap.objs.size, rawInt 0, .none, .none] }) (s.heap.objs.size + 1) s.heap.objs.size 0 .none := by
    have := Heap.get?_push_size (s.heap.push (itObj b l))
      (o := { cls := .type "enumerate", data := .fields #[.none, .bool false, .ref s.heap.objs.size, rawInt 0, .none, .none] }) rfl
    rw [hz] at this; exact this
  refine ⟨⟨_, he, rfl⟩, h _ he (IterB.new (Heap.get?_push_of_some _ (Heap.get?_push_size _ rfl))) (by rw [Heap.size_push, hz]) fun b o x => Heap.get?_push_of_some _ (Heap.get?_push_of_some _ x)⟩
end
def Ite (b : Bool) (K : PySem.W.Frag) (a : Addr) : It :=
  ⟨fun i H => ∃ xs x, SqB b K H a xs ∧ xs[i]? = some x,
   fun i H v H' => ∃ p x, H p = none ∧ v = .ref p ∧ H' = upd H p (.tup [.int i, x]) ∧ ∀ xs, SqB b K H a xs → xs[i]? = some x,
   fun i H => ∃ xs, SqB b K H a xs ∧ xs.length = i⟩
theorem turn_enum {P : Program} {w : World} {K : PySem.W.Frag} {elts : List Expr} {k : Nat} {pos : Pos} (b : Bool) (a e it : Addr) (hei : e ≠ it) :
    Turn P w K (.Tuple elts k pos) (Ite b K a) [e, it] e (fun i h => (∃ old, IsEnum h e it i old) ∧ IterB b h it a i) where
  mem := by simp
  obj := fun i h st c hc => by
    rcases List.mem_cons.mp hc with rfl | hc
    · obtain ⟨⟨old, q⟩, _⟩ := st
      exact ⟨_, q, fun v z => by cases z⟩
    · rw [List.mem_singleton.mp hc]
      exact st.2.has
  keep := fun i h h' st kk => ⟨let ⟨old, q⟩ := st.1; ⟨old, kk e (by simp) _ q⟩, st.2.at fun o q => kk it (by simp) o q⟩
  item := by
    intro X hP hw hK hc i pins s σ H E I hf st hg
    subst hP hw hK
    obtain ⟨xs, x, hq, hx⟩ := hg
    obtain ⟨its, rv, p, hz⟩ := I.seqB hq
    obtain ⟨u, hu, ru⟩ := rv.get hx
    obtain ⟨⟨old, he⟩, hit⟩ := st
    have fe := hf e (by simp)
    have fi := hf it (by simp)
    obtain ⟨oa, hoa⟩ := p.has
    have tra : H a = none → a < X.s₀.heap.objs.size ∨ True := fun _ => .inr trivial
    -- the sequence is neither record
    have ne_of_fp : ∀ c, FpOk X pins H c → (∃ oc, s.heap.get? c = some oc ∧ ∃ n vs, oc.cls = .type n ∧ oc.data = .fields vs) → a ≠ c := fun c _ ⟨oc, hoc, n, vs, hn, hv⟩ z => by
      subst z
      rw [hoa] at hoc; cases hoc
      cases b with
      | true => obtain ⟨o, e1, _, m, d⟩ := (show s.heap.IsList a its.toArray from p); rw [hoa] at e1; cases e1; rw [hv] at d; cases d
      | false => obtain ⟨o, e1, _, m, d⟩ := (show s.heap.IsTuple a its.toArray from p); rw [hoa] at e1; cases e1; rw [hv] at d; cases d
    have ae : a ≠ e := ne_of_fp e fe ⟨_, he, _, _, rfl, rfl⟩
    have ai : a ≠ it := ne_of_fp it fi (by
      cases b with
      | true => obtain ⟨o, e1, c1, d1⟩ := (show s.heap.IsListIter it a i from hit); exact ⟨o, e1, _, _, c1, d1⟩
      | false => obtain ⟨o, e1, c1, d1⟩ := (show s.heap.IsTupleIter it a i from hit); exact ⟨o, e1, _, _, c1, d1⟩)
    have D := Draws.seq (prog := X.prog) (w := X.w) (A := X.A.in1) b (I.ok.hd hc) it a ai its.toArray
    have hlt : i < its.toArray.size := by
      have := (List.getElem?_eq_some_iff.mp hu).1
      simpa using this
    refine wpAny_pyNext_enum_itemD D he ⟨hit, p⟩ hlt hei (by simp [hei, Ne.symm ae]) fun y h' tk hPy ho hs' hT hsz hk => ?_
    have ey : y = u := by
      have q1 : its.toArray[i]? = some y := hPy
      have q2 : its.toArray[i]? = some u := by simpa using hu
      rw [q1] at q2; exact Option.some.inj q2
    subst ey
    refine ⟨_, rfl, wpAny_letOwnedTupleGo_enum ho fun h2 he2 hs2 => ?_⟩
    have hs2 : Heap.SameBut e h' h2 := hs2
    have Tne : s.heap.objs.size ≠ e := Nat.ne_of_gt (Heap.lt_size he)
    have hTn : H s.heap.objs.size = none := I.hok.fresh (Nat.le_refl _)
    have kk : ∀ c o, c ∉ [e, it] → s.heap.get? c = some o → h2.get? c = some o := fun c o hc' q => hs2.extBut c o (fun z => hc' (by simp [z])) (hk c o (fun z => hc' (by simp [z])) (fun z => hc' (by simp [z])) q)
    have hT2 : h2.get? s.heap.objs.size = some { cls := .type "tuple", data := .seq #[.int i tk, y] } := hs2.extBut _ _ Tne hT
    have hcs : ∀ c ∈ [e, it], (c ∈ X.ex ∨ X.s₀.heap.objs.size ≤ c) ∧ c ≠ X.env.locals ∧ (∀ x d, X.env.cells.lookup x = some d → d ≠ c) ∧ ∀ p ∈ X.pn ++ pins, p.1 ≠ c := fun c hc' => by
      have f := hf c hc'
      exact ⟨f.2.2.2.1, f.2.1, f.2.2.2.2.1, f.2.2.2.2.2⟩
    have nfp : ∀ c u', H c = some u' → c ∉ [e, it] := fun c u' q hc' => by rw [(hf c hc').1] at q; cases q
    have hok0 : HOk X.prog X.w H h2 := fun c u' q => (I.hok c u' q).stay (fun d v hd q' => kk d v (by
        rcases hd with z | z
        · rw [z]; exact nfp c u' q
        · exact nfp d _ z) q') (fun _ z => z) fun _ _ z => z
    have new : ObjOk X.prog X.w (upd H s.heap.objs.size (.tup [.int i, x])) h2 s.heap.objs.size (.tup [.int i, x]) :=
      ⟨by show 2 ≤ sizeLine; decide, [.int i tk, y], .cons ⟨tk, rfl⟩ (.cons ru .nil), ⟨_, hT2, rfl, _, rfl⟩⟩
    have hok1 : HOk X.prog X.w (upd H s.heap.objs.size (.tup [.int i, x])) h2 := fun c u' q => by
      by_cases hb : c = s.heap.objs.size
      · subst hb; rw [upd_same] at q; cases q; exact new
      · rw [upd_ne hb] at q
        exact (hok0 c u' q).stay (fun d v _ q' => q') (fun d z => by rw [upd_ne (ne_of_none z hTn)]; exact z) fun d zs z => by rw [upd_ne (ne_of_none z hTn)]; exact z
    have un : Un (frs X.stack) [e, it] H (upd H s.heap.objs.size (.tup [.int i, x])) s.heap h2 := by
      refine ⟨fun c o q _ _ hx' => kk c o hx' q, fun c o q _ _ hx' => ⟨o.slots, kk c o hx' q⟩, fun c o q n _ => ?_, fun c o q hx' => ⟨o, kk c o hx' q⟩, fun c zs q => ?_, fun c o zs q => ?_, fun c ps q => ⟨#[], ?_⟩⟩
      · rw [upd_ne (Nat.ne_of_lt (Heap.lt_size q))]; exact n
      · rw [upd_ne (ne_of_none q hTn)]; exact q
      · rw [upd_ne (ne_of_none q hTn)]; exact q
      · rw [upd_ne (ne_of_none q hTn), q]; simp
    have I2 : Inv X pins σ (upd H s.heap.objs.size (.tup [.int i, x])) { s with heap := h2, toks := tk + 1 } := I.call (g' := s.gens) (d' := s.drawn) un hok1 I.bare hcs
    refine ⟨.ref s.heap.objs.size, upd H s.heap.objs.size (.tup [.int i, x]), I2, rfl, ⟨_, x, hTn, rfl, rfl, fun zs hzs => by rw [I.seqB_inj hzs hq]; exact hx⟩, ⟨⟨y, by simpa using he2⟩, ?_⟩, fun c hc' => ?_⟩
    · exact hs'.1.at fun o q => hs2.extBut it o (Ne.symm hei) q
    · rw [upd_ne (Nat.ne_of_lt (by
        rcases List.mem_cons.mp hc' with rfl | hc'
        · exact Heap.lt_size he
        · rw [List.mem_singleton.mp hc']; obtain ⟨o, q, _⟩ := hit.has; exact Heap.lt_size q))]
      exact (hf c hc').1
  done := by
    intro X hP hw hK hc i pins s σ H E I hf st hg
    subst hP hw hK
    obtain ⟨xs, hq, hx⟩ := hg
    obtain ⟨its, rv, p, hz⟩ := I.seqB hq
    obtain ⟨⟨old, he⟩, hit⟩ := st
    have fi := hf it (by simp)
    obtain ⟨oa, hoa⟩ := p.has
    have ai : a ≠ it := fun z => by
      subst z
      cases b with
      | true =>
        obtain ⟨o, e1, _, m, d⟩ := (show s.heap.IsList a its.toArray from p)
        obtain ⟨o', e2, _, d2⟩ := (show s.heap.IsListIter a a i from hit)
        rw [e1] at e2; cases e2; rw [d] at d2; cases d2
      | false =>
        obtain ⟨o, e1, _, m, d⟩ := (show s.heap.IsTuple a its.toArray from p)
        obtain ⟨o', e2, _, d2⟩ := (show s.heap.IsTupleIter a a i from hit)
        rw [e1] at e2; cases e2; rw [d] at d2; cases d2
    have D := Draws.seq (prog := X.prog) (w := X.w) (A := X.A.in1) b (I.ok.hd hc) it a ai its.toArray
    have hl := rv.length
    have hi : i = its.toArray.size := by simp; omega
    refine wpAny_pyNext_enum_endD D he (by rw [← hi]; exact ⟨hit, p⟩) fun h' hx' => ⟨rfl, ?_⟩
    obtain ⟨f0, f1, f2, f3, f4, f5⟩ := fi
    exact I.turned (t' := s.toks) (fun c o hb q => hx' c o hb q) f0 f1 f3 f4 f5
  self := fun A i s Q E st hQ => by
    obtain ⟨⟨old, he⟩, _⟩ := st
    exact wpAny_pyIter_enum he hQ
end L2
set_option Elab.async false
set_option linter.all false
set_option maxRecDepth 100000
set_option maxHeartbeats 4000000
namespace L2
open PySem PySem.Spec PyProof.Rows
section
variable {X : Cx}
def iEnum (b : Bool) (K : PySem.W.Frag) (ta : TA) : TI := fun σ H R => ta σ H fun vs H1 => ∃ a, vs = [.ref a] ∧ (∃ xs, SqB b K H1 a xs) ∧ R (Ite b K a) H1
theorem pi_enum {elts : List Expr} {k : Nat} {tpos : Pos} (b : Bool) {a : Expr} {ta : TA} {p pos : Pos} (hg : Gl X "enumerate") (hm : X.mg "enumerate" = none) (ha : PA X [a] ta) (hs : starEach [a] X.env = [(false, eval a X.env)] := by rfl) :
    PI X (.Tuple elts k tpos) (.Call (.Name "enumerate" p) [a] [] pos) (iEnum b X.K ta) := by
  intro pins s σ H R I h
  refine Call_ (ld_blt I hg hm (by decide +kernel : bootBuiltins "enumerate" = some (.type "enumerate")) (PyProof.Rows.callWith_type1 (thn (ha pos pins s σ H _ I h) fun us s1 ⟨vs, H1, I1, r1, q1⟩ => ?_) hs rfl))
  obtain ⟨a, e, ⟨xs, hq⟩, q⟩ := q1
  subst e
  cases r1 with
  | cons r rr =>
    cases rr
    cases r
    obtain ⟨its, rv, hseq, hz⟩ := I1.seqB hq
    refine call_enum_seq hseq fun h' he hit hsz hk => ?_
    refine wpAny_pyIter_enum he ?_
    have I2 : Inv X pins σ H1 { s1 with heap := h' } := I1.kept (t' := s1.toks) hk
    have ne : s1.heap.objs.size + 1 ≠ s1.heap.objs.size := Nat.ne_of_gt (Nat.lt_succ_self _)
    refine ⟨s1.heap.objs.size + 1, [s1.heap.objs.size + 1, s1.heap.objs.size], _, _, H1, rfl, I2, turn_enum b a (s1.heap.objs.size + 1) s1.heap.objs.size ne, ⟨⟨.none, he⟩, hit⟩, fun c hc => ?_, q⟩
    rcases List.mem_cons.mp hc with rfl | hc
    · exact I1.fpOk (Nat.le_succ _) (I1.hok.fresh (Nat.le_succ _))
    · rw [List.mem_singleton.mp hc]
      exact I1.fpOk (Nat.le_refl _) (I1.hok.fresh (Nat.le_refl _))
end
end L2
set_option Elab.async false
set_option linter.all false
set_option maxRecDepth 100000
set_option maxHeartbeats 4000000
set_option Elab.async false
set_option linter.all false
set_option maxRecDepth 100000
set_option maxHeartbeats 4000000
namespace L2
open PySem PySem.Spec PyProof.Rows
theorem KT.get {H : Hp} : ∀ {kvs : List (List Key × V)} {xs : List (List Key × Addr × Value)} {i : Nat} {p : List Key × V}, KT H kvs xs → kvs[i]? = some p → ∃ q, xs[i]? = some q ∧ p.1 = q.1 ∧ H q.2.1 = some (.tup (p.1.map kV)) ∧ RelV p.2 q.2.2
  | _, _, _, _, .nil, e => by simp at e
  | _, _, 0, _, .cons r _, e => by simp at e; subst e; exact ⟨_, rfl, r⟩
  | _, _, i + 1, p, .cons _ t, e => by
    obtain ⟨q, h1, h2⟩ := KT.get (i := i) (p := p) t (by simpa using e)
    exact ⟨q, by simpa using h1, h2⟩
end L2
set_option Elab.async false
set_option linter.all false
set_option maxRecDepth 100000
set_option maxHeartbeats 4000000
namespace L2
open PySem PySem.Spec PyProof.Rows
theorem Walks.seqB {prog : Program} {w : World} {A : Around} (b : Bool) (hh : A.handled = none) (I ax : Addr) (hne : ax ≠ I) (items : Array Value) :
    Walks prog w A I [I, ax] [I] items.size (fun i v => items[i]? = some v) (fun i h => IterB b h I ax i ∧ SeqB b h ax items) := by
  cases b with
  | true => exact Walks.list hh I ax hne items
  | false => exact Walks.tuple hh I ax hne items
theorem SqB.len {X : Cx} {pins : List (Addr × Obj)} {σ : St} {H : Hp} {s : Shared} {b : Bool} {p : Addr} {xs : List V} (I : Inv X pins σ H s) (h : SqB b X.K H p xs) : xs.length ≤ sizeLine := by
  obtain ⟨its, r, _, z⟩ := I.seqB h
  exact z
section
variable {X : Cx}
theorem call_sumR (hc : X.calm = true) : CallR X (.builtin "sum") (fun xs H Q => ∃ (b : Bool) (p : Addr) (ns : List Int), xs = [.ref p] ∧ SqB b X.K H p (ns.map V.int) ∧ Q (.int ns.sum) H) := by
  intro pins s σ H xs us Q I r h
  obtain ⟨b, p, ns, rfl, hq, q⟩ := h
  obtain ⟨u, rfl, rx⟩ := vals1 r
  cases rx
  obtain ⟨its, rv, hseq, hz⟩ := I.seqB hq
  have hp : p < s.heap.objs.size := let ⟨_, e⟩ := hseq.has; Heap.lt_size e
  refine call_sum_walkG (pyIter_seqB hseq ?_)
  refine ⟨_, _, _, _, _, _, fun i => ns.getD i 0, rfl, Walks.seqB (A := X.A.in1) b (I.ok.hd hc) s.heap.objs.size p (Nat.ne_of_lt hp) its.toArray, ⟨IterB.new (Heap.get?_push_size _ rfl), hseq.at fun o e => Heap.get?_push_of_some _ e⟩, fun c hcm => ?_, fun i v hv => ?_, fun h' tk t' hk => ?_⟩
  · show c < (s.heap.push _).objs.size
    rw [Heap.size_push]
    rcases List.mem_cons.mp hcm with rfl | hcm
    · exact Nat.lt_succ_self _
    · rw [List.mem_singleton.mp hcm]; exact Nat.lt_succ_of_lt hp
  · have hv : its.toArray[i]? = some v := hv
    have hv : its[i]? = some v := by simpa using hv
    have hl := rv.length
    rw [List.length_map] at hl
    have hi : i < ns.length := by rw [hl]; exact (List.getElem?_eq_some_iff.mp hv).1
    obtain ⟨u, hu, ru⟩ := rv.get (i := i) (x := .int ns[i]) (by rw [List.getElem?_map, List.getElem?_eq_getElem hi]; rfl)
    rw [hv] at hu; cases hu
    obtain ⟨t, rfl⟩ := ru
    refine ⟨t, ?_⟩
    show Value.int ns[i] t = Value.int (ns.getD i 0) t
    rw [List.getD_eq_getElem?_getD, List.getElem?_eq_getElem hi]; rfl
  · have e : preSum (fun i => ns.getD i 0) its.toArray.size = ns.sum := by
      have hl := rv.length
      rw [List.length_map] at hl
      rw [List.size_toArray, ← hl]
      have gen : ∀ k, k ≤ ns.length → preSum (fun i => ns.getD i 0) k = (ns.take k).sum := by
        intro k
        induction k with
        | zero => intro _; simp [preSum]
        | succ k ih =>
          intro hk
          rw [preSum, ih (by omega), List.take_add_one, List.getD_eq_getElem?_getD, List.getElem?_eq_getElem (by omega), List.sum_append]
          simp
      rw [gen _ (Nat.le_refl _), List.take_length]
    rw [e]
    refine ⟨.int ns.sum, H, I.kept (fun c o hco => hk c o ?_ (Heap.get?_push_of_some _ hco)), ⟨_, rfl⟩, q⟩
    intro hm
    rw [List.mem_singleton.mp hm] at hco
    exact absurd (Heap.lt_size hco) (Nat.lt_irrefl _)
theorem call_allR (hc : X.calm = true) : CallR X (.builtin "all") (fun xs H Q => ∃ (b : Bool) (p : Addr) (bs : List Bool), xs = [.ref p] ∧ SqB b X.K H p (bs.map V.bl) ∧ Q (.bl (bs.all id)) H) := by
  intro pins s σ H xs us Q I r h
  obtain ⟨b, p, bs, rfl, hq, q⟩ := h
  obtain ⟨u, rfl, rx⟩ := vals1 r
  cases rx
  obtain ⟨its, rv, hseq, hz⟩ := I.seqB hq
  have hp : p < s.heap.objs.size := let ⟨_, e⟩ := hseq.has; Heap.lt_size e
  have hl := rv.length
  rw [List.length_map] at hl
  refine call_all_walk (pyIter_seqB hseq ?_)
  refine ⟨_, _, _, _, _, _, fun i => bs.getD i true, rfl, Walks.seqB (A := X.A.in1) b (I.ok.hd hc) s.heap.objs.size p (Nat.ne_of_lt hp) its.toArray, ⟨IterB.new (Heap.get?_push_size _ rfl), hseq.at fun o e => Heap.get?_push_of_some _ e⟩, fun i v s' Q' E' hv hQ => ?_, fun h' tk hk => ?_⟩
  · have hv : its.toArray[i]? = some v := hv
    have hv : its[i]? = some v := by simpa using hv
    have hi : i < bs.length := by rw [hl]; exact (List.getElem?_eq_some_iff.mp hv).1
    obtain ⟨u, hu, ru⟩ := rv.get (i := i) (x := .bl bs[i]) (by rw [List.getElem?_map, List.getElem?_eq_getElem hi]; rfl)
    rw [hv] at hu; cases hu
    cases ru
    refine wpAny_truthy_bool ?_
    have e : bs.getD i true = bs[i] := by rw [List.getD_eq_getElem?_getD, List.getElem?_eq_getElem hi]; rfl
    rw [← e]; exact hQ
  · have e : (List.range its.toArray.size).all (fun i => bs.getD i true) = bs.all id := by
      rw [List.size_toArray, ← hl, Bool.eq_iff_iff, List.all_eq_true, List.all_eq_true]
      constructor
      · intro h x hx
        obtain ⟨i, hi, rfl⟩ := List.mem_iff_getElem.mp hx
        have := h i (List.mem_range.mpr hi)
        rw [List.getD_eq_getElem?_getD, List.getElem?_eq_getElem hi] at this
        exact this
      · intro h i hi
        have hi := List.mem_range.mp hi
        rw [List.getD_eq_getElem?_getD, List.getElem?_eq_getElem hi]
        exact h _ (List.getElem_mem hi)
    rw [e]
    refine ⟨.bl (bs.all id), H, I.kept (fun c o hco => hk c o ?_ (Heap.get?_push_of_some _ hco)), rfl, q⟩
    intro hm
    rw [List.mem_singleton.mp hm] at hco
    exact absurd (Heap.lt_size hco) (Nat.lt_irrefl _)
theorem call_isinst : CallR X (.builtin "isinstance") (fun xs H Q => ∃ x T t b, xs = [x, .ty T] ∧ TyOf X.K H x t ∧ PySem.W.kitOne X.K t (.type T) = some b ∧ Q (.bl b) H) := by
  intro pins s σ H xs us Q I r h
  obtain ⟨x, T, t, b, rfl, ht, hk, q⟩ := h
  obtain ⟨u, v, rfl, ru, rv⟩ := vals2 r
  cases rv
  exact isinst_ok I ru ht hk fun tk => ⟨.bl b, H, I.tok tk, rfl, q⟩
theorem kit_int_int {K : PySem.W.Frag} : PySem.W.kitOne K (.type "int") (.type "int") = some true := rfl
theorem kit_int_bool {K : PySem.W.Frag} : PySem.W.kitOne K (.type "int") (.type "bool") = some false := by first | rfl | decide | (unfold PySem.W.kitOne; rw [if_neg (by decide)]; first | rfl | decide | kernel_rfl)
theorem kit_tup_tup {K : PySem.W.Frag} : PySem.W.kitOne K (.type "tuple") (.type "tuple") = some true := rfl
theorem kit_list_list {K : PySem.W.Frag} : PySem.W.kitOne K (.type "list") (.type "list") = some true := rfl
theorem kit_str_str {K : PySem.W.Frag} : PySem.W.kitOne K (.type "str") (.type "str") = some true := rfl
def rInsert : V → List V → Hp → VK → Prop := fun x vs H Q => ∃ l xs k y, x = .ref l ∧ vs = [.int k, y] ∧ H l = some (.lst xs) ∧ 0 ≤ k ∧ k < 2 ^ 63 ∧ xs.length < sizeLine ∧ Q .non (upd H l (.lst (xs.take k.toNat ++ y :: xs.drop k.toNat)))
theorem mt_insert : MtM X "list.insert" rInsert := by
  intro pins s σ H x vs v us Q I rx rv h
  obtain ⟨l, xs, k, y, rfl, rfl, hH, h0, h1, hz, q⟩ := h
  cases rx
  obtain ⟨u1, u2, rfl, r1, r2⟩ := rv.two
  obtain ⟨t, rfl⟩ := r1
  obtain ⟨z, its, n, r, hl, e⟩ := I.lstM hH
  have hfit : ¬ (!Builtin.List.listFitsIndex k) = true := by
    rw [fitsIndex_both (by omega) h1]
    exact Bool.false_ne_true
  refine call_meets F.slot_list_insert ⟨_, e, rfl⟩ F.entry_list_insert (F.args_list_insert_3 _ _ _) (AutoListH.list_insert_list_int_val_1 l its.toArray n k t u2 hfit (by rw [List.size_toArray]; omega)) ⟨e, ?_⟩
  refine ⟨.non, _, I.lset (its' := its.take k.toNat ++ u2 :: its.drop k.toNat) hH e ?_ ((r.take k.toNat).append (.cons r2 (r.drop k.toNat))) ?_, rfl, q⟩
  · show (have j := if k < 0 then (k + ((its.toArray.size : Nat) : Int)).toNat else min k.toNat its.toArray.size; (its.toArray.extract 0 j).push u2 ++ its.toArray.extract j) = _
    rw [if_neg (by omega)]
    dsimp only
    by_cases hle : k.toNat ≤ its.length
    · rw [Nat.min_eq_left (by rw [List.size_toArray]; exact hle)]
      simp
      rw [List.take_of_length_le (by rw [List.length_drop]; exact Nat.le_refl _)]
    · rw [Nat.min_eq_right (by rw [List.size_toArray]; omega)]
      rw [List.take_of_length_le (by omega), List.drop_eq_nil_of_le (by omega)]
      simp
  · rw [List.length_append, List.length_cons, List.length_take, List.length_drop]
    omega
end
end L2
set_option Elab.async false
set_option linter.all false
set_option maxRecDepth 100000
set_option maxHeartbeats 4000000
namespace L2
open PySem PySem.Spec PyProof.Rows
def TK (H H' : Hp) : Prop := ∀ b xs, H b = some (.tup xs) → H' b = some (.tup xs)
theorem TK.refl (H : Hp) : TK H H := fun _ _ h => h
theorem TK.trans {H H1 H2 : Hp} (a : TK H H1) (b : TK H1 H2) : TK H H2 := fun c o h => b c o (a c o h)
theorem Same.tk {H H' : Hp} (s : Same H H') : TK H H' := fun b xs h => s b _ h
theorem TK.new {H : Hp} {p : Addr} (h : H p = none) (o : HO) : TK H (upd H p o) := fun b xs q => by rw [upd_ne (ne_of_none q h)]; exact q
theorem TK.upd {H : Hp} {p : Addr} {o : HO} {u : HO} (h : H p = some u) (n : ∀ xs, u ≠ .tup xs) : TK H (upd H p o) := fun b xs q => by
  rw [upd_ne (ne_of q h (fun z => n xs z.symm))]; exact q
theorem Same.new {H : Hp} {p : Addr} (h : H p = none) (o : HO) : Same H (upd H p o) := fun b u q => by rw [upd_ne (ne_of_none q h)]; exact q
class Rep (α : Type) where
  is : Hp → V → α → Prop
  keep : ∀ {H H' : Hp} {v : V} {a : α}, TK H H' → is H v a → is H' v a
  inj : ∀ {H : Hp} {v : V} {a a' : α}, is H v a → is H v a' → a = a'
  dep : Nat
  eqA : ∀ {X : Cx} {pins : List (Addr × Obj)} {σ : St} {H : Hp} {s : Shared} {v v' : V} {a a' : α} {u u' : Value} {A : Around}, Inv X pins σ H s → A.units + dep < cLine → is H v a → is H v' a' → RelV v u → RelV v' u' →
    ∃ b, SeqAt.EqAt A s u u' b ∧ (b = true ↔ a = a')
instance : Rep Int where
  is := fun _ v i => v = .int i
  keep := fun _ h => h
  inj := fun {H v a a'} h h' => by subst h; exact V.int.inj h'
  dep := 0
  eqA := fun {X pins σ H s v v' a a' u u' A} _ _ h h' r r' => by
    subst h; subst h'
    obtain ⟨t, rfl⟩ := r
    obtain ⟨t', rfl⟩ := r'
    exact ⟨_, SeqAt.EqAt.int_int a t a' t', by simp⟩
instance : Rep Bool where
  is := fun _ v i => v = .bl i
  keep := fun _ h => h
  inj := fun {H v a a'} h h' => by subst h; exact V.bl.inj h'
  dep := 0
  eqA := fun {X pins σ H s v v' a a' u u' A} _ _ h h' r r' => by
    subst h; subst h'
    cases r
    cases r'
    exact ⟨_, SeqAt.EqAt.bool_bool a a', by simp⟩
instance : Rep Str where
  is := fun _ v i => v = .str i
  keep := fun _ h => h
  inj := fun {H v a a'} h h' => by subst h; exact V.str.inj h'
  dep := 0
  eqA := fun {X pins σ H s v v' a a' u u' A} _ _ h h' r r' => by
    subst h; subst h'
    obtain ⟨t, rfl⟩ := r
    obtain ⟨t', rfl⟩ := r'
    exact ⟨_, SeqAt.EqAt.str_str a t a' t', by simp⟩
abbrev Items {α : Type} [Rep α] (H : Hp) : List V → List α → Prop := Paired (Rep.is H)
section
variable {α : Type} [Rep α]
theorem Items.keep {H H' : Hp} (k : TK H H') {xs : List V} {l : List α} (h : Items H xs l) : Items H' xs l := Paired.mapP h fun _ _ z => Rep.keep k z
theorem Items.len {H : Hp} {xs : List V} {l : List α} (h : Items H xs l) : xs.length = l.length := Paired.length h
theorem Items.get {H : Hp} : ∀ {xs : List V} {l : List α} {i : Nat} {x : V}, Items H xs l → xs[i]? = some x → ∃ a, l[i]? = some a ∧ Rep.is H x a
  | _, _, _, _, .nil, e => by simp at e
  | _, _, 0, _, .cons r _, e => by simp at e; subst e; exact ⟨_, rfl, r⟩
  | _, _, i + 1, x, .cons _ t, e => by
    obtain ⟨u, h1, h2⟩ := Items.get (i := i) (x := x) t (by simpa using e)
    exact ⟨u, by simpa using h1, h2⟩
theorem Items.at {H : Hp} : ∀ {xs : List V} {l : List α} {i : Nat} {a : α}, Items H xs l → l[i]? = some a → ∃ x, xs[i]? = some x ∧ Rep.is H x a
  | _, _, _, _, .nil, e => by simp at e
  | _, _, 0, _, .cons r _, e => by simp at e; subst e; exact ⟨_, rfl, r⟩
  | _, _, i + 1, x, .cons _ t, e => by
    obtain ⟨u, h1, h2⟩ := Items.at (i := i) t (by simpa using e)
    exact ⟨u, by simpa using h1, h2⟩
theorem Items.append {H : Hp} : ∀ {xs ys : List V} {l m : List α}, Items H xs l → Items H ys m → Items H (xs ++ ys) (l ++ m)
  | _, _, _, _, .nil, s => s
  | _, _, _, _, .cons r t, s => .cons r (Items.append t s)
theorem Items.one {H : Hp} {x : V} {a : α} (h : Rep.is H x a) : Items H [x] [a] := .cons h .nil
theorem Items.take {H : Hp} : ∀ {xs : List V} {l : List α} (n : Nat), Items H xs l → Items H (xs.take n) (l.take n)
  | _, _, 0, _ => .nil
  | _, _, _ + 1, .nil => .nil
  | _, _, n + 1, .cons r t => .cons r (Items.take n t)
theorem Items.drop {H : Hp} : ∀ {xs : List V} {l : List α} (n : Nat), Items H xs l → Items H (xs.drop n) (l.drop n)
  | _, _, 0, r => r
  | _, _, _ + 1, .nil => .nil
  | _, _, n + 1, .cons _ t => Items.drop n t
theorem Items.set {H : Hp} {x : V} {a : α} (r : Rep.is H x a) : ∀ {xs : List V} {l : List α} (i : Nat), Items H xs l → Items H (xs.set i x) (l.set i a)
  | _, _, _, .nil => .nil
  | _, _, 0, .cons _ t => .cons r t
  | _, _, i + 1, .cons q t => .cons q (Items.set r i t)
end
theorem Items.inj {α : Type} [Rep α] {H : Hp} : ∀ {xs : List V} {l m : List α}, Items H xs l → Items H xs m → l = m
  | _, _, _, .nil, .nil => rfl
  | _, _, _, .cons r t, .cons r' t' => by rw [Rep.inj r r', Items.inj t t']
theorem Items.ints {H : Hp} : ∀ {xs : List V} {l : List Int}, Items H xs l → xs = l.map V.int
  | _, _, .nil => rfl
  | _, _, .cons r t => by rw [List.map_cons, ← Items.ints t]; exact congrArg (· :: _) r
theorem Items.ofInts (H : Hp) : ∀ (l : List Int), Items H (l.map V.int) l
  | [] => .nil
  | a :: r => .cons rfl (Items.ofInts H r)
theorem Items.eqs {α : Type} [Rep α] {X : Cx} {pins : List (Addr × Obj)} {σ : St} {H : Hp} {s : Shared} {A : Around} (I : Inv X pins σ H s) (hu : A.units + Rep.dep α < cLine) :
    ∀ {xs ys : List V} {l m : List α} {us ws : List Value}, Items H xs l → Items H ys m → Vals xs us → Vals ys ws →
    ∃ e : Nat → Bool, (∀ j (h1 : j < us.length) (h2 : j < ws.length), SeqAt.EqAt A s us[j] ws[j] (e j)) ∧ ((List.range (min us.length ws.length)).all e = true ↔ l.take (min us.length ws.length) = m.take (min us.length ws.length))
  | _, _, _, _, _, _, .nil, _, .nil, _ => ⟨fun _ => true, fun j h1 => by simp at h1, by simp⟩
  | _, _, _, _, _, _, .cons _ _, .nil, .cons _ _, .nil => ⟨fun _ => true, fun j h1 h2 => by simp at h2, by simp⟩
  | _, _, _, _, _, _, .cons r t, .cons r' t', .cons q v, .cons q' v' => by
    obtain ⟨b, hb, hb'⟩ := Rep.eqA I hu r r' q q'
    obtain ⟨e, he, he'⟩ := Items.eqs I hu t t' v v'
    refine ⟨fun j => match j with | 0 => b | k + 1 => e k, fun j h1 h2 => ?_, ?_⟩
    · cases j with
      | zero => exact hb
      | succ k => exact he k (by simpa using h1) (by simpa using h2)
    · simp only [List.length_cons, Nat.succ_min_succ, List.range_succ_eq_map, List.all_cons, List.all_map, Bool.and_eq_true, List.take_succ_cons, List.cons.injEq]
      exact and_congr hb' he'
theorem Items.same {α : Type} [Rep α] {H : Hp} {xs ys : List V} {l m : List α} {us ws : List Value} (h : Items H xs l) (h' : Items H ys m) (r : Vals xs us) (r' : Vals ys ws) :
    (l.take (min us.length ws.length) = m.take (min us.length ws.length) ∧ us.length = ws.length) ↔ l = m := by
  have e1 := h.len; have e2 := h'.len; have e3 := r.length; have e4 := r'.length
  constructor
  · rintro ⟨a, b⟩
    rw [List.take_of_length_le (by omega), List.take_of_length_le (by omega)] at a
    exact a
  · intro a
    subst a
    exact ⟨rfl, by omega⟩
abbrev Tup (α : Type) : Type := List α
def TupIs {α : Type} [Rep α] (H : Hp) (v : V) (l : List α) : Prop := ∃ p xs, v = .ref p ∧ H p = some (.tup xs) ∧ Items H xs l
instance {α : Type} [Rep α] : Rep (Tup α) where
  is := fun H v l => TupIs (α := α) H v l
  keep := fun {H H' v a} k h => by
    obtain ⟨p, xs, e, hp, it⟩ := h
    exact ⟨p, xs, e, k p xs hp, it.keep k⟩
  inj := fun {H v a a'} h h' => by
    obtain ⟨p, xs, e, hp, it⟩ := h
    obtain ⟨p', xs', e', hp', it'⟩ := h'
    rw [e] at e'; cases e'
    rw [hp] at hp'; cases hp'
    exact Items.inj it it'
  dep := Rep.dep α + 2
  eqA := fun {X pins σ H s v v' a a' u u' A} I hu h h' r r' => by
    obtain ⟨p, xs, rfl, hp, it⟩ := h
    obtain ⟨p', xs', rfl, hp', it'⟩ := h'
    cases r
    cases r'
    obtain ⟨us, rv, q, _⟩ := I.tuple (SqT.of hp)
    obtain ⟨us', rv', q', _⟩ := I.tuple (SqT.of hp')
    by_cases e : p = p'
    · subst e
      refine ⟨true, SeqAt.EqAt.same _, ?_⟩
      rw [hp] at hp'; cases hp'
      have : a = a' := Items.inj it it'
      simp [this]
    · obtain ⟨f, hf, hf'⟩ := Items.eqs (A := A.in1) I (by show A.units + 1 + Rep.dep α < cLine; omega) it it' rv rv'
      refine ⟨_, SeqAt.EqAt.of_refs e (SeqAt.RcAt.tuples (e := f) (show s.heap.IsTuple p us.toArray from q) (show s.heap.IsTuple p' us'.toArray from q') (by omega) (fun j h1 h2 => hf j (by simpa using h1) (by simpa using h2))), ?_⟩
      simp only [List.size_toArray, Bool.and_eq_true, beq_iff_eq]
      rw [hf']
      exact Items.same it it' rv rv'
end L2
set_option Elab.async false
set_option linter.all false
set_option maxRecDepth 100000
set_option maxHeartbeats 4000000
namespace L2
open PySem PySem.Spec PyProof.Rows
structure Def (K : PySem.W.Frag) (mg : Str → Option Value) (x : Str) (st : Stmt) : Prop where
  ex : ∃ f fd, mg x = some (.ref f) ∧ Fun K x x st f fd
theorem def_mk {K : PySem.W.Frag} {h : Heap} {mg : Str → Option Value} {x : Str} {st : Stmt} {f : Addr} {oc : Value} {od an : Option Addr} {osl : Array (Option Value)} {kV doc pm cdv ct : Value} (X : K.In h) (G : h.Ns mainGlobals mg)
    (a : PySem.W.nsIn K mainGlobals x = some (some (.ref f))) (l : K.lookup f = some ⟨oc, od, .func (PySem.W.fnOf x x (defArgs st) (defBody st) (defScope st) .none kV doc pm an cdv ct), osl⟩)
    (c : PySem.W.codeIn K cdv x = true) (k : PySem.W.keepIn K (.ref f) = true) : Def K mg x st := ⟨f, _, PySem.W.mg_of X G a, fun_mk (st := st) l c k⟩
structure Cal (P : Program) (w : World) (K : PySem.W.Frag) (mg : Str → Option Value) (base : Heap) (x : Str) (ps : List Str) (sp : Sp) (k : Nat) : Prop where
  ex : ∃ f fd, mg x = some (.ref f) ∧ PySem.W.keepIn K (.ref f) = true ∧ Binds K fd ps [] ∧ FnOk P w K mg base CX0 k f fd ps sp
section
variable {P : Program} {w : World} {K : PySem.W.Frag} {mg : Str → Option Value} {base : Heap}
theorem Def.cal {x : Str} {st : Stmt} {N ps : List Str} {k : Nat} {sp : Sp} (D : Def K mg x st) (S : FnScope N ps (defScope st))
    (hb : ∀ (kV doc pm : Value) (an : Option Addr) (cdv ct : Value) (us : List Value), us.length = ps.length → bindArgs (PySem.W.fnOf x x (defArgs st) (defBody st) (defScope st) .none kV doc pm an cdv ct) ⟨us, []⟩ = pure (ps.zip us))
    (len : ∀ vs H Q E, sp vs H Q E → vs.length = ps.length)
    (hbody : ∀ (f : Addr) (cdv : Value) (A : Around) (outer : List Env) (s : Shared) (H : Hp) (vs : List V) (Q : VK) (E : XK), Room k (A.deeper (envOfC x (defScope st) s.heap.objs.size f cdv)) → sp vs H Q E →
      ∃ t, PSs (cxOf CX0 P w K mg base N x (defScope st) f cdv A outer s H E).nox (defBody st) t ∧ t { nx := fun _ H' => Q .non H', rt := Q } (start N vs) H) : Cal P w K mg base x ps sp (k + 1) := by
  obtain ⟨f, fd, hm, F⟩ := D.ex
  exact ⟨f, fd, hm, F.kp, F.binds hb, F.ok S len fun cdv A outer s H vs Q E hr h => hbody f cdv A outer s H vs Q E hr h⟩
theorem Cal.mono {x : Str} {ps : List Str} {sp : Sp} {j k : Nat} (C : Cal P w K mg base x ps sp j) (h : j ≤ k) : Cal P w K mg base x ps sp k := by
  obtain ⟨f, fd, a, b, c, d⟩ := C.ex
  exact ⟨f, fd, a, b, c, d.mono h⟩
end
section
variable {X : Cx} {x : Str} {ps : List Str} {sp : Sp} {k : Nat} {e : Expr} {es : List Expr} {t : TA} {p pos : Pos}
theorem pe_cal (C : Cal X.prog X.w X.K X.mg X.base x ps sp k) (hr : Room k X.A) (hg : Gl X x) (ha : PA X (e :: es) t)
    (hdb : (x == ("__debug__" : Str)) = false := by decide) (he : starEach (e :: es) X.env = (false, eval e X.env) :: starEach es X.env := by rfl) (hpl : (backTo pos (starEach es X.env)).any (·.1) = false := by rfl) :
    PE X (.Call (.Name x p) (e :: es) [] pos) (tCall sp [] E0 t) := by
  obtain ⟨f, fd, a, b, c, d⟩ := C.ex
  exact pe_call d hr hg a b c .nil pass0 ha hdb he hpl
end
def compOk (N : List Str) (around scope : Scope) (own fr : List Str) (ix : List Nat) : Bool :=
  (match scope.kind with | .function => true | _ => false) && scope.names.all (fun y => y.2 != .cell) && scope.names.all (fun y => y.2 != .local || scope.names.lookup y.1 == some .local) &&
  scope.names.all (fun y => y.2 != .free || (around.names.lookup y.1 == some .cell || around.names.lookup y.1 == some .free)) && (fr.map some == ix.map (fun i => N[i]?)) &&
  fr.all (fun x => scope.names.contains (x, NameKind.free)) && fr.all (fun x => scope.names.lookup x != some .local)
theorem compOk_of {N : List Str} {around scope : Scope} {own fr : List Str} {ix : List Nat} (h : compOk N around scope own fr ix = true) : CompScope N around scope own fr ix := by
  unfold compOk at h
  simp only [Bool.and_eq_true] at h
  obtain ⟨⟨⟨⟨⟨⟨h1, h2⟩, h3⟩, h4⟩, h5⟩, h6⟩, h7⟩ := h
  refine ⟨?_, fun y hy => ?_, fun y hy e => ?_, fun y hy e => ?_, by simpa using h5, fun x hx => ?_, fun x hx => ?_⟩
  · split at h1
    · assumption
    · cases h1
  · simpa using List.all_eq_true.mp h2 y hy
  · have := List.all_eq_true.mp h3 y hy
    rw [e] at this
    simpa using this
  · have := List.all_eq_true.mp h4 y hy
    rw [e] at this
    simpa using this
  · simpa using List.all_eq_true.mp h6 x hx
  · simpa using List.all_eq_true.mp h7 x hx
section
variable {X : Cx} {tg elt iter : Expr} {ifs : List Expr} {scope : Scope} {pos : Pos} {wi : TI} {g : TG} {tt : TT} {te : TE}
theorem pe_comp' (own fr : List Str) (ix : List Nat) (hcalm : X.calm = true) (hi : PI X tg iter wi) (S : compOk X.N X.env.scope scope own fr ix = true)
    (hg : ∀ cl C s H ex, PG (cxComp X (own ++ fr) scope cl C s H ex) tg g) (ht : ∀ cl C s H ex, PTs (cxComp X (own ++ fr) scope cl C s H ex) ifs tt) (he : ∀ cl C s H ex, PE (cxComp X (own ++ fr) scope cl C s H ex) elt te)
    (hs : ∀ x, foldedSetIterable iter X.env x = pure x := by intro _; rfl) : PE X (.ListComp elt [⟨tg, iter, ifs, 0⟩] scope pos) (tComp own.length ix wi g tt te) :=
  pe_comp hcalm hi (compOk_of S) hg ht he hs
theorem ps_setC' (own fr : List Str) (ix : List Nat) {i : Nat} {y : Str} {py spos : Pos} (hN : X.N.Nodup) (hy : X.N[i]? = some y) (hloc : X.env.scope.names.lookup y = some .local) (hcalm : X.calm = true) (hi : PI X tg iter wi) (S : compOk X.N X.env.scope scope own fr ix = true)
    (hg : ∀ cl C s H ex, PG (cxComp X (own ++ fr) scope cl C s H ex) tg g) (ht : ∀ cl C s H ex, PTs (cxComp X (own ++ fr) scope cl C s H ex) ifs tt) (he : ∀ cl C s H ex, PE (cxComp X (own ++ fr) scope cl C s H ex) elt te)
    (hsw : swapsWith (.ListComp elt [⟨tg, iter, ifs, 0⟩] scope pos) (some (.Name y py)) spos.line X.env = pure true := by rfl)
    (hs : ∀ x, foldedSetIterable iter X.env x = pure x := by intro _; rfl) : PS X (.Assign [.Name y py] (.ListComp elt [⟨tg, iter, ifs, 0⟩] scope pos) spos) (tAsg (tComp own.length ix wi g tt te) (gName i)) :=
  ps_setC hN hy hloc hcalm hi (compOk_of S) hg ht he hsw hs
end
structure Blt (mg : Str → Option Value) : Prop where
  «len» : mg "len" = none
  «sum» : mg "sum" = none
  «range» : mg "range" = none
  «enumerate» : mg "enumerate" = none
  «zip» : mg "zip" = none
  «tuple» : mg "tuple" = none
  «list» : mg "list" = none
  «all» : mg "all" = none
  «any» : mg "any" = none
  «isinstance» : mg "isinstance" = none
  «int» : mg "int" = none
  «bool» : mg "bool" = none
  «str» : mg "str" = none
  «min» : mg "min" = none
  «max» : mg "max" = none
  «sorted» : mg "sorted" = none
  «abs» : mg "abs" = none
  «ValueError» : mg "ValueError" = none
  «reversed» : mg "reversed" = none
abbrev ForW (g : TG) (tb : TS) (D : Ends) (σ : St) (J : It) (H : Hp) : Prop :=
  ∃ W : Nat → Nat → St → Hp → Prop, (∃ m, W 0 m σ H) ∧ ∀ i m σ H, W i m σ H →
      (J.stop i H ∧ D.nx σ H) ∨ (J.go i H ∧ ∃ N : St → Hp → Prop, (∀ σ' H', N σ' H' → ∃ m', m' < m ∧ W (i + 1) m' σ' H') ∧ ∀ x H', J.yld i H x H' → g x σ H' fun σ2 H2 => tb { D with nx := N, ct := N, bk := D.nx } σ2 H2)
end L2
set_option Elab.async false
set_option linter.all false
set_option maxRecDepth 100000
set_option maxHeartbeats 4000000
namespace L2
open PySem PySem.Spec PyProof.Rows
abbrev IsP (H : Hp) (v : V) (l : List Int) : Prop := TupIs (α := Int) H v l
abbrev IsW (H : Hp) (v : V) (w : List (List Int)) : Prop := TupIs (α := Tup Int) H v w
theorem TupIs.keep {α : Type} [Rep α] {H H' : Hp} {v : V} {l : List α} (h : TupIs H v l) (s : Same H H') : TupIs H' v l := Rep.keep (α := Tup α) s.tk h
theorem IsP.at {H : Hp} {v : V} {l : List Int} (h : IsP H v l) : ∃ p, v = .ref p ∧ H p = some (.tup (l.map V.int)) := by
  obtain ⟨p, xs, e, hp, it⟩ := h
  exact ⟨p, e, by rw [← it.ints]; exact hp⟩
theorem IsP.of {H : Hp} {p : Addr} {l : List Int} (h : H p = some (.tup (l.map V.int))) : IsP H (.ref p) l := ⟨p, _, rfl, h, Items.ofInts H l⟩
theorem IsW.row {H : Hp} {v : V} {w : List (List Int)} (h : IsW H v w) : ∃ p xs, v = .ref p ∧ H p = some (.tup xs) ∧ xs.length = w.length ∧ ∀ (i : Nat) r, w[i]? = some r → ∃ q, xs[i]? = some (.ref q) ∧ H q = some (.tup (r.map V.int)) := by
  obtain ⟨p, xs, e, hp, it⟩ := h
  refine ⟨p, xs, e, hp, it.len, fun i r hr => ?_⟩
  obtain ⟨x, hx, hy⟩ := it.at hr
  obtain ⟨q, rfl, hq⟩ := IsP.at hy
  exact ⟨q, hx, hq⟩
theorem SqB.tup {K : PySem.W.Frag} {H : Hp} {a : Addr} {xs : List V} (h : H a = some (.tup xs)) : SqB false K H a xs := SqT.of h
theorem SqB.lst {K : PySem.W.Frag} {H : Hp} {a : Addr} {xs : List V} (h : H a = some (.lst xs)) : SqB true K H a xs := SqL.of h
def nth (l : List Int) (i : Nat) : Int := l.getD i 0
theorem nth_range (l : List Int) : (List.range l.length).map (nth l) = l := by
  apply List.ext_getElem?
  intro i
  rw [List.getElem?_map]
  by_cases h : i < l.length
  · rw [List.getElem?_eq_getElem (by simpa using h), List.getElem?_eq_getElem h]
    simp [nth, List.getD_eq_getElem?_getD, List.getElem?_eq_getElem h]
  · rw [List.getElem?_eq_none (by simpa using h), List.getElem?_eq_none (by omega)]; rfl
theorem nth_map_range {f : Nat → Int} {n i : Nat} (h : i < n) : nth ((List.range n).map f) i = f i := by
  unfold nth
  rw [List.getD_eq_getElem?_getD, List.getElem?_map, List.getElem?_range h]; rfl
def rowOf (w : List (List Int)) (i : Nat) : List Int := w.getD i []
theorem rowOf_at {w : List (List Int)} {i : Nat} (h : i < w.length) : w[i]? = some (rowOf w i) := by
  unfold rowOf
  rw [List.getD_eq_getElem?_getD, List.getElem?_eq_getElem h]; rfl
def ent (w : List (List Int)) (i j : Nat) : Int := nth (rowOf w i) j
structure WebOk (w : List (List Int)) : Prop where
  pos : 1 ≤ w.length
  few : w.length ≤ 7
  sq : ∀ i, i < w.length → (rowOf w i).length = w.length
  lo : ∀ i j, i < w.length → j < w.length → 0 ≤ ent w i j
  hi : ∀ i j, i < w.length → j < w.length → ent w i j ≤ 9
  sym : ∀ i j, i < w.length → j < w.length → ent w i j = ent w j i
  dia : ∀ i, i < w.length → ent w i i = 0
def rTupOf (K : PySem.W.Frag) : List V → Hp → VK → Prop := fun xs H Q => ∃ p ys, xs = [.ref p] ∧ ((SqL K H p ys ∧ ∀ l, H l = none → Q (.ref l) (upd H l (.tup ys))) ∨ (SqT K H p ys ∧ Q (.ref p) H))
end L2
set_option Elab.async false
set_option linter.all false
set_option maxRecDepth 100000
set_option maxHeartbeats 4000000
namespace L2
open PySem PySem.Spec PyProof.Rows
theorem Same.own {H Hc : Hp} {p : Addr} (s : Same H Hc) (n : H p = none) (o : HO) : Same H (upd Hc p o) := fun b u q => by rw [upd_ne (ne_of_none q n)]; exact s b u q
theorem Same.off {H Hc : Hp} {p : Addr} (s : Same H Hc) (n : Hc p = none) : H p = none := s.free n
theorem upd_other {H : Hp} {a b : Addr} {o u : HO} (h : H a = some u) (n : H b = none) : upd H b o a = some u := by rw [upd_ne (ne_of_none h n)]; exact h
end L2
set_option Elab.async false
set_option linter.all false
set_option maxRecDepth 100000
set_option maxHeartbeats 4000000
namespace L2
open PySem PySem.Spec PyProof.Rows
abbrev Tie := Nat × Nat × Int
structure DictOk (n : Nat) (ts : List Tie) : Prop where
  ok : ∀ e ∈ ts, e.1 < e.2.1 ∧ e.2.1 < n ∧ 1 ≤ e.2.2 ∧ e.2.2 ≤ 9
  nd : (ts.map fun e => (e.1, e.2.1)).Nodup
theorem DictOk.nil (n : Nat) : DictOk n [] := ⟨fun _ h => by simp at h, by simp⟩
def setM (M : List (List Int)) (a b : Nat) (t : Int) : List (List Int) := M.set a ((rowOf M a).set b t)
def sqStep (M : List (List Int)) (e : Tie) : List (List Int) := setM (setM M e.1 e.2.1 e.2.2) e.2.1 e.1 e.2.2
def sqM (n : Nat) (ts : List Tie) : List (List Int) := ts.foldl sqStep (List.replicate n (List.replicate n 0))
structure MatOk (n : Nat) (M : List (List Int)) : Prop where
  len : M.length = n
  row : ∀ i, i < n → (rowOf M i).length = n
  lo : ∀ i j, i < n → j < n → 0 ≤ ent M i j
  hi : ∀ i j, i < n → j < n → ent M i j ≤ 9
  sym : ∀ i j, i < n → j < n → ent M i j = ent M j i
  dia : ∀ i, i < n → ent M i i = 0
theorem rowOf_set {M : List (List Int)} {a i : Nat} {r : List Int} (ha : a < M.length) : rowOf (M.set a r) i = if a = i then r else rowOf M i := by
  unfold rowOf
  rw [List.getD_eq_getElem?_getD, List.getD_eq_getElem?_getD, List.getElem?_set]
  by_cases h : a = i
  · subst h; simp [ha]
  · simp [h]
theorem nth_set {l : List Int} {b j : Nat} {t : Int} (hb : b < l.length) : nth (l.set b t) j = if b = j then t else nth l j := by
  unfold nth
  rw [List.getD_eq_getElem?_getD, List.getD_eq_getElem?_getD, List.getElem?_set]
  by_cases h : b = j
  · subst h; simp [hb]
  · simp [h]
theorem ent_setM {n : Nat} {M : List (List Int)} {a b i j : Nat} {t : Int} (hl : M.length = n) (hr : ∀ i, i < n → (rowOf M i).length = n) (ha : a < n) (hb : b < n) : ent (setM M a b t) i j = if a = i ∧ b = j then t else ent M i j := by
  show nth (rowOf (M.set a ((rowOf M a).set b t)) i) j = _
  rw [rowOf_set (by omega)]
  by_cases h : a = i
  · subst h
    rw [if_pos rfl, nth_set (by rw [hr a ha]; exact hb)]
    by_cases q : b = j
    · rw [if_pos q, if_pos ⟨rfl, q⟩]
    · rw [if_neg q, if_neg (fun z => q z.2)]; rfl
  · rw [if_neg h, if_neg (fun z => h z.1)]; rfl
theorem shape_setM {n : Nat} {M : List (List Int)} {a b : Nat} {t : Int} (hl : M.length = n) (hr : ∀ i, i < n → (rowOf M i).length = n) (ha : a < n) : (setM M a b t).length = n ∧ ∀ i, i < n → (rowOf (setM M a b t) i).length = n := by
  refine ⟨by unfold setM; rw [List.length_set]; exact hl, fun i hi => ?_⟩
  show (rowOf (M.set a ((rowOf M a).set b t)) i).length = n
  rw [rowOf_set (by omega)]
  split
  · rw [List.length_set]; exact hr a ha
  · exact hr i hi
theorem MatOk.step {n : Nat} {M : List (List Int)} {e : Tie} (ok : MatOk n M) (h : e.1 < e.2.1 ∧ e.2.1 < n ∧ 1 ≤ e.2.2 ∧ e.2.2 ≤ 9) : MatOk n (sqStep M e) := by
  obtain ⟨a, b, t⟩ := e
  obtain ⟨hab, hb, h1, h9⟩ := h
  simp only at hab hb h1 h9
  have ha : a < n := by omega
  obtain ⟨l1, r1⟩ := shape_setM (t := t) (b := b) ok.len ok.row ha
  obtain ⟨l2, r2⟩ := shape_setM (t := t) (b := a) l1 r1 hb
  have E : ∀ i j, ent (setM (setM M a b t) b a t) i j = if b = i ∧ a = j then t else if a = i ∧ b = j then t else ent M i j := fun i j => by
    rw [ent_setM l1 r1 hb ha, ent_setM ok.len ok.row ha hb]
  refine ⟨l2, r2, fun i j hi hj => ?_, fun i j hi hj => ?_, fun i j hi hj => ?_, fun i hi => ?_⟩
  · show 0 ≤ ent (setM (setM M a b t) b a t) i j
    rw [E]; split
    · omega
    · split
      · omega
      · exact ok.lo i j hi hj
  · show ent (setM (setM M a b t) b a t) i j ≤ 9
    rw [E]; split
    · omega
    · split
      · omega
      · exact ok.hi i j hi hj
  · show ent (setM (setM M a b t) b a t) i j = ent (setM (setM M a b t) b a t) j i
    rw [E, E]
    have s := ok.sym i j hi hj
    by_cases q1 : b = i ∧ a = j
    · rw [if_pos q1]
      obtain ⟨rfl, rfl⟩ := q1
      rw [if_neg (by omega), if_pos ⟨rfl, rfl⟩]
    · rw [if_neg q1]
      by_cases q2 : a = i ∧ b = j
      · rw [if_pos q2]
        obtain ⟨rfl, rfl⟩ := q2
        rw [if_pos ⟨rfl, rfl⟩]
      · rw [if_neg q2, if_neg (fun z => q2 ⟨z.2, z.1⟩), if_neg (fun z => q1 ⟨z.2, z.1⟩), s]
  · show ent (setM (setM M a b t) b a t) i i = 0
    rw [E, if_neg (by omega), if_neg (by omega)]
    exact ok.dia i hi
theorem MatOk.zero (n : Nat) : MatOk n (List.replicate n (List.replicate n 0)) := by
  have r : ∀ i, i < n → rowOf (List.replicate n (List.replicate n (0 : Int))) i = List.replicate n 0 := fun i hi => by
    unfold rowOf
    rw [List.getD_eq_getElem?_getD, List.getElem?_replicate, if_pos hi]; rfl
  have z : ∀ i j, i < n → j < n → ent (List.replicate n (List.replicate n (0 : Int))) i j = 0 := fun i j hi hj => by
    show nth (rowOf _ i) j = 0
    rw [r i hi]
    unfold nth
    rw [List.getD_eq_getElem?_getD, List.getElem?_replicate, if_pos hj]; rfl
  exact ⟨by simp, fun i hi => by rw [r i hi]; simp, fun i j hi hj => by rw [z i j hi hj]; omega, fun i j hi hj => by rw [z i j hi hj]; omega, fun i j hi hj => by rw [z i j hi hj, z j i hj hi], fun i hi => z i i hi hi⟩
theorem sqM_ok {n : Nat} {ts : List Tie} (ok : DictOk n ts) : MatOk n (sqM n ts) := by
  have gen : ∀ (l : List Tie) (M : List (List Int)), (∀ e ∈ l, e.1 < e.2.1 ∧ e.2.1 < n ∧ 1 ≤ e.2.2 ∧ e.2.2 ≤ 9) → MatOk n M → MatOk n (l.foldl sqStep M) := by
    intro l
    induction l with
    | nil => intro M _ h; exact h
    | cons e r ih =>
      intro M h hM
      rw [List.foldl_cons]
      exact ih _ (fun e' he' => h e' (List.mem_cons_of_mem _ he')) (hM.step (h e List.mem_cons_self))
  exact gen ts _ ok.ok (MatOk.zero n)
theorem MatOk.web {n : Nat} {M : List (List Int)} (h : MatOk n M) (h1 : 1 ≤ n) (h7 : n ≤ 7) : WebOk M := by
  have e := h.len
  subst e
  exact ⟨h1, h7, h.row, h.lo, h.hi, h.sym, h.dia⟩
theorem sum_nth (l : List Int) : ((List.range l.length).map (nth l)).sum = l.sum := by rw [nth_range]
def SameBut (d : Addr) (H H' : Hp) : Prop := ∀ b o, H b = some o → b ≠ d → H' b = some o
theorem Same.but {d : Addr} {H H' : Hp} (s : Same H H') : SameBut d H H' := fun b o h _ => s b o h
theorem SameBut.trans {d : Addr} {H H1 H2 : Hp} (a : SameBut d H H1) (b : SameBut d H1 H2) : SameBut d H H2 := fun c o h n => b c o (a c o h n) n
structure RowsAt (H : Hp) (qs : List Addr) (M : List (List Int)) : Prop where
  get : ∀ (j : Nat) q, qs[j]? = some q → H q = some (.lst ((rowOf M j).map V.int))
theorem nodup_get {α : Type} {l : List α} (h : l.Nodup) {i j : Nat} {x : α} (a : l[i]? = some x) (b : l[j]? = some x) : i = j := by
  obtain ⟨h1, e1⟩ := List.getElem?_eq_some_iff.mp a
  obtain ⟨h2, e2⟩ := List.getElem?_eq_some_iff.mp b
  exact (List.getElem_inj h).mp (e1.trans e2.symm)
theorem RowsAt.new {H : Hp} {qs : List Addr} {M : List (List Int)} {p : Addr} {o : HO} (r : RowsAt H qs M) (n : H p = none) : RowsAt (upd H p o) qs M := ⟨fun j q hq => upd_other (r.get j q hq) n⟩
theorem RowsAt.set {H : Hp} {qs : List Addr} {M : List (List Int)} {a b : Nat} {q : Addr} {t : Int} (r : RowsAt H qs M) (nd : qs.Nodup) (hq : qs[a]? = some q) (ha : a < M.length) :
    RowsAt (upd H q (.lst (((rowOf M a).map V.int).set b (.int t)))) qs (setM M a b t) := ⟨fun j q' hj => by
  unfold setM
  rw [rowOf_set ha]
  by_cases e : a = j
  · subst e
    rw [hq] at hj; cases hj
    rw [if_pos rfl, upd_same, List.map_set]
  · rw [if_neg e, upd_ne (fun z : q' = q => e (nodup_get nd hq (by rw [← z]; exact hj)))]
    exact r.get j q' hj⟩
theorem rep_flat {α : Type} (n : Nat) (x : α) : (List.replicate n [x]).flatten = List.replicate n x := by
  induction n with
  | zero => rfl
  | succ n ih => rw [List.replicate_succ, List.flatten_cons, ih]; rfl
end L2
set_option Elab.async false
set_option linter.all false
set_option maxRecDepth 100000
set_option maxHeartbeats 4000000
namespace L2
open PySem PySem.Spec PyProof.Rows
structure NamesOk (i : Nat) (l : List Int) : Prop where
  len : l.length = i
  nd : l.Nodup
  lo : ∀ x ∈ l, 0 ≤ x
  hi : ∀ x ∈ l, x < i
theorem NamesOk.nil : NamesOk 0 [] := ⟨rfl, List.nodup_nil, fun _ h => by simp at h, fun _ h => by simp at h⟩
theorem NamesOk.ins {i : Nat} {l : List Int} (h : NamesOk i l) (k : Nat) : NamesOk (i + 1) (l.take k ++ (i : Int) :: l.drop k) := by
  have hp : (l.take k ++ (i : Int) :: l.drop k).Perm ((i : Int) :: l) := by
    have := List.perm_middle (a := (i : Int)) (l₁ := l.take k) (l₂ := l.drop k)
    rw [List.take_append_drop] at this
    exact this
  refine ⟨by rw [hp.length_eq, List.length_cons, h.len], ?_, fun x hx => ?_, fun x hx => ?_⟩
  · rw [hp.nodup_iff, List.nodup_cons]
    exact ⟨fun hm => by have := h.hi _ hm; omega, h.nd⟩
  · rcases List.mem_cons.mp (hp.mem_iff.mp hx) with e | e
    · omega
    · exact h.lo x e
  · rcases List.mem_cons.mp (hp.mem_iff.mp hx) with e | e
    · omega
    · have := h.hi x e; omega
theorem NamesOk.at {i : Nat} {l : List Int} (h : NamesOk i l) {x : Nat} (hx : x < i) : 0 ≤ nth l x ∧ nth l x < i := by
  have e : nth l x = l[x]'(by rw [h.len]; exact hx) := by
    unfold nth
    rw [List.getD_eq_getElem?_getD, List.getElem?_eq_getElem (by rw [h.len]; exact hx)]; rfl
  rw [e]
  exact ⟨h.lo _ (List.getElem_mem _), h.hi _ (List.getElem_mem _)⟩
theorem NamesOk.ne {i : Nat} {l : List Int} (h : NamesOk i l) {x y : Nat} (hx : x < i) (hy : y < i) (n : x ≠ y) : nth l x ≠ nth l y := by
  have ex : nth l x = l[x]'(by rw [h.len]; exact hx) := by
    unfold nth
    rw [List.getD_eq_getElem?_getD, List.getElem?_eq_getElem (by rw [h.len]; exact hx)]; rfl
  have ey : nth l y = l[y]'(by rw [h.len]; exact hy) := by
    unfold nth
    rw [List.getD_eq_getElem?_getD, List.getElem?_eq_getElem (by rw [h.len]; exact hy)]; rfl
  rw [ex, ey]
  intro e
  exact n ((List.getElem_inj h.nd).mp e)
structure RtOk (n a b : Nat) (ts : List Tie) : Prop where
  ok : DictOk n ts
  ah : ∀ e ∈ ts, e.1 < a ∨ (e.1 = a ∧ e.2.1 < b)
theorem RtOk.more {n a b a' b' : Nat} {ts : List Tie} (h : RtOk n a b ts) (q : a < a' ∨ (a = a' ∧ b ≤ b')) : RtOk n a' b' ts := ⟨h.ok, fun e he => by have := h.ah e he; omega⟩
theorem lt_size {n : Nat} (h : n ≤ 10000) : n < sizeLine := Nat.lt_of_le_of_lt h (by decide)
theorem Same.rd {H H' : Hp} {d : Addr} {u : HO} (s : Same H H') (h : Rd H d u) : Rd H' d u := by
  rcases h with e | ⟨o, e⟩
  · exact .inl (s _ _ e)
  · exact .inr ⟨o, s _ _ e⟩
end L2
set_option Elab.async false
set_option linter.all false
set_option maxRecDepth 100000
set_option maxHeartbeats 4000000
namespace VL
open PySem PySem.Spec PyProof.Rows L2
variable {K : PySem.W.Frag}
inductive PV where
  | non | bl (b : Bool) | int (i : Int) | str (x : Str) | ty (n : String) | exc (n : Str)
  | tup (l : List PV) | lst (l : List PV) | cst (l : List PV)
  | dK (ks : List Key) (vs : List PV) | dT (ks : List (List Key)) (vs : List PV)
instance : Inhabited PV := ⟨.non⟩
mutual
/-- nothing in it can be changed -/
def pureV : PV → Bool
  | .tup l => pureL l
  | .cst l => pureL l
  | .lst _ => false
  | .dK _ _ => false
  | .dT _ _ => false
  | .non => true
  | .bl _ => true
  | .int _ => true
  | .str _ => true
  | .ty _ => true
  | .exc _ => true
def pureL : List PV → Bool
  | [] => true
  | x :: r => pureV x && pureL r
end
theorem pureL_all : ∀ l : List PV, pureL l = l.all pureV
  | [] => rfl
  | x :: r => by rw [List.all_cons, ← pureL_all r]; rfl
def KL (K : PySem.W.Frag) (a : Addr) (xs : List V) : Prop :=
  ∃ (o : Obj) (its : Array Value) (n : Nat), K.lookup a = some o ∧ o.cls = .type "list" ∧ o.dict = none ∧ o.data = .seq its n ∧ its.size ≤ sizeLine ∧ Vals xs its.toList
def CsK (K : PySem.W.Frag) (H : Hp) (p : Addr) (xs : List V) : Prop := (∃ o, H p = some (.frz o (.lst xs))) ∨ KL K p xs
theorem CsK.sq {K : PySem.W.Frag} {H : Hp} {p : Addr} {xs : List V} (h : CsK K H p xs) : SqL K H p xs := by
  rcases h with h | h
  · exact .inl (.inr h)
  · exact .inr h
mutual
/-- v is the tree l in the heap H; fp: the addresses of its lists and dicts -/
def Is (K : PySem.W.Frag) (H : Hp) : PV → V → List Addr → Prop
  | .non, v, fp => v = .non ∧ fp = []
  | .bl b, v, fp => v = .bl b ∧ fp = []
  | .int i, v, fp => v = .int i ∧ fp = []
  | .str x, v, fp => v = .str x ∧ fp = []
  | .ty n, v, fp => v = .ty n ∧ fp = []
  | .exc n, v, fp => (∃ e o x C, v = .ref e ∧ H e = some (.frz o (.own x)) ∧ o.cls = .ref C ∧ PySem.W.nsIn K mainGlobals n = some (some (.ref C)) ∧ o.dict = none ∧ ∃ vs, o.data = .fields vs) ∧ fp = []
  | .tup l, v, fp => ∃ p xs, v = .ref p ∧ H p = some (.tup xs) ∧ Iss K H l xs fp
  | .lst l, v, fp => ∃ p xs fq, v = .ref p ∧ H p = some (.lst xs) ∧ Iss K H l xs fq ∧ fp = p :: fq
  | .cst l, v, fp => ∃ p xs, v = .ref p ∧ CsK K H p xs ∧ Iss K H l xs fp
  | .dK ks l, v, fp => ∃ p kvs fq, v = .ref p ∧ Rd H p (.dK kvs) ∧ kvs.map (·.1) = ks ∧ Iss K H l (kvs.map (·.2)) fq ∧ fp = p :: fq
  | .dT ks l, v, fp => ∃ p kvs fq, v = .ref p ∧ Rd H p (.dT kvs) ∧ kvs.map (·.1) = ks ∧ Iss K H l (kvs.map (·.2)) fq ∧ fp = p :: fq
def Iss (K : PySem.W.Frag) (H : Hp) : List PV → List V → List Addr → Prop
  | [], xs, fp => xs = [] ∧ fp = []
  | l :: ls, xs, fp => ∃ x r f1 f2, xs = x :: r ∧ Is K H l x f1 ∧ Iss K H ls r f2 ∧ fp = f1 ++ f2
end
def RdK (H H' : Hp) (p : Addr) : Prop := (∀ xs, H p = some (.lst xs) → H' p = some (.lst xs)) ∧ (∀ kvs, Rd H p (.dK kvs) → Rd H' p (.dK kvs)) ∧ ∀ kvs, Rd H p (.dT kvs) → Rd H' p (.dT kvs)
theorem RdK.of {H H' : Hp} {p : Addr} (h : ∀ o, H p = some o → H' p = some o) : RdK H H' p := by
  have r : ∀ u, Rd H p u → Rd H' p u := fun u q => by
    rcases q with q | ⟨o, q⟩
    · exact .inl (h _ q)
    · exact .inr ⟨o, h _ q⟩
  exact ⟨fun _ => h _, fun _ => r _, fun _ => r _⟩
structure TK2 (H H' : Hp) : Prop where
  tup : TK H H'
  frz : ∀ b o xs, H b = some (.frz o (.lst xs)) → H' b = some (.frz o (.lst xs))
  exc : ∀ b o x, H b = some (.frz o (.own x)) → H' b = some (.frz o (.own x))
theorem Same.tk2 {H H' : Hp} (s : Same H H') : TK2 H H' := ⟨s.tk, fun b o xs h => s b _ h, fun b o x h => s b _ h⟩
theorem CsK.tr {K : PySem.W.Frag} {H H' : Hp} (t : TK2 H H') {p : Addr} {xs : List V} (h : CsK K H p xs) : CsK K H' p xs := by
  rcases h with ⟨o, h⟩ | h
  · exact .inl ⟨o, t.frz p o xs h⟩
  · exact .inr h
mutual
theorem Is.tr {H H' : Hp} (ht : TK2 H H') : ∀ (l : PV) (v : V) (fp : List Addr), (∀ p ∈ fp, RdK H H' p) → Is K H l v fp → Is K H' l v fp
  | .non, _, _, _, h => by simpa only [Is] using h
  | .bl _, _, _, _, h => by simpa only [Is] using h
  | .int _, _, _, _, h => by simpa only [Is] using h
  | .str _, _, _, _, h => by simpa only [Is] using h
  | .ty _, _, _, _, h => by simpa only [Is] using h
  | .exc _, _, _, _, h => by
    simp only [Is] at h ⊢
    obtain ⟨⟨e, o, x, C, a, b, c⟩, d⟩ := h
    exact ⟨⟨e, o, x, C, a, ht.exc e o x b, c⟩, d⟩
  | .tup l, v, fp, hm, h => by
    simp only [Is] at h ⊢
    obtain ⟨p, xs, e, hp, hi⟩ := h
    exact ⟨p, xs, e, ht.tup p xs hp, Iss.tr ht l xs fp hm hi⟩
  | .lst l, v, fp, hm, h => by
    simp only [Is] at h ⊢
    obtain ⟨p, xs, fq, e, hr, hi, rfl⟩ := h
    exact ⟨p, xs, fq, e, (hm p List.mem_cons_self).1 _ hr, Iss.tr ht l xs fq (fun q hq => hm q (List.mem_cons_of_mem _ hq)) hi, rfl⟩
  | .cst l, v, fp, hm, h => by
    simp only [Is] at h ⊢
    obtain ⟨p, xs, e, hr, hi⟩ := h
    exact ⟨p, xs, e, hr.tr ht, Iss.tr ht l xs fp hm hi⟩
  | .dK ks l, v, fp, hm, h => by
    simp only [Is] at h ⊢
    obtain ⟨p, kvs, fq, e, hr, hk, hi, rfl⟩ := h
    exact ⟨p, kvs, fq, e, (hm p List.mem_cons_self).2.1 _ hr, hk, Iss.tr ht l _ fq (fun q hq => hm q (List.mem_cons_of_mem _ hq)) hi, rfl⟩
  | .dT ks l, v, fp, hm, h => by
    simp only [Is] at h ⊢
    obtain ⟨p, kvs, fq, e, hr, hk, hi, rfl⟩ := h
    exact ⟨p, kvs, fq, e, (hm p List.mem_cons_self).2.2 _ hr, hk, Iss.tr ht l _ fq (fun q hq => hm q (List.mem_cons_of_mem _ hq)) hi, rfl⟩
theorem Iss.tr {H H' : Hp} (ht : TK2 H H') : ∀ (l : List PV) (xs : List V) (fp : List Addr), (∀ p ∈ fp, RdK H H' p) → Iss K H l xs fp → Iss K H' l xs fp
  | [], _, _, _, h => by simpa only [Iss] using h
  | l :: ls, xs, fp, hm, h => by
    simp only [Iss] at h ⊢
    obtain ⟨x, r, f1, f2, e, h1, h2, rfl⟩ := h
    exact ⟨x, r, f1, f2, e, Is.tr ht l x f1 (fun q hq => hm q (List.mem_append_left _ hq)) h1, Iss.tr ht ls r f2 (fun q hq => hm q (List.mem_append_right _ hq)) h2, rfl⟩
end
theorem Is.mono {H H' : Hp} (s : Same H H') {l : PV} {v : V} {fp : List Addr} (h : Is K H l v fp) : Is K H' l v fp := Is.tr (Same.tk2 s) l v fp (fun p _ => RdK.of fun o q => s p o q) h
theorem Iss.mono {H H' : Hp} (s : Same H H') {l : List PV} {v : List V} {fp : List Addr} (h : Iss K H l v fp) : Iss K H' l v fp := Iss.tr (Same.tk2 s) l v fp (fun p _ => RdK.of fun o q => s p o q) h
mutual
theorem Is.pure {H : Hp} : ∀ (l : PV) (v : V) (fp : List Addr), pureV l = true → Is K H l v fp → fp = []
  | .non, _, _, _, h => by simp only [Is] at h; exact h.2
  | .bl _, _, _, _, h => by simp only [Is] at h; exact h.2
  | .int _, _, _, _, h => by simp only [Is] at h; exact h.2
  | .str _, _, _, _, h => by simp only [Is] at h; exact h.2
  | .ty _, _, _, _, h => by simp only [Is] at h; exact h.2
  | .exc _, _, _, _, h => by simp only [Is] at h; exact h.2
  | .tup l, v, fp, hp, h => by
    simp only [Is] at h
    obtain ⟨p, xs, e, _, hi⟩ := h
    exact Iss.pure l xs fp (by simpa only [pureV] using hp) hi
  | .lst l, v, fp, hp, h => by simp [pureV] at hp
  | .cst l, v, fp, hp, h => by
    simp only [Is] at h
    obtain ⟨p, xs, e, _, hi⟩ := h
    exact Iss.pure l xs fp (by simpa only [pureV] using hp) hi
  | .dK ks l, v, fp, hp, h => by simp [pureV] at hp
  | .dT ks l, v, fp, hp, h => by simp [pureV] at hp
theorem Iss.pure {H : Hp} : ∀ (l : List PV) (xs : List V) (fp : List Addr), pureL l = true → Iss K H l xs fp → fp = []
  | [], _, _, _, h => by simp only [Iss] at h; exact h.2
  | l :: ls, xs, fp, hp, h => by
    simp only [Iss] at h
    simp only [pureL, Bool.and_eq_true] at hp
    obtain ⟨x, r, f1, f2, e, h1, h2, rfl⟩ := h
    rw [Is.pure l x f1 hp.1 h1, Iss.pure ls r f2 hp.2 h2]; rfl
end
section
variable {H H' : Hp}
theorem Iss.len : ∀ {l : List PV} {xs : List V} {fp : List Addr}, Iss K H l xs fp → xs.length = l.length
  | [], xs, fp, h => by simp only [Iss] at h; rw [h.1]; rfl
  | l :: ls, xs, fp, h => by
    simp only [Iss] at h
    obtain ⟨x, r, f1, f2, rfl, _, h2, _⟩ := h
    rw [List.length_cons, List.length_cons, h2.len]
theorem Iss.get : ∀ {l : List PV} {xs : List V} {fp : List Addr} {i : Nat} {a : PV}, Iss K H l xs fp → l[i]? = some a → ∃ x f1, xs[i]? = some x ∧ Is K H a x f1 ∧ ∀ p ∈ f1, p ∈ fp
  | [], xs, fp, i, a, h, e => by simp at e
  | l :: ls, xs, fp, 0, a, h, e => by
    simp only [Iss] at h
    obtain ⟨x, r, f1, f2, rfl, h1, _, rfl⟩ := h
    simp at e; subst e
    exact ⟨x, f1, rfl, h1, fun p hp => List.mem_append_left _ hp⟩
  | l :: ls, xs, fp, i + 1, a, h, e => by
    simp only [Iss] at h
    obtain ⟨x, r, f1, f2, rfl, _, h2, rfl⟩ := h
    obtain ⟨y, g, h3, h4, h5⟩ := h2.get (i := i) (a := a) (by simpa using e)
    exact ⟨y, g, by simpa using h3, h4, fun p hp => List.mem_append_right _ (h5 p hp)⟩
theorem Iss.nil : Iss K H [] [] [] := by simp [Iss]
theorem Iss.cons {l : PV} {ls : List PV} {x : V} {xs : List V} {f1 f2 : List Addr} (h1 : Is K H l x f1) (h2 : Iss K H ls xs f2) : Iss K H (l :: ls) (x :: xs) (f1 ++ f2) := by
  simp only [Iss]; exact ⟨x, xs, f1, f2, rfl, h1, h2, rfl⟩
theorem Iss.inv {l : PV} {ls : List PV} {xs : List V} {fp : List Addr} (h : Iss K H (l :: ls) xs fp) : ∃ x r f1 f2, xs = x :: r ∧ Is K H l x f1 ∧ Iss K H ls r f2 ∧ fp = f1 ++ f2 := by
  simpa only [Iss] using h
theorem Iss.append : ∀ {l m : List PV} {xs ys : List V} {f1 f2 : List Addr}, Iss K H l xs f1 → Iss K H m ys f2 → Iss K H (l ++ m) (xs ++ ys) (f1 ++ f2)
  | [], m, xs, ys, f1, f2, h, h' => by
    simp only [Iss] at h
    rw [h.1, h.2]; exact h'
  | l :: ls, m, xs, ys, f1, f2, h, h' => by
    obtain ⟨x, r, g1, g2, rfl, a, b, rfl⟩ := h.inv
    rw [List.append_assoc]
    exact Iss.cons a (b.append h')
theorem Iss.split : ∀ {l m : List PV} {zs : List V} {fp : List Addr}, Iss K H (l ++ m) zs fp → ∃ xs ys f1 f2, zs = xs ++ ys ∧ fp = f1 ++ f2 ∧ Iss K H l xs f1 ∧ Iss K H m ys f2
  | [], m, zs, fp, h => ⟨[], zs, [], fp, rfl, rfl, Iss.nil, h⟩
  | l :: ls, m, zs, fp, h => by
    obtain ⟨x, r, g1, g2, rfl, a, b, rfl⟩ := Iss.inv (show Iss K H (l :: (ls ++ m)) zs fp from h)
    obtain ⟨xs, ys, f1, f2, rfl, rfl, c, d⟩ := b.split
    exact ⟨x :: xs, ys, g1 ++ f1, f2, rfl, by rw [List.append_assoc], Iss.cons a c, d⟩
theorem Iss.one {l : PV} {x : V} {f : List Addr} (h : Is K H l x f) : Iss K H [l] [x] f := by
  have := Iss.cons h (Iss.nil (H := H))
  rwa [List.append_nil] at this
theorem Iss.take : ∀ {l : List PV} {xs : List V} {fp : List Addr} (n : Nat), Iss K H l xs fp → ∃ f1, Iss K H (l.take n) (xs.take n) f1 ∧ ∀ p ∈ f1, p ∈ fp
  | l, xs, fp, 0, h => ⟨[], by rw [List.take_zero, List.take_zero]; exact Iss.nil, fun p hp => by simp at hp⟩
  | [], xs, fp, n + 1, h => by
    simp only [Iss] at h
    rw [h.1]
    exact ⟨[], by rw [List.take_nil, List.take_nil]; exact Iss.nil, fun p hp => by simp at hp⟩
  | l :: ls, xs, fp, n + 1, h => by
    obtain ⟨x, r, f1, f2, rfl, h1, h2, rfl⟩ := h.inv
    obtain ⟨f3, a, b⟩ := h2.take n
    refine ⟨f1 ++ f3, Iss.cons h1 a, fun p hp => ?_⟩
    rcases List.mem_append.mp hp with h | h
    · exact List.mem_append_left _ h
    · exact List.mem_append_right _ (b p h)
theorem Iss.drop : ∀ {l : List PV} {xs : List V} {fp : List Addr} (n : Nat), Iss K H l xs fp → ∃ f1, Iss K H (l.drop n) (xs.drop n) f1 ∧ ∀ p ∈ f1, p ∈ fp
  | l, xs, fp, 0, h => ⟨fp, h, fun p hp => hp⟩
  | [], xs, fp, n + 1, h => by
    simp only [Iss] at h
    rw [h.1]
    exact ⟨[], by rw [List.drop_nil, List.drop_nil]; exact Iss.nil, fun p hp => by simp at hp⟩
  | l :: ls, xs, fp, n + 1, h => by
    obtain ⟨x, r, f1, f2, rfl, h1, h2, rfl⟩ := h.inv
    obtain ⟨f3, a, b⟩ := h2.drop n
    exact ⟨f3, a, fun p hp => List.mem_append_right _ (b p hp)⟩
theorem Iss.setP : ∀ {l : List PV} {xs : List V} {a : PV} {x : V} (i : Nat), pureL l = true → pureV a = true → Iss K H l xs [] → Is K H a x [] → Iss K H (l.set i a) (xs.set i x) []
  | [], xs, a, x, i, _, _, h, _ => by
    simp only [Iss] at h
    rw [h.1]; simp only [List.set_nil]; exact Iss.nil
  | l :: ls, xs, a, x, 0, hp, _, h, ha => by
    simp only [pureL, Bool.and_eq_true] at hp
    obtain ⟨y, r, f1, f2, rfl, _, h2, e⟩ := h.inv
    have e2 := Iss.pure _ _ _ hp.2 h2
    subst e2
    exact Iss.cons (f1 := []) ha h2
  | l :: ls, xs, a, x, i + 1, hp, hq, h, ha => by
    simp only [pureL, Bool.and_eq_true] at hp
    obtain ⟨y, r, f1, f2, rfl, h1, h2, e⟩ := h.inv
    have e1 := Is.pure _ _ _ hp.1 h1
    have e2 := Iss.pure _ _ _ hp.2 h2
    subst e1 e2
    exact Iss.cons (f1 := []) h1 (Iss.setP i hp.2 hq h2 ha)
theorem Is.int_inv {i : Int} {v : V} {fp : List Addr} (h : Is K H (.int i) v fp) : v = .int i ∧ fp = [] := by simpa only [Is] using h
theorem Is.int (i : Int) : Is K H (.int i) (.int i) [] := by simp [Is]
theorem Is.bl (i : Bool) : Is K H (.bl i) (.bl i) [] := by simp [Is]
theorem Is.non : Is K H .non .non [] := by simp [Is]
theorem Is.str (x : Str) : Is K H (.str x) (.str x) [] := by simp [Is]
theorem Is.ty (n : String) : Is K H (.ty n) (.ty n) [] := by simp [Is]
theorem Is.bl_inv {i : Bool} {v : V} {fp : List Addr} (h : Is K H (.bl i) v fp) : v = .bl i ∧ fp = [] := by simpa only [Is] using h
theorem Is.str_inv {i : Str} {v : V} {fp : List Addr} (h : Is K H (.str i) v fp) : v = .str i ∧ fp = [] := by simpa only [Is] using h
theorem Is.non_inv {v : V} {fp : List Addr} (h : Is K H .non v fp) : v = .non ∧ fp = [] := by simpa only [Is] using h
theorem Is.ty_inv {n : String} {v : V} {fp : List Addr} (h : Is K H (.ty n) v fp) : v = .ty n ∧ fp = [] := by simpa only [Is] using h
theorem Is.tup_inv {l : List PV} {v : V} {fp : List Addr} (h : Is K H (.tup l) v fp) : ∃ p xs, v = .ref p ∧ H p = some (.tup xs) ∧ Iss K H l xs fp := by simpa only [Is] using h
theorem Is.tup {l : List PV} {p : Addr} {xs : List V} {fp : List Addr} (h : H p = some (.tup xs)) (hi : Iss K H l xs fp) : Is K H (.tup l) (.ref p) fp := by simp only [Is]; exact ⟨p, xs, rfl, h, hi⟩
theorem Is.lst_inv {l : List PV} {v : V} {fp : List Addr} (h : Is K H (.lst l) v fp) : ∃ p xs fq, v = .ref p ∧ H p = some (.lst xs) ∧ Iss K H l xs fq ∧ fp = p :: fq := by simpa only [Is] using h
theorem Is.lst {l : List PV} {p : Addr} {xs : List V} {fp : List Addr} (h : H p = some (.lst xs)) (hi : Iss K H l xs fp) : Is K H (.lst l) (.ref p) (p :: fp) := by
  simp only [Is]; exact ⟨p, xs, fp, rfl, h, hi, rfl⟩
theorem Is.cst_inv {l : List PV} {v : V} {fp : List Addr} (h : Is K H (.cst l) v fp) : ∃ p xs, v = .ref p ∧ CsK K H p xs ∧ Iss K H l xs fp := by simpa only [Is] using h
theorem Is.cst {l : List PV} {p : Addr} {xs : List V} {fp : List Addr} (h : CsK K H p xs) (hi : Iss K H l xs fp) : Is K H (.cst l) (.ref p) fp := by
  simp only [Is]; exact ⟨p, xs, rfl, h, hi⟩
theorem Is.dT_inv {ks : List (List Key)} {l : List PV} {v : V} {fp : List Addr} (h : Is K H (.dT ks l) v fp) : ∃ p kvs fq, v = .ref p ∧ Rd H p (.dT kvs) ∧ kvs.map (·.1) = ks ∧ Iss K H l (kvs.map (·.2)) fq ∧ fp = p :: fq := by simpa only [Is] using h
theorem Is.dT {ks : List (List Key)} {l : List PV} {p : Addr} {kvs : List (List Key × V)} {fp : List Addr} (h : H p = some (.dT kvs)) (hk : kvs.map (·.1) = ks) (hi : Iss K H l (kvs.map (·.2)) fp) : Is K H (.dT ks l) (.ref p) (p :: fp) := by
  simp only [Is]; exact ⟨p, kvs, fp, rfl, .inl h, hk, hi, rfl⟩
theorem Is.dK_inv {ks : List Key} {l : List PV} {v : V} {fp : List Addr} (h : Is K H (.dK ks l) v fp) : ∃ p kvs fq, v = .ref p ∧ Rd H p (.dK kvs) ∧ kvs.map (·.1) = ks ∧ Iss K H l (kvs.map (·.2)) fq ∧ fp = p :: fq := by simpa only [Is] using h
theorem Is.dK {ks : List Key} {l : List PV} {p : Addr} {kvs : List (Key × V)} {fp : List Addr} (h : H p = some (.dK kvs)) (hk : kvs.map (·.1) = ks) (hi : Iss K H l (kvs.map (·.2)) fp) : Is K H (.dK ks l) (.ref p) (p :: fp) := by
  simp only [Is]; exact ⟨p, kvs, fp, rfl, .inl h, hk, hi, rfl⟩
end
abbrev iL (l : List Int) : List PV := l.map PV.int
theorem pure_ints (l : List Int) : pureL (iL l) = true := by
  rw [pureL_all, List.all_eq_true]
  intro x hx
  obtain ⟨i, _, rfl⟩ := List.mem_map.mp hx
  rfl
theorem Iss.iL {H : Hp} : ∀ {l : List Int} {xs : List V} {fp : List Addr}, Iss K H (VL.iL l) xs fp → xs = l.map V.int ∧ fp = []
  | [], xs, fp, h => by simpa only [VL.iL, List.map_nil, Iss] using h
  | i :: l, xs, fp, h => by
    obtain ⟨x, r, f1, f2, rfl, h1, h2, rfl⟩ := Iss.inv (show Iss K H (PV.int i :: VL.iL l) xs fp from h)
    obtain ⟨rfl, rfl⟩ := h1.int_inv
    obtain ⟨rfl, rfl⟩ := h2.iL
    exact ⟨rfl, rfl⟩
theorem Iss.ofInts {H : Hp} : ∀ (l : List Int), Iss K H (VL.iL l) (l.map V.int) []
  | [] => Iss.nil
  | i :: l => Iss.cons (f1 := []) (Is.int i) (Iss.ofInts l)
end VL
set_option Elab.async false
set_option linter.all false
set_option maxRecDepth 100000
set_option maxHeartbeats 4000000
namespace VL
open PySem PySem.Spec PyProof.Rows L2
variable {K : PySem.W.Frag}
abbrev CSt := L2.St
abbrev PSt := List (Option PV)
abbrev XE := PSt → Option PV
structure EnvIs (K : PySem.W.Frag) (Rm : Addr → Prop) (H : Hp) (s : PSt) (σ : CSt) : Prop where
  is : ∀ (i : Nat) l, s[i]? = some (some l) → ∃ v fp, σ[i]? = some (some v) ∧ Is K H l v fp ∧ ∀ p ∈ fp, ¬ Rm p
theorem EnvIs.mono {Rm : Addr → Prop} {H H' : Hp} {s : PSt} {σ : CSt} (h : EnvIs K Rm H s σ) (e : Same H H') : EnvIs K Rm H' s σ := ⟨fun i l q => by
  obtain ⟨v, fp, a, b, c⟩ := h.is i l q
  exact ⟨v, fp, a, b.mono e, c⟩⟩
theorem EnvIs.free {Rm : Addr → Prop} {H : Hp} {s : PSt} {σ : CSt} (h : EnvIs K Rm H s σ) : EnvIs K (fun _ => False) H s σ := ⟨fun i l q => by
  obtain ⟨v, fp, a, b, c⟩ := h.is i l q
  exact ⟨v, fp, a, b, fun _ _ z => z⟩⟩
theorem Same.dom {H H' : Hp} (e : Same H H') {p : Addr} (h : H p ≠ none) : H' p ≠ none := fun z => by
  cases q : H p with
  | none => exact h q
  | some o => rw [e p o q] at z; cases z
theorem Same.mut {H H' : Hp} (e : Same H H') {p : Addr} (h : Mut (H p)) : Mut (H' p) := by
  cases q : H p with
  | none => rw [q] at h; exact h.elim
  | some o => rw [e p o q, ← q]; exact h
theorem mutSome {H : Hp} {p : Addr} (h : Mut (H p)) : H p ≠ none := fun z => by rw [z] at h; exact h
def tF (K : PySem.W.Frag) (f : XE) : TE := fun σ H Q => ∃ (Rm : Addr → Prop) (s : PSt) (l : PV), (∀ p, Rm p → Mut (H p)) ∧ EnvIs K Rm H s σ ∧ f s = some l ∧ ∀ v H' fp, Same H H' → Is K H' l v fp → (∀ p ∈ fp, ¬ Rm p) → Q v H'
def tM (K : PySem.W.Frag) (f : XE) : TE := fun σ H Q => ∃ (s : PSt) (l : PV), EnvIs K (fun _ => False) H s σ ∧ f s = some l ∧ ∀ v H' fp, Same H H' → Is K H' l v fp → fp.Nodup → (∀ p ∈ fp, H p = none ∧ Mut (H' p)) → Q v H'
def VE (X : Cx) (e : Expr) (f : XE) : Prop := PE X e (tF X.K f)
def VM (X : Cx) (e : Expr) (f : XE) : Prop := PE X e (tM X.K f)
section
variable {X : Cx} {e : Expr} {f g : XE} {t t' : TE}
theorem PE.imp (h : PE X e t) (i : ∀ σ H Q, t' σ H Q → t σ H Q) : PE X e t' := fun pins s σ H Q I q => h pins s σ H Q I (i σ H Q q)
theorem VM.ve (h : VM X e f) : VE X e f := PE.imp h fun σ H Q ⟨Rm, s, l, hd, env, e, k⟩ =>
  ⟨s, l, env.free, e, fun v H' fp sm i _ n => k v H' fp sm i fun p hp z => mutSome (hd p z) (n p hp).1⟩
def eP (f : XE) : XE := fun s => (f s).bind fun l => if pureV l = true then some l else none
theorem eP_some {s : PSt} {l : PV} (h : eP f s = some l) : f s = some l ∧ pureV l = true := by
  unfold eP at h
  cases q : f s with
  | none => rw [q] at h; cases h
  | some a =>
    rw [q] at h
    simp only [Option.bind_some] at h
    split at h
    · cases h; exact ⟨rfl, by assumption⟩
    · cases h
theorem VE.pure (h : VE X e f) : VM X e (eP f) := PE.imp h fun σ H Q ⟨s, l, env, e, k⟩ => by
  obtain ⟨e1, e2⟩ := eP_some e
  refine ⟨fun _ => False, s, l, fun _ z => z.elim, env, e1, fun v H' fp sm i n => ?_⟩
  have := Is.pure l v fp e2 i
  subst this
  exact k v H' [] sm i List.nodup_nil fun p hp => by simp at hp
end
def eVar (i : Nat) : XE := fun s => (s[i]?).join
def eC (l : PV) : XE := fun _ => some l
theorem eVar_some {i : Nat} {s : PSt} {l : PV} (h : eVar i s = some l) : s[i]? = some (some l) := by
  unfold eVar at h
  cases q : s[i]? with
  | none => rw [q] at h; cases h
  | some o => rw [q] at h; cases o with
    | none => cases h
    | some a => cases h; rfl
section
variable {X : Cx} {pos : Pos}
theorem ve_of {e : Expr} {i : Nat} (h : PE X e (tVar i)) : VE X e (eVar i) := PE.imp h fun σ H Q ⟨Rm, s, l, hd, env, e, k⟩ => by
  obtain ⟨v, fp, a, b, c⟩ := env.is i l (eVar_some e)
  exact ⟨v, a, k v H fp (Same.refl H) b c⟩
theorem ve_c {e : Expr} {v : V} {l : PV} (h : PE X e (tC v)) (hv : ∀ H, Is X.K H l v []) : VE X e (eC l) := PE.imp h fun σ H Q ⟨Rm, s, l', hd, env, e, k⟩ => by
  cases e
  exact k v H [] (Same.refl H) (hv H) fun p hp => by simp at hp
theorem ve_int {i j} : VE X (.Constant (.int i) j pos) (eC (.int i)) := ve_c pe_int fun _ => Is.int i
theorem ve_bl {i j} : VE X (.Constant (.bool i) j pos) (eC (.bl i)) := ve_c pe_bl fun _ => Is.bl i
end
def RB (K : PySem.W.Frag) (r : R2) (g : PV → PV → Option PV) : Prop := ∀ (H : Hp) (x y : V) (a b l : PV) (fa fb : List Addr), Is K H a x fa → Is K H b y fb → g a b = some l → ∀ Q : VK,
  (∀ v H' fp, Same H H' → Is K H' l v fp → (∀ p ∈ fp, p ∈ fa ∨ p ∈ fb ∨ H p = none) → Q v H') → r x y H Q
def eOp (g : PV → PV → Option PV) (a b : XE) : XE := fun s => (a s).bind fun x => (b s).bind fun y => g x y
theorem eOp_some {g : PV → PV → Option PV} {a b : XE} {s : PSt} {l : PV} (h : eOp g a b s = some l) : ∃ x y, a s = some x ∧ b s = some y ∧ g x y = some l := by
  unfold eOp at h
  cases q : a s with
  | none => rw [q] at h; cases h
  | some x => cases q2 : b s with
    | none => rw [q, q2] at h; cases h
    | some y => rw [q, q2] at h; exact ⟨x, y, rfl, rfl, h⟩
section
variable {X : Cx} {a b : Expr} {fa fb : XE} {pos : Pos}
theorem tF_op {r : R2} {g : PV → PV → Option PV} (hr : RB K r g) : ∀ σ H Q, tF K (eOp g fa fb) σ H Q → tOp r (tF K fa) (tF K fb) σ H Q := fun σ H Q ⟨Rm, s, l, hd, env, e, k⟩ => by
  obtain ⟨x', y', ex, ey, e⟩ := eOp_some e
  refine ⟨Rm, s, x', hd, env, ex, fun x H1 f1 s1 i1 n1 => ⟨Rm, s, y', fun p hp => Same.mut s1 (hd p hp), env.mono s1, ey, fun y H2 f2 s2 i2 n2 => ?_⟩⟩
  refine hr H2 x y x' y' l f1 f2 (i1.mono s2) i2 e Q fun v H3 fp s3 i3 n3 => k v H3 fp (s1.trans (s2.trans s3)) i3 fun p hp z => ?_
  rcases n3 p hp with h | h | h
  · exact n1 p h z
  · exact n2 p h z
  · exact mutSome (Same.mut (s1.trans s2) (hd p z)) h
theorem ve_op {op : Operator} {r : R2} {g : PV → PV → Option PV} (ho : OpR X (binaryOp op) r) (hr : RB X.K r g) (ha : VE X a fa) (hb : VE X b fb) : VE X (.BinOp a op b pos) (eOp g fa fb) :=
  PE.imp (pe_op ho ha hb) (tF_op hr)
theorem ve_cmp {op : CmpOp} {r : R2} {g : PV → PV → Option PV} (ho : OpR X (compareOp op) r) (hr : RB X.K r g) (ha : VE X a fa) (hb : VE X b fb) (hm : behindInMarks op b = false) : VE X (.Compare a [op] [b] pos) (eOp g fa fb) :=
  PE.imp (pe_cmpR ho ha hb hm) (tF_op hr)
theorem ve_ix {r : R2} {g : PV → PV → Option PV} (ho : IxR X r) (hr : RB X.K r g) (ha : VE X a fa) (hb : VE X b fb) (hs : PlainIx b) : VE X (.Subscript a b pos) (eOp g fa fb) :=
  PE.imp (pe_ix ho ha hb hs) (tF_op hr)
end
def gI (g : Int → Int → Int) : PV → PV → Option PV
  | .int i, .int j => some (.int (g i j))
  | _, _ => none
def gB (g : Int → Int → Bool) : PV → PV → Option PV
  | .int i, .int j => some (.bl (g i j))
  | _, _ => none
def gIC (C : Int → Int → Prop) [∀ i j, Decidable (C i j)] (g : Int → Int → Int) : PV → PV → Option PV
  | .int i, .int j => if C i j then some (.int (g i j)) else none
  | _, _ => none
theorem gI_some {g : Int → Int → Int} {a b l : PV} (h : gI g a b = some l) : ∃ i j, a = .int i ∧ b = .int j ∧ l = .int (g i j) := by
  unfold gI at h; split at h
  · cases h; exact ⟨_, _, rfl, rfl, rfl⟩
  · cases h
theorem gB_some {g : Int → Int → Bool} {a b l : PV} (h : gB g a b = some l) : ∃ i j, a = .int i ∧ b = .int j ∧ l = .bl (g i j) := by
  unfold gB at h; split at h
  · cases h; exact ⟨_, _, rfl, rfl, rfl⟩
  · cases h
theorem gIC_some {C : Int → Int → Prop} [∀ i j, Decidable (C i j)] {g : Int → Int → Int} {a b l : PV} (h : gIC C g a b = some l) : ∃ i j, a = .int i ∧ b = .int j ∧ C i j ∧ l = .int (g i j) := by
  unfold gIC at h; split at h
  · split at h
    · cases h; exact ⟨_, _, rfl, rfl, by assumption, rfl⟩
    · cases h
  · cases h
theorem rb_I (g : Int → Int → Int) : RB K (rI0 fun i j => .int (g i j)) (gI g) := fun H x y a b l fa fb ha hb e Q k => by
  obtain ⟨i, j, rfl, rfl, rfl⟩ := gI_some e
  exact ⟨i, j, ha.int_inv.1, hb.int_inv.1, k _ H [] (Same.refl H) (Is.int _) fun p hp => by simp at hp⟩
theorem rb_B (g : Int → Int → Bool) : RB K (rI0 fun i j => .bl (g i j)) (gB g) := fun H x y a b l fa fb ha hb e Q k => by
  obtain ⟨i, j, rfl, rfl, rfl⟩ := gB_some e
  exact ⟨i, j, ha.int_inv.1, hb.int_inv.1, k _ H [] (Same.refl H) (Is.bl _) fun p hp => by simp at hp⟩
theorem rb_IC (C : Int → Int → Prop) [∀ i j, Decidable (C i j)] (g : Int → Int → Int) : RB K (rI C fun i j => .int (g i j)) (gIC C g) := fun H x y a b l fa fb ha hb e Q k => by
  obtain ⟨i, j, rfl, rfl, c, rfl⟩ := gIC_some e
  exact ⟨i, j, ha.int_inv.1, hb.int_inv.1, c, k _ H [] (Same.refl H) (Is.int _) fun p hp => by simp at hp⟩
instance (i j : Int) : Decidable (CMul i j) := by unfold CMul; infer_instance
instance (i j : Int) : Decidable (CDiv i j) := by unfold CDiv; infer_instance
instance (i j : Int) : Decidable (CDivN i j) := by unfold CDivN; infer_instance
instance (i j : Int) : Decidable (CPow i j) := by unfold CPow; infer_instance
abbrev oAdd := gI (· + ·)
abbrev oSub := gI (· - ·)
abbrev oMul := gIC CMul (· * ·)
abbrev oDiv := gIC CDiv (· / ·)
abbrev oMod := gIC (fun _ j => 0 < j) (· % ·)
abbrev oPow := gIC CPow (fun i j => i ^ j.toNat)
abbrev oLt := gB (fun i j => decide (i < j))
abbrev oGt := gB (fun i j => decide (j < i))
section
variable {X : Cx} {a b : Expr} {fa fb : XE} {pos : Pos}
theorem ve_add (ha : VE X a fa) (hb : VE X b fb) : VE X (.BinOp a .Add b pos) (eOp oAdd fa fb) := ve_op op_add (rb_I _) ha hb
theorem ve_sub (ha : VE X a fa) (hb : VE X b fb) : VE X (.BinOp a .Sub b pos) (eOp oSub fa fb) := ve_op op_sub (rb_I _) ha hb
theorem ve_mul (ha : VE X a fa) (hb : VE X b fb) : VE X (.BinOp a .Mult b pos) (eOp oMul fa fb) := ve_op op_mul (rb_IC _ _) ha hb
theorem ve_fdiv (ha : VE X a fa) (hb : VE X b fb) : VE X (.BinOp a .FloorDiv b pos) (eOp oDiv fa fb) := ve_op op_fdiv (rb_IC _ _) ha hb
theorem ve_mod (ha : VE X a fa) (hb : VE X b fb) : VE X (.BinOp a .Mod b pos) (eOp oMod fa fb) := ve_op op_mod (rb_IC _ _) ha hb
theorem ve_pow (ha : VE X a fa) (hb : VE X b fb) : VE X (.BinOp a .Pow b pos) (eOp oPow fa fb) := ve_op op_pow (rb_IC _ _) ha hb
end
def gIx : PV → PV → Option PV
  | .lst l, .int i => atI l i
  | .cst l, .int i => atI l i
  | .tup l, .int i => atI l i
  | .str z, .int i => if z.length ≤ sizeLine then (atI z.cps.toList i).map fun c => .str ⟨#[c]⟩ else none
  | _, _ => none
theorem atI_of {l : List PV} {xs : List V} {H : Hp} {fp : List Addr} {i : Int} {a : PV} (h : Iss K H l xs fp) (e : atI l i = some a) : ∃ x f1, atI xs i = some x ∧ Is K H a x f1 ∧ ∀ p ∈ f1, p ∈ fp := by
  unfold atI at e ⊢
  rw [h.len]
  cases q : ixN l.length i with
  | none => rw [q] at e; cases e
  | some j => rw [q] at e; exact h.get e
theorem rb_ix : RB K (rIx K) gIx := fun H x y a b l fa fb ha hb e Q k => by
  unfold gIx at e; split at e
  · obtain ⟨p, xs, fq, rfl, hp, hi, rfl⟩ := ha.lst_inv
    obtain ⟨z, f1, h1, h2, h3⟩ := atI_of hi e
    exact .inl ⟨p, xs, _, z, rfl, hb.int_inv.1, SqL.of hp, h1, k z H f1 (Same.refl H) h2 fun q hq => .inl (List.mem_cons_of_mem _ (h3 q hq))⟩
  · obtain ⟨p, xs, rfl, hp, hi⟩ := ha.cst_inv
    obtain ⟨z, f1, h1, h2, h3⟩ := atI_of hi e
    exact .inl ⟨p, xs, _, z, rfl, hb.int_inv.1, hp.sq, h1, k z H f1 (Same.refl H) h2 fun q hq => .inl (h3 q hq)⟩
  · obtain ⟨p, xs, rfl, hp, hi⟩ := ha.tup_inv
    obtain ⟨z, f1, h1, h2, h3⟩ := atI_of hi e
    exact .inr (.inl ⟨p, xs, _, z, rfl, hb.int_inv.1, SqT.of hp, h1, k z H f1 (Same.refl H) h2 fun q hq => .inl (h3 q hq)⟩)
  · split at e
    · cases q : atI _ _ with
      | none => rw [q] at e; cases e
      | some c =>
        rw [q] at e; cases e
        exact .inr (.inr ⟨_, _, c, ha.str_inv.1, hb.int_inv.1, by assumption, q, k _ H [] (Same.refl H) (Is.str _) fun p hp => by simp at hp⟩)
    · cases e
  · cases e
section
variable {X : Cx} {a b : Expr} {fa fb : XE} {pos : Pos}
theorem ve_item (ha : VE X a fa) (hb : VE X b fb) (hs : PlainIx b := by exact fun _ _ => rfl) : VE X (.Subscript a b pos) (eOp gIx fa fb) := ve_ix ix_seq rb_ix ha hb hs
end
abbrev XT := PSt → Option Bool
def tFT (K : PySem.W.Frag) (f : XT) : TT := fun σ H Q => ∃ (Rm : Addr → Prop) (s : PSt) (c : Bool), (∀ p, Rm p → Mut (H p)) ∧ EnvIs K Rm H s σ ∧ f s = some c ∧ ∀ H', Same H H' → Q c H'
def VT (X : Cx) (e : Expr) (f : XT) : Prop := PT X e (tFT X.K f)
def VW (X : Cx) (e : Expr) (f : XT) : Prop := PW X e (tFT X.K f)
section
variable {X : Cx} {e : Expr} {f : XT}
theorem PT.imp {t t' : TT} (h : PT X e t) (i : ∀ σ H Q, t' σ H Q → t σ H Q) : PT X e t' := fun pins s σ H Q I q => h pins s σ H Q I (i σ H Q q)
theorem PW.imp {t t' : TT} (h : PW X e t) (i : ∀ σ H Q, t' σ H Q → t σ H Q) : PW X e t' := fun whole pins s σ H Q I q => h whole pins s σ H Q I (i σ H Q q)
theorem VW.vt (h : VW X e f) : VT X e f := PW.pt h
end
def xB (f : XE) : XT := fun s => match f s with | some (.bl c) => some c | _ => none
theorem xB_some {f : XE} {s : PSt} {c : Bool} (h : xB f s = some c) : f s = some (.bl c) := by
  unfold xB at h; split at h
  · cases h; assumption
  · cases h
section
variable {X : Cx} {a b c : Expr} {rest : List Expr} {fa fb : XE} {ga gb : XT} {pos : Pos}
theorem vt_val (h : VE X a fa) (he : ∀ whole, isTrue a X.env whole = (do let v ← whole; standAt a.pos; holding [v] (truthy v)) := by intro _; rfl) : VT X a (xB fa) :=
  PT.imp (pt_val h he) fun σ H Q ⟨Rm, s, c, hd, env, e, k⟩ => ⟨Rm, s, .bl c, hd, env, xB_some e, fun v H' fp sm i n => ⟨c, i.bl_inv.1, k H' sm⟩⟩
theorem tTest_of : ∀ σ H Q, tFT K (xB fa) σ H Q → tTest (tF K fa) σ H Q := fun σ H Q ⟨Rm, s, c, hd, env, e, k⟩ => ⟨Rm, s, .bl c, hd, env, xB_some e, fun v H' fp sm i n => ⟨c, i.bl_inv.1, k H' sm⟩⟩
theorem tTest_mono {t t' : TE} (i : ∀ σ H Q, t' σ H Q → t σ H Q) : ∀ σ H Q, tTest t' σ H Q → tTest t σ H Q := fun σ H Q h => i σ H _ h
theorem vt_cmp {op : CmpOp} {r : R2} {g : PV → PV → Option PV} (ho : OpR X (compareOp op) r) (hr : RB X.K r g) (ha : VE X a fa) (hb : VE X b fb) (hm : behindInMarks op b = false) : VT X (.Compare a [op] [b] pos) (xB (eOp g fa fb)) :=
  PT.imp (pt_cmpR ho ha hb hm) fun σ H Q h => tTest_mono (tF_op hr) σ H Q (tTest_of σ H Q h)
theorem vt_lt (ha : VE X a fa) (hb : VE X b fb) : VT X (.Compare a [.Lt] [b] pos) (xB (eOp oLt fa fb)) := vt_cmp op_lt (rb_B _) ha hb (nomark _)
theorem vt_gt (ha : VE X a fa) (hb : VE X b fb) : VT X (.Compare a [.Gt] [b] pos) (xB (eOp oGt fa fb)) := vt_cmp op_gt (rb_B _) ha hb (nomark _)
def xAnd (a b : XT) : XT := fun s => (a s).bind fun c => if c = true then b s else some false
def xOr (a b : XT) : XT := fun s => (a s).bind fun c => if c = true then some true else b s
def xNot (a : XT) : XT := fun s => (a s).map not
theorem tFT_and : ∀ σ H Q, tFT K (xAnd ga gb) σ H Q → tAnd (tFT K ga) (tFT K gb) σ H Q := fun σ H Q ⟨Rm, s, c, hd, env, e, k⟩ => by
  unfold xAnd at e
  cases q : ga s with
  | none => rw [q] at e; cases e
  | some d =>
    rw [q] at e
    refine ⟨Rm, s, d, hd, env, q, fun H1 s1 => ?_⟩
    cases d with
    | true =>
      simp only [Option.bind_some, if_true] at e
      rw [if_pos rfl]
      exact ⟨Rm, s, c, fun p hp => Same.mut s1 (hd p hp), env.mono s1, e, fun H2 s2 => k H2 (s1.trans s2)⟩
    | false =>
      simp only [Option.bind_some, Bool.false_eq_true, if_false] at e
      cases e
      rw [if_neg Bool.false_ne_true]
      exact k H1 s1
theorem tFT_or : ∀ σ H Q, tFT K (xOr ga gb) σ H Q → tOr (tFT K ga) (tFT K gb) σ H Q := fun σ H Q ⟨Rm, s, c, hd, env, e, k⟩ => by
  unfold xOr at e
  cases q : ga s with
  | none => rw [q] at e; cases e
  | some d =>
    rw [q] at e
    refine ⟨Rm, s, d, hd, env, q, fun H1 s1 => ?_⟩
    cases d with
    | true =>
      simp only [Option.bind_some, if_true] at e
      cases e
      rw [if_pos rfl]
      exact k H1 s1
    | false =>
      simp only [Option.bind_some, Bool.false_eq_true, if_false] at e
      rw [if_neg Bool.false_ne_true]
      exact ⟨Rm, s, c, fun p hp => Same.mut s1 (hd p hp), env.mono s1, e, fun H2 s2 => k H2 (s1.trans s2)⟩
theorem vw_and1 (ha : VT X a ga) : VW X (.BoolOp .And [a] pos) ga := pw_and1 ha
theorem vw_or1 (ha : VT X a ga) : VW X (.BoolOp .Or [a] pos) ga := pw_or1 ha
theorem vw_and (ha : VT X a ga) (hb : VW X (.BoolOp .And (b :: rest) pos) gb) : VW X (.BoolOp .And (a :: b :: rest) pos) (xAnd ga gb) := PW.imp (pw_and ha hb) tFT_and
theorem vw_or (ha : VT X a ga) (hb : VW X (.BoolOp .Or (b :: rest) pos) gb) : VW X (.BoolOp .Or (a :: b :: rest) pos) (xOr ga gb) := PW.imp (pw_or ha hb) tFT_or
theorem vt_not (ha : VT X a ga) : VT X (.UnaryOp .Not a pos) (xNot ga) := PT.imp (pt_not ha) fun σ H Q ⟨Rm, s, c, hd, env, e, k⟩ => by
  unfold xNot at e
  cases q : ga s with
  | none => rw [q] at e; cases e
  | some d => rw [q] at e; cases e; exact ⟨Rm, s, d, hd, env, q, k⟩
end
section
variable {X : Cx} {a b c : Expr} {rest : List Expr} {fa fb : XE} {gc : XT} {pos : Pos}
def eAnd (a b : XE) : XE := fun s => (xB a s).bind fun c => if c = true then b s else some (.bl false)
def eOr (a b : XE) : XE := fun s => (xB a s).bind fun c => if c = true then some (.bl true) else b s
def eNot (a : XE) : XE := fun s => (xB a s).map fun c => .bl !c
def eIf (c : XT) (a b : XE) : XE := fun s => (c s).bind fun k => if k = true then a s else b s
theorem ve_one {op} (h : VE X a fa) : VE X (.BoolOp op [a] pos) fa := pe_one h
theorem ve_and (ha : VE X a fa) (hb : VE X (.BoolOp .And (b :: rest) pos) fb) : VE X (.BoolOp .And (a :: b :: rest) pos) (eAnd fa fb) := PE.imp (pe_and ha hb) fun σ H Q ⟨Rm, s, l, hd, env, e, k⟩ => by
  unfold eAnd at e
  cases q : xB fa s with
  | none => rw [q] at e; cases e
  | some d =>
    rw [q] at e
    refine ⟨Rm, s, .bl d, hd, env, xB_some q, fun v H1 fp s1 i1 _ => ⟨d, i1.bl_inv.1, ?_⟩⟩
    cases d with
    | true =>
      simp only [Option.bind_some, if_true] at e
      rw [if_pos rfl]
      exact ⟨Rm, s, l, fun p hp => Same.mut s1 (hd p hp), env.mono s1, e, fun v2 H2 fp2 s2 i2 n2 => k v2 H2 fp2 (s1.trans s2) i2 n2⟩
    | false =>
      simp only [Option.bind_some, Bool.false_eq_true, if_false] at e
      cases e
      rw [if_neg Bool.false_ne_true]
      exact k _ H1 [] s1 (Is.bl false) fun p hp => by simp at hp
theorem ve_not (ha : VE X a fa) : VE X (.UnaryOp .Not a pos) (eNot fa) := PE.imp (pe_not ha) fun σ H Q ⟨Rm, s, l, hd, env, e, k⟩ => by
  unfold eNot at e
  cases q : xB fa s with
  | none => rw [q] at e; cases e
  | some d =>
    rw [q] at e; cases e
    exact ⟨Rm, s, .bl d, hd, env, xB_some q, fun v H1 fp s1 i1 _ => ⟨d, i1.bl_inv.1, k _ H1 [] s1 (Is.bl _) fun p hp => by simp at hp⟩⟩
theorem ve_if (hc : VT X c gc) (ha : VE X a fa) (hb : VE X b fb) : VE X (.IfExp c a b pos) (eIf gc fa fb) := PE.imp (pe_ifExp hc ha hb) fun σ H Q ⟨Rm, s, l, hd, env, e, k⟩ => by
  unfold eIf at e
  cases q : gc s with
  | none => rw [q] at e; cases e
  | some d =>
    rw [q] at e
    refine ⟨Rm, s, d, hd, env, q, fun H1 s1 => ?_⟩
    cases d with
    | true =>
      simp only [Option.bind_some, if_true] at e
      rw [if_pos rfl]
      exact ⟨Rm, s, l, fun p hp => Same.mut s1 (hd p hp), env.mono s1, e, fun v2 H2 fp2 s2 i2 n2 => k v2 H2 fp2 (s1.trans s2) i2 n2⟩
    | false =>
      simp only [Option.bind_some, Bool.false_eq_true, if_false] at e
      rw [if_neg Bool.false_ne_true]
      exact ⟨Rm, s, l, fun p hp => Same.mut s1 (hd p hp), env.mono s1, e, fun v2 H2 fp2 s2 i2 n2 => k v2 H2 fp2 (s1.trans s2) i2 n2⟩
end
section
variable {X : Cx} {a b c : Expr} {fa fb fc : XE} {pos : Pos}
def gIsN (neg : Bool) : PV → Option PV
  | .non => some (.bl !neg)
  | _ => some (.bl neg)
def eIsN (neg : Bool) (a : XE) : XE := fun s => (a s).bind (gIsN neg)
def gNeg : PV → Option PV
  | .int i => some (.int (-i))
  | _ => none
def eUn (g : PV → Option PV) (a : XE) : XE := fun s => (a s).bind g
theorem ve_neg (ha : VE X a fa) : VE X (.UnaryOp .USub a pos) (eUn gNeg fa) := PE.imp (pe_un un_neg ha) fun σ H Q ⟨Rm, s, l, hd, env, e, k⟩ => by
  unfold eUn at e
  cases q : fa s with
  | none => rw [q] at e; cases e
  | some m =>
    rw [q] at e
    simp only [Option.bind_some] at e
    unfold gNeg at e
    split at e
    · cases e
      exact ⟨Rm, s, _, hd, env, q, fun v H1 fp s1 i1 _ => ⟨_, i1.int_inv.1, k _ H1 [] s1 (Is.int _) fun p hp => by simp at hp⟩⟩
    · cases e
end
end VL
set_option Elab.async false
set_option linter.all false
set_option maxRecDepth 100000
set_option maxHeartbeats 4000000
namespace VL
open PySem PySem.Spec PyProof.Rows L2
variable {K : PySem.W.Frag}
def evs : List XE → PSt → Option (List PV)
  | [], _ => some []
  | f :: fs, s => (f s).bind fun x => (evs fs s).map (x :: ·)
theorem evs_cons {f : XE} {fs : List XE} {s : PSt} {ls : List PV} (h : evs (f :: fs) s = some ls) : ∃ x r, f s = some x ∧ evs fs s = some r ∧ ls = x :: r := by
  unfold evs at h
  cases q : f s with
  | none => rw [q] at h; cases h
  | some x => cases q2 : evs fs s with
    | none => rw [q, q2] at h; cases h
    | some r => rw [q, q2] at h; cases h; exact ⟨x, r, rfl, rfl, rfl⟩
theorem evs_len : ∀ {fs : List XE} {s : PSt} {ls : List PV}, evs fs s = some ls → ls.length = fs.length
  | [], _, _, h => by cases h; rfl
  | f :: fs, s, ls, h => by
    obtain ⟨x, r, _, h2, rfl⟩ := evs_cons h
    rw [List.length_cons, List.length_cons, evs_len h2]
def tFA (K : PySem.W.Frag) (fs : List XE) : TA := fun σ H Q => ∃ (Rm : Addr → Prop) (s : PSt) (ls : List PV), (∀ p, Rm p → Mut (H p)) ∧ EnvIs K Rm H s σ ∧ evs fs s = some ls ∧ ∀ vs H' fp, Same H H' → Iss K H' ls vs fp → (∀ p ∈ fp, ¬ Rm p) → Q vs H'
def tMA (K : PySem.W.Frag) (fs : List XE) : TA := fun σ H Q => ∃ (s : PSt) (ls : List PV), EnvIs K (fun _ => False) H s σ ∧ evs fs s = some ls ∧ ∀ vs H' fp, Same H H' → Iss K H' ls vs fp → fp.Nodup → (∀ p ∈ fp, H p = none ∧ Mut (H' p)) → Q vs H'
def VA (X : Cx) (es : List Expr) (fs : List XE) : Prop := PA X es (tFA X.K fs)
def VMA (X : Cx) (es : List Expr) (fs : List XE) : Prop := PA X es (tMA X.K fs)
section
variable {X : Cx} {e : Expr} {es : List Expr} {f : XE} {fs : List XE} {pos : Pos} {k : Nat}
theorem PA.imp {t t' : TA} (h : PA X es t) (i : ∀ σ H Q, t' σ H Q → t σ H Q) : PA X es t' := fun pos pins s σ H Q I q => h pos pins s σ H Q I (i σ H Q q)
theorem va_nil : VA X [] [] := PA.imp pa_nil fun σ H Q ⟨Rm, s, ls, hd, env, e, k⟩ => by
  cases e
  exact k [] H [] (Same.refl H) Iss.nil fun p hp => by simp at hp
theorem va_cons (ha : VE X e f) (hr : VA X es fs) (hs : starEach (e :: es) X.env = (false, eval e X.env) :: starEach es X.env := by rfl) : VA X (e :: es) (f :: fs) := PA.imp (pa_cons ha hr hs) fun σ H Q ⟨Rm, s, ls, hd, env, e, k⟩ => by
  obtain ⟨x', r', h1, h2, rfl⟩ := evs_cons e
  refine ⟨Rm, s, x', hd, env, h1, fun x H1 f1 s1 i1 n1 => ⟨Rm, s, r', fun p hp => Same.mut s1 (hd p hp), env.mono s1, h2, fun xs H2 f2 s2 i2 n2 => ?_⟩⟩
  refine k _ H2 (f1 ++ f2) (s1.trans s2) (Iss.cons (i1.mono s2) i2) fun p hp => ?_
  rcases List.mem_append.mp hp with h | h
  · exact n1 p h
  · exact n2 p h
theorem vma_nil : VMA X [] [] := PA.imp pa_nil fun σ H Q ⟨s, ls, env, e, k⟩ => by
  cases e
  exact k [] H [] (Same.refl H) Iss.nil List.nodup_nil fun p hp => by simp at hp
def eTup (fs : List XE) : XE := fun s => (evs fs s).map .tup
def eLst (fs : List XE) : XE := fun s => (evs fs s).map .lst
theorem map_some {α β : Type} {o : Option α} {g : α → β} {b : β} (h : o.map g = some b) : ∃ a, o = some a ∧ b = g a := by
  cases o with
  | none => cases h
  | some a => cases h; exact ⟨a, rfl, rfl⟩
theorem ve_lst (h : VA X es fs) (hl : fs.length ≤ 1000 := by decide) : VE X (.List es pos) (eLst fs) := PE.imp (pe_lst h) fun σ H Q ⟨Rm, s, l, hd, env, e, q⟩ => by
  obtain ⟨ls, e1, rfl⟩ := map_some e
  refine ⟨Rm, s, ls, hd, env, e1, fun vs H1 fp s1 i1 n1 => ⟨?_, fun p hp => ?_⟩⟩
  · rw [i1.len, evs_len e1]; exact Nat.le_of_lt (lt_size (by omega))
  · refine q _ _ (p :: fp) (s1.trans (Same.new hp _)) (Is.lst upd_same (i1.mono (Same.new hp _))) fun a ha z => ?_
    rcases List.mem_cons.mp ha with rfl | ha
    · exact mutSome (Same.mut s1 (hd a z)) hp
    · exact n1 a ha z
theorem vm_lst (h : VMA X es fs) (hl : fs.length ≤ 1000 := by decide) : VM X (.List es pos) (eLst fs) := PE.imp (pe_lst h) fun σ H Q ⟨s, l, env, e, q⟩ => by
  obtain ⟨ls, e1, rfl⟩ := map_some e
  refine ⟨s, ls, env, e1, fun vs H1 fp s1 i1 d1 n1 => ⟨?_, fun p hp => ?_⟩⟩
  · rw [i1.len, evs_len e1]; exact Nat.le_of_lt (lt_size (by omega))
  · refine q _ _ (p :: fp) (s1.trans (Same.new hp _)) (Is.lst upd_same (i1.mono (Same.new hp _))) (List.nodup_cons.mpr ⟨fun z => mutSome (n1 p z).2 hp, d1⟩) fun a ha => ?_
    rcases List.mem_cons.mp ha with rfl | ha
    · exact ⟨Same.off s1 hp, by rw [upd_same]; exact True.intro⟩
    · exact ⟨(n1 a ha).1, Same.mut (Same.new hp _) (n1 a ha).2⟩
end
def spF (K : PySem.W.Frag) (D : List PV → Option PV) (n : Nat) : Sp := fun vs H Q _ => vs.length = n ∧ ∃ ls fp l, Iss K H ls vs fp ∧ D ls = some l ∧ ∀ v H' fq, Same H H' → Is K H' l v fq → fq.Nodup → (∀ p ∈ fq, H p = none ∧ Mut (H' p)) → Q v H'
def eCall (D : List PV → Option PV) (fs : List XE) : XE := fun s => (evs fs s).bind D
theorem bind_some' {α β : Type} {o : Option α} {g : α → Option β} {b : β} (h : o.bind g = some b) : ∃ a, o = some a ∧ g a = some b := by
  cases o with
  | none => cases h
  | some a => exact ⟨a, rfl, h⟩
section
variable {X : Cx} {x : Str} {ps : List Str} {k : Nat} {e : Expr} {es : List Expr} {fs : List XE} {p pos : Pos}
theorem vm_call {D : List PV → Option PV} {n : Nat} (C : Cal X.prog X.w X.K X.mg X.base x ps (spF X.K D n) k) (hr : Room k X.A) (hg : Gl X x) (ha : VA X (e :: es) fs) (hn : fs.length = n := by rfl)
    (hdb : (x == ("__debug__" : Str)) = false := by decide) (he : starEach (e :: es) X.env = (false, eval e X.env) :: starEach es X.env := by rfl) (hpl : (backTo pos (starEach es X.env)).any (·.1) = false := by rfl) :
    VM X (.Call (.Name x p) (e :: es) [] pos) (eCall D fs) := PE.imp (pe_cal C hr hg ha hdb he hpl) fun σ H Q ⟨s, l, env, e, q⟩ => by
  obtain ⟨ls, e1, e2⟩ := bind_some' e
  refine ⟨fun _ => False, s, ls, fun _ z => z.elim, env, e1, fun vs H1 fp s1 i1 n1 => ?_⟩
  show spF X.K D n (vs ++ []) H1 Q E0
  rw [List.append_nil]
  exact ⟨by rw [i1.len, evs_len e1, hn], ls, fp, l, i1, e2, fun v H2 fq s2 i2 d2 n2 => q v H2 fq (s1.trans s2) i2 d2 fun a ha => ⟨Same.off s1 (n2 a ha).1, (n2 a ha).2⟩⟩
end
def RC (K : PySem.W.Frag) (r : List V → Hp → VK → Prop) (g : List PV → Option PV) : Prop := ∀ (H : Hp) (vs : List V) (ls : List PV) (l : PV) (fp : List Addr), Iss K H ls vs fp → g ls = some l → ∀ Q : VK,
  (∀ v H' fq, Same H H' → Is K H' l v fq → (∀ p ∈ fq, p ∈ fp ∨ H p = none) → Q v H') → r vs H Q
theorem tF_cb {r : List V → Hp → VK → Prop} {g : List PV → Option PV} {fs : List XE} (hr : RC K r g) : ∀ σ H Q, tF K (eCall g fs) σ H Q → tCB r (tFA K fs) σ H Q := fun σ H Q ⟨Rm, s, l, hd, env, e, k⟩ => by
  obtain ⟨ls, e1, e2⟩ := bind_some' e
  refine ⟨Rm, s, ls, hd, env, e1, fun vs H1 fp s1 i1 n1 => hr H1 vs ls l fp i1 e2 Q fun v H2 fq s2 i2 n2 => k v H2 fq (s1.trans s2) i2 fun p hp z => ?_⟩
  rcases n2 p hp with h | h
  · exact n1 p h z
  · exact mutSome (Same.mut s1 (hd p z)) h
section
variable {X : Cx} {x : Str} {k : Nat} {e : Expr} {es : List Expr} {fs : List XE} {p pos : Pos} {id T : String} {r : List V → Hp → VK → Prop} {g : List PV → Option PV}
theorem ve_callB (hc : CallR X (.builtin id) r) (hr : RC X.K r g) (hg : Gl X x) (hm : X.mg x = none) (hv : bootBuiltins x = some (.builtin id)) (ha : VA X (e :: es) fs) (hn : x ≠ "__name__" := by decide) (hdb : (x == ("__debug__" : Str)) = false := by decide)
    (he : starEach (e :: es) X.env = (false, eval e X.env) :: starEach es X.env := by rfl) (hpl : (backTo pos (starEach es X.env)).any (·.1) = false := by rfl) : VE X (.Call (.Name x p) (e :: es) [] pos) (eCall g fs) :=
  PE.imp (pe_callB hc hg hm hv ha hn hdb he hpl) (tF_cb hr)
theorem ve_callTy (hc : CallR X (.type T) r) (hr : RC X.K r g) (hg : Gl X x) (hm : X.mg x = none) (hv : bootBuiltins x = some (.type T)) (ha : VA X (e :: es) fs) (hn : x ≠ "__name__" := by decide) (hdb : (x == ("__debug__" : Str)) = false := by decide)
    (he : starEach (e :: es) X.env = (false, eval e X.env) :: starEach es X.env := by rfl) (hpl : (backTo pos (starEach es X.env)).any (·.1) = false := by rfl) : VE X (.Call (.Name x p) (e :: es) [] pos) (eCall g fs) :=
  PE.imp (pe_callTy hc hg hm hv ha hn hdb he hpl) (tF_cb hr)
end
theorem Iss.one_inv {H : Hp} {l : PV} {vs : List V} {fp : List Addr} (h : Iss K H [l] vs fp) : ∃ v, vs = [v] ∧ Is K H l v fp := by
  obtain ⟨x, r, f1, f2, rfl, a, b, rfl⟩ := h.inv
  simp only [Iss] at b
  rw [b.1, b.2, List.append_nil]; exact ⟨x, rfl, a⟩
theorem Iss.two_inv {H : Hp} {l m : PV} {vs : List V} {fp : List Addr} (h : Iss K H [l, m] vs fp) : ∃ v w f1 f2, vs = [v, w] ∧ Is K H l v f1 ∧ Is K H m w f2 ∧ fp = f1 ++ f2 := by
  obtain ⟨x, r, f1, f2, rfl, a, b, rfl⟩ := h.inv
  obtain ⟨y, rfl, c⟩ := b.one_inv
  exact ⟨x, y, f1, f2, rfl, a, c, rfl⟩
def seqV : PV → Option (List PV)
  | .lst l => some l
  | .cst l => some l
  | .tup l => some l
  | _ => none
theorem seqV_of {H : Hp} {l : PV} {v : V} {fp : List Addr} {m : List PV} (h : Is K H l v fp) (e : seqV l = some m) : ∃ p xs fq, v = .ref p ∧ (SqL K H p xs ∨ SqT K H p xs) ∧ Iss K H m xs fq ∧ ∀ q ∈ fq, q ∈ fp := by
  cases l with
  | lst l =>
    cases e
    obtain ⟨p, xs, fq, rfl, hp, hi, rfl⟩ := h.lst_inv
    exact ⟨p, xs, fq, rfl, .inl (SqL.of hp), hi, fun q hq => List.mem_cons_of_mem _ hq⟩
  | cst l =>
    cases e
    obtain ⟨p, xs, rfl, hp, hi⟩ := h.cst_inv
    exact ⟨p, xs, fp, rfl, .inl hp.sq, hi, fun q hq => hq⟩
  | tup l =>
    cases e
    obtain ⟨p, xs, rfl, hp, hi⟩ := h.tup_inv
    exact ⟨p, xs, fp, rfl, .inr (SqT.of hp), hi, fun q hq => hq⟩
  | _ => cases e
def gLen : List PV → Option PV
  | [.str z] => if z.length ≤ sizeLine then some (.int z.length) else none
  | [l] => (seqV l).map fun m => .int m.length
  | _ => none
theorem rc_len : RC K (fun xs H Q => ∃ x n, xs = [x] ∧ LenV K x H n ∧ Q (.int n) H) gLen := fun H vs ls l fp h e Q k => by
  unfold gLen at e
  split at e
  · split at e
    · cases e
      obtain ⟨v, rfl, i⟩ := h.one_inv
      exact ⟨v, _, rfl, by rw [i.str_inv.1]; exact ⟨by assumption, rfl⟩, k _ H [] (Same.refl H) (Is.int _) fun p hp => by simp at hp⟩
    · cases e
  · obtain ⟨m, e1, rfl⟩ := map_some e
    obtain ⟨v, rfl, i⟩ := h.one_inv
    obtain ⟨p, xs, fq, rfl, hp, hi, _⟩ := seqV_of (K := K) i e1
    refine ⟨_, xs.length, rfl, ?_, ?_⟩
    · rcases hp with hp | hp
      · exact .inl ⟨xs, hp, rfl⟩
      · exact .inr ⟨xs, hp, rfl⟩
    · rw [hi.len]
      exact k _ H [] (Same.refl H) (Is.int _) fun p hp => by simp at hp
  · cases e
def gTuple : List PV → Option PV
  | [l] => (seqV l).map .tup
  | _ => none
theorem rc_tuple : RC K (rTupOf K) gTuple := fun H vs ls l fp h e Q k => by
  unfold gTuple at e
  split at e
  · obtain ⟨m, e1, rfl⟩ := map_some e
    obtain ⟨v, rfl, i⟩ := h.one_inv
    rename_i l0
    cases l0 with
    | tup l =>
      cases e1
      obtain ⟨p, xs, rfl, hp, hi⟩ := id i.tup_inv
      exact ⟨p, xs, rfl, .inr ⟨SqT.of hp, k _ H fp (Same.refl H) i fun a ha => .inl ha⟩⟩
    | lst l =>
      cases e1
      obtain ⟨p, xs, fq, rfl, hp, hi, rfl⟩ := i.lst_inv
      exact ⟨p, xs, rfl, .inl ⟨SqL.of hp, fun q hq => k _ _ fq (Same.new hq _) (Is.tup upd_same (hi.mono (Same.new hq _))) fun a ha => .inl (List.mem_cons_of_mem _ ha)⟩⟩
    | cst l =>
      cases e1
      obtain ⟨p, xs, rfl, hp, hi⟩ := i.cst_inv
      exact ⟨p, xs, rfl, .inl ⟨hp.sq, fun q hq => k _ _ fp (Same.new hq _) (Is.tup upd_same (hi.mono (Same.new hq _))) fun a ha => .inl ha⟩⟩
    | _ => cases e1
  · cases e
def gListP : List PV → Option PV
  | [l] => (seqV l).bind fun m => if pureL m = true then some (.lst m) else none
  | _ => none
def intsOf : List PV → Option (List Int)
  | [] => some []
  | .int i :: r => (intsOf r).map (i :: ·)
  | _ => none
theorem intsOf_ints : ∀ l : List Int, intsOf (iL l) = some l
  | [] => rfl
  | i :: r => by show (intsOf (iL r)).map (i :: ·) = _; rw [intsOf_ints r]; rfl
theorem intsOf_some : ∀ {m : List PV} {l : List Int}, intsOf m = some l → m = iL l
  | [], l, h => by cases h; rfl
  | .int i :: r, l, h => by
    obtain ⟨a, e, rfl⟩ := map_some (show (intsOf r).map (i :: ·) = some l from h)
    rw [intsOf_some e]; rfl
  | .non :: _, _, h => by cases h
  | .bl _ :: _, _, h => by cases h
  | .str _ :: _, _, h => by cases h
  | .ty _ :: _, _, h => by cases h
  | .exc _ :: _, _, h => by cases h
  | .tup _ :: _, _, h => by cases h
  | .lst _ :: _, _, h => by cases h
  | .cst _ :: _, _, h => by cases h
  | .dK _ _ :: _, _, h => by cases h
  | .dT _ _ :: _, _, h => by cases h
abbrev bL (l : List Bool) : List PV := l.map PV.bl
def boolsOf : List PV → Option (List Bool)
  | [] => some []
  | .bl i :: r => (boolsOf r).map (i :: ·)
  | _ => none
theorem boolsOf_bools : ∀ l : List Bool, boolsOf (bL l) = some l
  | [] => rfl
  | i :: r => by show (boolsOf (bL r)).map (i :: ·) = _; rw [boolsOf_bools r]; rfl
theorem boolsOf_some : ∀ {m : List PV} {l : List Bool}, boolsOf m = some l → m = bL l
  | [], l, h => by cases h; rfl
  | .bl i :: r, l, h => by
    obtain ⟨a, e, rfl⟩ := map_some (show (boolsOf r).map (i :: ·) = some l from h)
    rw [boolsOf_some e]; rfl
  | .non :: _, _, h => by cases h
  | .int _ :: _, _, h => by cases h
  | .str _ :: _, _, h => by cases h
  | .ty _ :: _, _, h => by cases h
  | .exc _ :: _, _, h => by cases h
  | .tup _ :: _, _, h => by cases h
  | .lst _ :: _, _, h => by cases h
  | .cst _ :: _, _, h => by cases h
  | .dK _ _ :: _, _, h => by cases h
  | .dT _ _ :: _, _, h => by cases h
theorem Iss.bL {H : Hp} : ∀ {l : List Bool} {xs : List V} {fp : List Addr}, Iss K H (VL.bL l) xs fp → xs = l.map V.bl ∧ fp = []
  | [], xs, fp, h => by simpa only [VL.bL, List.map_nil, Iss] using h
  | i :: l, xs, fp, h => by
    obtain ⟨x, r, f1, f2, rfl, h1, h2, rfl⟩ := Iss.inv (show Iss K H (PV.bl i :: VL.bL l) xs fp from h)
    obtain ⟨rfl, rfl⟩ := h1.bl_inv
    obtain ⟨rfl, rfl⟩ := h2.bL
    exact ⟨rfl, rfl⟩
theorem sqB_of {H : Hp} {p : Addr} {xs : List V} (h : SqL K H p xs ∨ SqT K H p xs) : ∃ b, SqB b K H p xs := by
  rcases h with h | h
  · exact ⟨true, h⟩
  · exact ⟨false, h⟩
def gSum : List PV → Option PV
  | [l] => (seqV l).bind fun m => (intsOf m).map fun ns => .int ns.sum
  | _ => none
def gAll : List PV → Option PV
  | [l] => (seqV l).bind fun m => (boolsOf m).map fun bs => .bl (bs.all id)
  | _ => none
def gAny : List PV → Option PV
  | [l] => (seqV l).bind fun m => (boolsOf m).map fun bs => .bl (bs.any id)
  | _ => none
theorem rc_sum : RC K (fun xs H Q => ∃ (b : Bool) (p : Addr) (ns : List Int), xs = [.ref p] ∧ SqB b K H p (ns.map V.int) ∧ Q (.int ns.sum) H) gSum := fun H vs ls l fp h e Q k => by
  unfold gSum at e
  split at e
  · obtain ⟨m, e1, e2⟩ := bind_some' e
    obtain ⟨ns, e3, rfl⟩ := map_some e2
    obtain ⟨v, rfl, i⟩ := h.one_inv
    obtain ⟨p, xs, fq, rfl, hp, hi, hs⟩ := seqV_of (K := K) i e1
    have em := intsOf_some e3
    subst em
    obtain ⟨rfl, rfl⟩ := hi.iL
    obtain ⟨b, hb⟩ := sqB_of hp
    exact ⟨b, p, ns, rfl, hb, k _ H [] (Same.refl H) (Is.int _) fun p hp => by simp at hp⟩
  · cases e
theorem rc_all : RC K (fun xs H Q => ∃ (b : Bool) (p : Addr) (bs : List Bool), xs = [.ref p] ∧ SqB b K H p (bs.map V.bl) ∧ Q (.bl (bs.all id)) H) gAll := fun H vs ls l fp h e Q k => by
  unfold gAll at e
  split at e
  · obtain ⟨m, e1, e2⟩ := bind_some' e
    obtain ⟨ns, e3, rfl⟩ := map_some e2
    obtain ⟨v, rfl, i⟩ := h.one_inv
    obtain ⟨p, xs, fq, rfl, hp, hi, hs⟩ := seqV_of (K := K) i e1
    have em := boolsOf_some e3
    subst em
    obtain ⟨rfl, rfl⟩ := hi.bL
    obtain ⟨b, hb⟩ := sqB_of hp
    exact ⟨b, p, ns, rfl, hb, k _ H [] (Same.refl H) (Is.bl _) fun p hp => by simp at hp⟩
  · cases e
def gMin2 : List PV → Option PV
  | [.int i, .int j] => some (.int (if j < i then j else i))
  | _ => none
def gMax2 : List PV → Option PV
  | [.int i, .int j] => some (.int (if j > i then j else i))
  | _ => none
def gInt1 : List PV → Option PV
  | [.int i] => some (.int i)
  | [.bl c] => some (.int (if c then 1 else 0))
  | _ => none
theorem rc_min2 : RC K (fun xs H Q => ∃ i j, xs = [.int i, .int j] ∧ Q (.int (if j < i then j else i)) H) gMin2 := fun H vs ls l fp h e Q k => by
  unfold gMin2 at e
  split at e
  · cases e
    obtain ⟨v, w, f1, f2, rfl, a, b, rfl⟩ := h.two_inv
    exact ⟨_, _, by rw [a.int_inv.1, b.int_inv.1], k _ H [] (Same.refl H) (Is.int _) fun p hp => by simp at hp⟩
  · cases e
section
variable {X : Cx} {e : Expr} {es : List Expr} {fs : List XE} {p pos : Pos}
def gInst : List PV → Option PV
  | [.int _, .ty "int"] => some (.bl true)
  | [.int _, .ty "bool"] => some (.bl false)
  | [.bl _, .ty "bool"] => some (.bl true)
  | [.tup _, .ty "tuple"] => some (.bl true)
  | [.lst _, .ty "list"] => some (.bl true)
  | [.str _, .ty "str"] => some (.bl true)
  | _ => none
theorem kit_bool_bool : PySem.W.kitOne K (.type "bool") (.type "bool") = some true := rfl
theorem rc_inst : RC K (fun xs H Q => ∃ x T t b, xs = [x, .ty T] ∧ TyOf K H x t ∧ PySem.W.kitOne K t (.type T) = some b ∧ Q (.bl b) H) gInst := fun H vs ls l fp h e Q k => by
  have fin : ∀ b : Bool, l = .bl b → Q (.bl b) H := fun b z => by subst z; exact k _ H [] (Same.refl H) (Is.bl _) fun p hp => by simp at hp
  unfold gInst at e
  split at e <;> first
    | (cases e
       obtain ⟨v, w, f1, f2, rfl, a, b, rfl⟩ := h.two_inv
       first
         | (obtain ⟨rfl, _⟩ := a.int_inv; first
             | exact ⟨_, _, _, _, by rw [b.ty_inv.1], TyOf.int _, kit_int_int, fin _ rfl⟩
             | exact ⟨_, _, _, _, by rw [b.ty_inv.1], TyOf.int _, kit_int_bool, fin _ rfl⟩)
         | (obtain ⟨rfl, _⟩ := a.bl_inv; exact ⟨_, _, _, _, by rw [b.ty_inv.1], TyOf.bl _, kit_bool_bool, fin _ rfl⟩)
         | (obtain ⟨rfl, _⟩ := a.str_inv; exact ⟨_, _, _, _, by rw [b.ty_inv.1], TyOf.str _, kit_str_str, fin _ rfl⟩)
         | (obtain ⟨q, xs, rfl, hp, _⟩ := a.tup_inv; exact ⟨_, _, _, _, by rw [b.ty_inv.1], TyOf.tup hp, kit_tup_tup, fin _ rfl⟩)
         | (obtain ⟨q, xs, fq, rfl, hp, _⟩ := a.lst_inv
            exact ⟨_, _, _, _, by rw [b.ty_inv.1], TyOf.lst hp, kit_list_list, fin _ rfl⟩))
    | cases e
theorem ve_ty {x : Str} {n : String} (hg : Gl X x) (hm : X.mg x = none) (hv : bootBuiltins x = some (.type n)) (hn : x ≠ "__name__" := by decide) (hd : (x == ("__debug__" : Str)) = false := by decide) : VE X (.Name x pos) (eC (.ty n)) :=
  ve_c (pe_bltn hg hm hv (v := .ty n) rfl hn hd) fun _ => Is.ty n
end
end VL
set_option Elab.async false
set_option linter.all false
set_option maxRecDepth 100000
set_option maxHeartbeats 4000000
namespace VL
open PySem PySem.Spec PyProof.Rows L2
variable {K : PySem.W.Frag}
open Classical in
noncomputable instance : DecidableEq PV := fun a b => propDecidable (a = b)
def cmpb : Nat → PV → PV → Bool
  | _ + 1, .non, .non => true
  | _ + 1, .bl _, .bl _ => true
  | _ + 1, .int _, .int _ => true
  | _ + 1, .str _, .str _ => true
  | n + 1, .tup l, .tup m => (l.zip m).all fun z => cmpb n z.1 z.2
  | n + 1, .lst l, .lst m => (l.zip m).all fun z => cmpb n z.1 z.2
  | _, _, _ => false
theorem zip_all_cons {α β : Type} {p : α × β → Bool} {a : α} {b : β} {l : List α} {m : List β} (h : ((a :: l).zip (b :: m)).all p = true) : p (a, b) = true ∧ (l.zip m).all p = true := by
  rw [List.zip_cons_cons, List.all_cons, Bool.and_eq_true] at h; exact h
theorem Iss.inj' {n : Nat} {H : Hp} (ih : ∀ a b v fa fb, cmpb n a b = true → Is K H a v fa → Is K H b v fb → a = b) : ∀ {l m : List PV} {xs : List V} {fa fb : List Addr}, (l.zip m).all (fun z => cmpb n z.1 z.2) = true → Iss K H l xs fa → Iss K H m xs fb → l = m
  | [], m, xs, fa, fb, _, h, h' => by
    simp only [Iss] at h
    rw [h.1] at h'
    have := h'.len
    cases m with
    | nil => rfl
    | cons _ _ => simp at this
  | a :: l, m, xs, fa, fb, hc, h, h' => by
    obtain ⟨x, r, f1, f2, rfl, h1, h2, rfl⟩ := h.inv
    cases m with
    | nil => have := h'.len; simp at this
    | cons b m =>
      obtain ⟨x', r', g1, g2, e, h3, h4, rfl⟩ := h'.inv
      cases e
      obtain ⟨c1, c2⟩ := zip_all_cons hc
      rw [ih a b x f1 g1 c1 h1 h3, Iss.inj' ih c2 h2 h4]
theorem Is.inj' {H : Hp} : ∀ (n : Nat) (a b : PV) (v : V) (fa fb : List Addr), cmpb n a b = true → Is K H a v fa → Is K H b v fb → a = b
  | 0, a, b, v, fa, fb, hc, _, _ => by unfold cmpb at hc; simp at hc
  | n + 1, a, b, v, fa, fb, hc, ha, hb => by
    cases a <;> cases b <;> first
      | (exfalso; revert hc; unfold cmpb; simp; done)
      | skip
    · rfl
    · rw [ha.bl_inv.1] at hb; have := hb.bl_inv.1; cases this; rfl
    · rw [ha.int_inv.1] at hb; have := hb.int_inv.1; cases this; rfl
    · rw [ha.str_inv.1] at hb; have := hb.str_inv.1; cases this; rfl
    · obtain ⟨p, xs, rfl, hp, hi⟩ := ha.tup_inv
      obtain ⟨p', ys, e, hp', hi'⟩ := hb.tup_inv
      cases e
      rw [hp] at hp'; cases hp'
      unfold cmpb at hc
      rw [Iss.inj' (Is.inj' n) hc hi hi']
    · obtain ⟨p, xs, fq, rfl, hp, hi, _⟩ := ha.lst_inv
      obtain ⟨p', ys, fq', e, hp', hi', _⟩ := hb.lst_inv
      cases e
      rw [hp] at hp'; cases hp'
      unfold cmpb at hc
      rw [Iss.inj' (Is.inj' n) hc hi hi']
section
variable {X : Cx} {pins : List (Addr × Obj)} {σ : CSt} {H : Hp} {s : Shared} {A : Around}
theorem eqs_of {n : Nat} (ih : ∀ a b x y fa fb u w, cmpb n a b = true → Is K H a x fa → Is K H b y fb → RelV x u → RelV y w → ∃ r, SeqAt.EqAt A s u w r ∧ (r = true ↔ a = b)) :
    ∀ {l m : List PV} {xs ys : List V} {fa fb : List Addr} {us ws : List Value}, (l.zip m).all (fun z => cmpb n z.1 z.2) = true → Iss K H l xs fa → Iss K H m ys fb → Vals xs us → Vals ys ws →
    ∃ e : Nat → Bool, (∀ j (h1 : j < us.length) (h2 : j < ws.length), SeqAt.EqAt A s us[j] ws[j] (e j)) ∧ ((List.range (min us.length ws.length)).all e = true ↔ l.take (min us.length ws.length) = m.take (min us.length ws.length))
  | [], m, xs, ys, fa, fb, us, ws, _, h, _, r, _ => by
    simp only [Iss] at h
    obtain ⟨rfl, _⟩ := h
    cases r
    exact ⟨fun _ => true, fun j h1 => by simp at h1, by simp⟩
  | a :: l, [], xs, ys, fa, fb, us, ws, _, _, h, _, r => by
    simp only [Iss] at h
    obtain ⟨rfl, _⟩ := h
    cases r
    exact ⟨fun _ => true, fun j h1 h2 => by simp at h2, by simp⟩
  | a :: l, b :: m, xs, ys, fa, fb, us, ws, hc, h, h', r, r' => by
    obtain ⟨x, xr, f1, f2, rfl, h1, h2, rfl⟩ := h.inv
    obtain ⟨y, yr, g1, g2, rfl, h3, h4, rfl⟩ := h'.inv
    obtain ⟨c1, c2⟩ := zip_all_cons hc
    cases r with
    | cons q v => cases r' with
      | cons q' v' =>
        obtain ⟨t, ht, ht'⟩ := ih a b x y f1 g1 _ _ c1 h1 h3 q q'
        obtain ⟨e, he, he'⟩ := eqs_of ih c2 h2 h4 v v'
        refine ⟨fun j => match j with | 0 => t | k + 1 => e k, fun j h1 h2 => ?_, ?_⟩
        · cases j with
          | zero => exact ht
          | succ k => exact he k (by simpa using h1) (by simpa using h2)
        · simp only [List.length_cons, Nat.succ_min_succ, List.range_succ_eq_map, List.all_cons, List.all_map, Bool.and_eq_true, List.take_succ_cons, List.cons.injEq]
          exact and_congr ht' he'
theorem Iss.same' {l m : List PV} {xs ys : List V} {fa fb : List Addr} {us ws : List Value} (h : Iss K H l xs fa) (h' : Iss K H m ys fb) (r : Vals xs us) (r' : Vals ys ws) :
    (l.take (min us.length ws.length) = m.take (min us.length ws.length) ∧ us.length = ws.length) ↔ l = m := by
  have e1 := h.len; have e2 := h'.len; have e3 := r.length; have e4 := r'.length
  constructor
  · rintro ⟨a, b⟩
    rw [List.take_of_length_le (by omega), List.take_of_length_le (by omega)] at a
    exact a
  · intro a
    subst a
    exact ⟨rfl, by omega⟩
def CmpAt (A : Around) (s : Shared) (u w : Value) (r : Bool) : Prop := SeqAt.RcAt A s u w r ∧ SeqAt.RcNeAt A s u w !r
theorem cmp_of (I : Inv X pins σ H s) : ∀ (n : Nat) (A : Around) (a b : PV) (x y : V) (fa fb : List Addr) (u w : Value), A.units + 2 * n + 2 < cLine → cmpb n a b = true → Is K H a x fa → Is K H b y fb → RelV x u → RelV y w →
    (∃ r, SeqAt.EqAt A s u w r ∧ (r = true ↔ a = b)) ∧ ∃ r, CmpAt A s u w r ∧ (r = true ↔ a = b)
  | 0, A, a, b, x, y, fa, fb, u, w, hu, hc, _, _, _, _ => by unfold cmpb at hc; simp at hc
  | n + 1, A, a, b, x, y, fa, fb, u, w, hu, hc, ha, hb, ru, rw' => by
    cases a <;> cases b <;> first
      | (exfalso; revert hc; unfold cmpb; simp; done)
      | skip
    · rw [ha.non_inv.1] at ru; rw [hb.non_inv.1] at rw'
      cases ru; cases rw'
      exact ⟨⟨true, SeqAt.EqAt.same _, by simp⟩, true, ⟨SeqAt.RcAt.none_none, SeqAt.RcNeAt.none_none⟩, by simp⟩
    · rw [ha.bl_inv.1] at ru; rw [hb.bl_inv.1] at rw'
      cases ru; cases rw'
      exact ⟨⟨_, SeqAt.EqAt.bool_bool _ _, by simp⟩, _, ⟨SeqAt.RcAt.bool_bool _ _, SeqAt.RcNeAt.bool_bool _ _⟩, by simp⟩
    · rw [ha.int_inv.1] at ru; rw [hb.int_inv.1] at rw'
      obtain ⟨t, rfl⟩ := ru
      obtain ⟨t', rfl⟩ := rw'
      exact ⟨⟨_, SeqAt.EqAt.int_int _ _ _ _, by simp⟩, _, ⟨SeqAt.RcAt.int_int _ _ _ _, SeqAt.RcNeAt.int_int _ _ _ _⟩, by simp⟩
    · rw [ha.str_inv.1] at ru; rw [hb.str_inv.1] at rw'
      obtain ⟨t, rfl⟩ := ru
      obtain ⟨t', rfl⟩ := rw'
      exact ⟨⟨_, SeqAt.EqAt.str_str _ _ _ _, by simp⟩, _, ⟨SeqAt.RcAt.str_str _ _ _ _, SeqAt.RcNeAt.str_str _ _ _ _⟩, by simp⟩
    · rename_i l1 l2
      obtain ⟨p, xs, rfl, hp, hi⟩ := id ha.tup_inv
      obtain ⟨p', ys, rfl, hp', hi'⟩ := id hb.tup_inv
      cases ru
      cases rw'
      have hc' := hc
      unfold cmpb at hc'
      obtain ⟨us, rv, q, _⟩ := I.tuple (SqT.of hp)
      obtain ⟨ws, rv', q', _⟩ := I.tuple (SqT.of hp')
      obtain ⟨f, hf, hf'⟩ := eqs_of (A := A.in1) (fun a b x y fa fb u w c i1 i2 r1 r2 => (cmp_of I n A.in1 a b x y fa fb u w (by show A.units + 1 + 2 * n + 2 < cLine; omega) c i1 i2 r1 r2).1) hc' hi hi' rv rv'
      have rc := SeqAt.RcAt.tuples (A := A) (e := f) (show s.heap.IsTuple p us.toArray from q) (show s.heap.IsTuple p' ws.toArray from q') (by omega) (fun j h1 h2 => hf j (by simpa using h1) (by simpa using h2))
      have rn := SeqAt.RcNeAt.tuples (A := A) (e := f) (show s.heap.IsTuple p us.toArray from q) (show s.heap.IsTuple p' ws.toArray from q') (by omega) (fun j h1 h2 => hf j (by simpa using h1) (by simpa using h2))
      have key : (((List.range (min us.toArray.size ws.toArray.size)).all f && us.toArray.size == ws.toArray.size) = true) ↔ PV.tup l1 = PV.tup l2 := by
        simp only [List.size_toArray, Bool.and_eq_true, beq_iff_eq, PV.tup.injEq]
        rw [hf']
        exact Iss.same' hi hi' rv rv'
      refine ⟨?_, _, ⟨rc, rn⟩, key⟩
      by_cases e : p = p'
      · subst e
        exact ⟨true, SeqAt.EqAt.same _, by simp [Is.inj' (n + 1) _ _ _ _ _ hc ha hb]⟩
      · exact ⟨_, SeqAt.EqAt.of_refs e rc, key⟩
    · rename_i l1 l2
      obtain ⟨p, xs, fq, rfl, hp, hi, _⟩ := id ha.lst_inv
      obtain ⟨p', ys, fq', rfl, hp', hi', _⟩ := id hb.lst_inv
      cases ru
      cases rw'
      have hc' := hc
      unfold cmpb at hc'
      obtain ⟨us, rv, q, _⟩ := I.list (SqL.of hp)
      obtain ⟨ws, rv', q', _⟩ := I.list (SqL.of hp')
      obtain ⟨f, hf, hf'⟩ := eqs_of (A := A.in1) (fun a b x y fa fb u w c i1 i2 r1 r2 => (cmp_of I n A.in1 a b x y fa fb u w (by show A.units + 1 + 2 * n + 2 < cLine; omega) c i1 i2 r1 r2).1) hc' hi hi' rv rv'
      have fin : ∃ r, CmpAt A s (.ref p) (.ref p') r ∧ (r = true ↔ PV.lst l1 = PV.lst l2) := by
        have key := Iss.same' hi hi' rv rv'
        by_cases hsz : us.length = ws.length
        · refine ⟨_, ⟨SeqAt.RcAt.lists (e := f) q.isList q'.isList (by simpa using hsz) (by omega) (fun j h1 h2 => hf j (by simpa using h1) (by simpa using h2)), SeqAt.RcNeAt.lists (e := f) q.isList q'.isList (by simpa using hsz) (by omega) (fun j h1 h2 => hf j (by simpa using h1) (by simpa using h2))⟩, ?_⟩
          rw [hsz, Nat.min_self] at hf' key
          simp only [List.size_toArray, PV.lst.injEq]
          rw [hsz, hf', ← key]
          simp
        · refine ⟨false, ⟨SeqAt.RcAt.lists_lengths q.isList q'.isList (by simpa using hsz) (by omega), SeqAt.RcNeAt.lists_lengths q.isList q'.isList (by simpa using hsz) (by omega)⟩, ?_⟩
          rw [PV.lst.injEq, ← key]
          simp [hsz]
      obtain ⟨r, hr, hk⟩ := fin
      refine ⟨?_, r, hr, hk⟩
      by_cases e : p = p'
      · subst e
        exact ⟨true, SeqAt.EqAt.same _, by simp [Is.inj' (n + 1) _ _ _ _ _ hc ha hb]⟩
      · exact ⟨r, SeqAt.EqAt.of_refs e hr.1, hk⟩
end
def rEqV (K : PySem.W.Frag) (neg : Bool) : R2 := fun x y H Q => ∃ a b fa fb, Is K H a x fa ∧ Is K H b y fb ∧ cmpb 8 a b = true ∧ ∀ r : Bool, (r = true ↔ a = b) → Q (.bl (if neg then !r else r)) H
section
variable {X : Cx}
theorem op_eqV (hu : X.A.units + 64 < cLine) : OpR X (compareOp .Eq) (rEqV X.K false) := by
  intro pins s σ H x y v u Q I rx ry h
  obtain ⟨a, b, fa, fb, ha, hb, hc, q⟩ := h
  obtain ⟨_, r, hr, hk⟩ := cmp_of I 8 X.A a b x y fa fb v u (by omega) hc ha hb rx ry
  exact hr.1 X.prog X.w X.xe _ ⟨.bl r, H, I, rfl, q r hk⟩
theorem op_neV (hu : X.A.units + 64 < cLine) : OpR X (compareOp .NotEq) (rEqV X.K true) := by
  intro pins s σ H x y v u Q I rx ry h
  obtain ⟨a, b, fa, fb, ha, hb, hc, q⟩ := h
  obtain ⟨_, r, hr, hk⟩ := cmp_of I 8 X.A a b x y fa fb v u (by omega) hc ha hb rx ry
  exact hr.2 X.prog X.w X.xe _ ⟨.bl !r, H, I, rfl, q r hk⟩
end
noncomputable def gEq (neg : Bool) : PV → PV → Option PV := fun a b => if cmpb 8 a b = true then some (.bl (if neg then !decide (a = b) else decide (a = b))) else none
theorem rb_eqV (neg : Bool) : RB K (rEqV K neg) (gEq neg) := fun H x y a b l fa fb ha hb e Q k => by
  unfold gEq at e
  split at e
  · cases e
    refine ⟨a, b, fa, fb, ha, hb, by assumption, fun r hr => ?_⟩
    have : r = decide (a = b) := by
      cases r with
      | true => exact (decide_eq_true (hr.mp rfl)).symm
      | false => exact (decide_eq_false fun z => Bool.false_ne_true (hr.mpr z)).symm
    subst this
    exact k _ H [] (Same.refl H) (Is.bl _) fun p hp => by simp at hp
  · cases e
end VL
set_option Elab.async false
set_option linter.all false
set_option maxRecDepth 100000
set_option maxHeartbeats 4000000
namespace VL
open PySem PySem.Spec PyProof.Rows L2
variable {K : PySem.W.Frag}
mutual
theorem Is.dom {H : Hp} : ∀ (l : PV) (v : V) (fp : List Addr), Is K H l v fp → ∀ p ∈ fp, H p ≠ none
  | .non, _, _, h => by simp only [Is] at h; rw [h.2]; simp
  | .bl _, _, _, h => by simp only [Is] at h; rw [h.2]; simp
  | .int _, _, _, h => by simp only [Is] at h; rw [h.2]; simp
  | .str _, _, _, h => by simp only [Is] at h; rw [h.2]; simp
  | .ty _, _, _, h => by simp only [Is] at h; rw [h.2]; simp
  | .exc _, _, _, h => by simp only [Is] at h; rw [h.2]; simp
  | .tup l, v, fp, h => by
    obtain ⟨p, xs, _, _, hi⟩ := h.tup_inv
    exact Iss.dom l xs fp hi
  | .lst l, v, fp, h => by
    obtain ⟨p, xs, fq, _, hp, hi, rfl⟩ := h.lst_inv
    intro q hq
    rcases List.mem_cons.mp hq with rfl | hq
    · rw [hp]; simp
    · exact Iss.dom l xs fq hi q hq
  | .cst l, v, fp, h => by
    obtain ⟨p, xs, _, _, hi⟩ := h.cst_inv
    exact Iss.dom l xs fp hi
  | .dK ks l, v, fp, h => by
    obtain ⟨p, kvs, fq, _, hp, _, hi, rfl⟩ := h.dK_inv
    intro q hq
    rcases List.mem_cons.mp hq with rfl | hq
    · rcases hp with e | ⟨o, e⟩ <;> rw [e] <;> simp
    · exact Iss.dom l _ fq hi q hq
  | .dT ks l, v, fp, h => by
    obtain ⟨p, kvs, fq, _, hp, _, hi, rfl⟩ := h.dT_inv
    intro q hq
    rcases List.mem_cons.mp hq with rfl | hq
    · rcases hp with e | ⟨o, e⟩ <;> rw [e] <;> simp
    · exact Iss.dom l _ fq hi q hq
theorem Iss.dom {H : Hp} : ∀ (l : List PV) (xs : List V) (fp : List Addr), Iss K H l xs fp → ∀ p ∈ fp, H p ≠ none
  | [], _, _, h => by simp only [Iss] at h; rw [h.2]; simp
  | l :: ls, xs, fp, h => by
    obtain ⟨x, r, f1, f2, _, h1, h2, rfl⟩ := h.inv
    intro q hq
    rcases List.mem_append.mp hq with hq | hq
    · exact Is.dom l x f1 h1 q hq
    · exact Iss.dom ls r f2 h2 q hq
end
def Ab (Rm : Addr → Prop) (H H' : Hp) : Prop := ∀ b o, H b = some o → ¬ Rm b → H' b = some o
theorem Same.ab {Rm : Addr → Prop} {H H' : Hp} (s : Same H H') : Ab Rm H H' := fun b o h _ => s b o h
theorem Ab.trans {Rm : Addr → Prop} {H H1 H2 : Hp} (a : Ab Rm H H1) (b : Ab Rm H1 H2) : Ab Rm H H2 := fun c o h n => b c o (a c o h n) n
theorem Ab.rd {Rm : Addr → Prop} {H H' : Hp} (a : Ab Rm H H') {p : Addr} {u : HO} (n : ¬ Rm p) (h : Rd H p u) : Rd H' p u := by
  rcases h with h | ⟨o, h⟩
  · exact .inl (a p _ h n)
  · exact .inr ⟨o, a p _ h n⟩
theorem Ab.tk {Rm : Addr → Prop} {H H' : Hp} (a : Ab Rm H H') (hd : ∀ p, Rm p → Mut (H p)) : TK2 H H' := ⟨fun b xs h => a b _ h fun z => by
  have := hd b z
  rw [h] at this; exact this, fun b o xs h => a b _ h fun z => by
  have := hd b z
  rw [h] at this; exact this, fun b o x h => a b _ h fun z => by
  have := hd b z
  rw [h] at this; exact this⟩
theorem Is.ab {Rm : Addr → Prop} {H H' : Hp} (a : Ab Rm H H') (hd : ∀ p, Rm p → Mut (H p)) {l : PV} {v : V} {fp : List Addr} (n : ∀ p ∈ fp, ¬ Rm p) (h : Is K H l v fp) : Is K H' l v fp :=
  Is.tr (a.tk hd) l v fp (fun p hp => RdK.of fun o q => a p o q (n p hp)) h
theorem Iss.ab {Rm : Addr → Prop} {H H' : Hp} (a : Ab Rm H H') (hd : ∀ p, Rm p → Mut (H p)) {l : List PV} {v : List V} {fp : List Addr} (n : ∀ p ∈ fp, ¬ Rm p) (h : Iss K H l v fp) : Iss K H' l v fp :=
  Iss.tr (a.tk hd) l v fp (fun p hp => RdK.of fun o q => a p o q (n p hp)) h
structure JIs (K : PySem.W.Frag) (Rm : Addr → Prop) (H1 : Hp) (J : It) (ls : List PV) : Prop where
  stop : ∀ H', Ab Rm H1 H' → J.stop ls.length H'
  go : ∀ H' (i : Nat) l, Ab Rm H1 H' → ls[i]? = some l → J.go i H'
  yld : ∀ H' (i : Nat) l x H'', Ab Rm H1 H' → ls[i]? = some l → J.yld i H' x H'' → Same H' H'' ∧ ∃ fp, Is K H'' l x fp ∧ ∀ p ∈ fp, H1 p ≠ none ∧ ¬ Rm p
abbrev XL := PSt → Option (List PV)
def iF (K : PySem.W.Frag) (f : XL) : TI := fun σ H R => ∃ (Rm : Addr → Prop) (s : PSt) (ls : List PV), (∀ p, Rm p → Mut (H p)) ∧ EnvIs K Rm H s σ ∧ f s = some ls ∧ ∀ J H1, Same H H1 → JIs K Rm H1 J ls → R J H1
def VI (X : Cx) (tg e : Expr) (f : XL) : Prop := PI X tg e (iF X.K f)
section
variable {X : Cx} {tg e : Expr} {es : List Expr}
theorem PI.imp {t t' : TI} (h : PI X tg e t) (i : ∀ σ H R, t' σ H R → t σ H R) : PI X tg e t' := fun pins s σ H R I q => h pins s σ H R I (i σ H R q)
def asS : PV → Option (List PV)
  | .lst m => some m
  | .cst m => some m
  | _ => none
def xLst (f : XE) : XL := fun s => (f s).bind asS
def xTup (f : XE) : XL := fun s => match f s with | some (.tup m) => some m | _ => none
theorem asS_some {a : PV} {m : List PV} (h : asS a = some m) : a = .lst m ∨ a = .cst m := by
  unfold asS at h; split at h
  · cases h; exact .inl rfl
  · cases h; exact .inr rfl
  · cases h
theorem xTup_some {f : XE} {s : PSt} {m : List PV} (h : xTup f s = some m) : f s = some (.tup m) := by
  unfold xTup at h; split at h
  · cases h; assumption
  · cases h
theorem vi_list {f : XE} (h : VE X e f) : VI X tg e (xLst f) := PI.imp (pi_list h) fun σ H R ⟨Rm, s, ls, hd, env, e, k⟩ => by
  obtain ⟨l, e1, e2⟩ := bind_some' e
  refine ⟨Rm, s, l, hd, env, e1, fun v H1 fp s1 i1 n1 => ?_⟩
  have hd1 : ∀ p, Rm p → Mut (H1 p) := fun p hp => Same.mut s1 (hd p hp)
  have main : ∀ a xs fq, v = .ref a → SqL X.K H1 a xs → (∀ H', Ab Rm H1 H' → SqL X.K H' a xs) → Iss X.K H1 ls xs fq → (∀ p ∈ fq, p ∈ fp) → ∃ a, v = .ref a ∧ (∃ xs, SqL X.K H1 a xs) ∧ R (Itl X.K a) H1 := by
    rintro a xs fq rfl ha keep hi sub
    refine ⟨a, rfl, ⟨xs, ha⟩, k _ H1 s1 ⟨fun H' ab => ⟨xs, keep H' ab, by rw [hi.len]; exact Nat.le_refl _⟩, fun H' i l ab hl => ?_, fun H' i l x H'' ab hl y => ?_⟩⟩
    · obtain ⟨x, f1, hx, _, _⟩ := hi.get hl
      exact ⟨xs, x, keep H' ab, hx⟩
    · obtain ⟨rfl, y⟩ := y
      obtain ⟨x', f1, hx, ix, sub'⟩ := hi.get hl
      have := y xs (keep _ ab)
      rw [hx] at this; cases this
      have n1' : ∀ p ∈ f1, ¬ Rm p := fun p hp => n1 p (sub p (sub' p hp))
      exact ⟨Same.refl _, f1, ix.ab ab hd1 n1', fun p hp => ⟨Is.dom _ _ _ ix p hp, n1' p hp⟩⟩
  rcases asS_some e2 with rfl | rfl
  · obtain ⟨a, xs, fq, rfl, ha, hi, rfl⟩ := i1.lst_inv
    exact main a xs fq rfl (SqL.of ha) (fun H' ab => SqL.of (ab a _ ha (n1 a List.mem_cons_self))) hi fun p hp => List.mem_cons_of_mem _ hp
  · obtain ⟨a, xs, rfl, ha, hi⟩ := i1.cst_inv
    exact main a xs fp rfl ha.sq (fun H' ab => (ha.tr (ab.tk hd1)).sq) hi fun p hp => hp
theorem vi_tup {f : XE} (h : VE X e f) : VI X tg e (xTup f) := PI.imp (pi_tup h) fun σ H R ⟨Rm, s, ls, hd, env, e, k⟩ => by
  refine ⟨Rm, s, .tup ls, hd, env, xTup_some e, fun v H1 fp s1 i1 n1 => ?_⟩
  obtain ⟨a, xs, rfl, ha, hi⟩ := i1.tup_inv
  have hd1 : ∀ p, Rm p → Mut (H1 p) := fun p hp => Same.mut s1 (hd p hp)
  have keep : ∀ H', Ab Rm H1 H' → SqT X.K H' a xs := fun H' ab => SqT.of ((ab.tk hd1).tup a xs ha)
  refine ⟨a, rfl, ⟨xs, SqT.of ha⟩, k _ H1 s1 ⟨fun H' ab => ⟨xs, keep H' ab, by rw [hi.len]; exact Nat.le_refl _⟩, fun H' i l ab hl => ?_, fun H' i l x H'' ab hl y => ?_⟩⟩
  · obtain ⟨x, f1, hx, _, _⟩ := hi.get hl
    exact ⟨xs, x, keep H' ab, hx⟩
  · obtain ⟨rfl, y⟩ := y
    obtain ⟨x', f1, hx, ix, sub⟩ := hi.get hl
    have := y xs (keep _ ab)
    rw [hx] at this; cases this
    have n1' : ∀ p ∈ f1, ¬ Rm p := fun p hp => n1 p (sub p hp)
    exact ⟨Same.refl _, f1, ix.ab ab hd1 n1', fun p hp => ⟨Is.dom _ _ _ ix p hp, n1' p hp⟩⟩
def rng0 (n : Nat) : List PV := (List.range n).map fun (i : Nat) => PV.int (i : Int)
def rngL (lo : Int) (n : Nat) : List PV := (List.range n).map fun (i : Nat) => PV.int (lo + (i : Int))
def xRng1 (fs : List XE) : XL := fun s => match evs fs s with | some [.int j] => if -1000000 ≤ j ∧ j ≤ 1000000 then some (rng0 j.toNat) else none | _ => none
def xRng2 (fs : List XE) : XL := fun s => match evs fs s with | some [.int i, .int j] => if -1000000 ≤ i ∧ i ≤ 1000000 ∧ -1000000 ≤ j ∧ j ≤ 1000000 then some (rngL i (j - i).toNat) else none | _ => none
theorem jis_rng {Rm : Addr → Prop} {H1 : Hp} (lo : Int) (n : Nat) : JIs K Rm H1 (Itr lo n) (rngL lo n) := by
  refine ⟨fun H' _ => by unfold rngL; rw [List.length_map, List.length_range]; exact Nat.le_refl n, fun H' i l _ hl => ?_, fun H' i l x H'' _ hl y => ?_⟩
  · have := (List.getElem?_eq_some_iff.mp hl).1
    unfold rngL at this
    rw [List.length_map, List.length_range] at this
    exact this
  · obtain ⟨rfl, rfl⟩ := y
    have hi := (List.getElem?_eq_some_iff.mp hl).1
    unfold rngL at hi hl
    rw [List.length_map, List.length_range] at hi
    rw [List.getElem?_map, List.getElem?_range hi] at hl
    cases hl
    exact ⟨Same.refl _, [], Is.int _, fun p hp => by simp at hp⟩
theorem rng0_eq (n : Nat) : rng0 n = rngL 0 n := by
  unfold rng0 rngL
  apply List.map_congr_left
  intro i _
  rw [Int.zero_add]
theorem vi_range1 {a : Expr} {fs : List XE} {p pos : Pos} (hg : Gl X "range") (hm : X.mg "range" = none) (ha : VA X [a] fs) (hs : starEach [a] X.env = [(false, eval a X.env)] := by rfl) : VI X tg (.Call (.Name "range" p) [a] [] pos) (xRng1 fs) :=
  PI.imp (pi_range1 hg hm ha hs) fun σ H R ⟨Rm, s, ls, hd, env, e, k⟩ => by
  unfold xRng1 at e
  split at e
  · split at e
    · cases e
      rename_i j he hb
      refine ⟨Rm, s, _, hd, env, he, fun vs H1 fp s1 i1 _ => ?_⟩
      obtain ⟨v, rfl, i⟩ := i1.one_inv
      refine ⟨j, by rw [i.int_inv.1], by omega, by omega, k _ H1 s1 ?_⟩
      rw [rng0_eq]; exact jis_rng _ _
    · cases e
  · cases e
theorem vi_range2 {a b : Expr} {fs : List XE} {p pos : Pos} (hg : Gl X "range") (hm : X.mg "range" = none) (ha : VA X [a, b] fs) (hs : starEach [a, b] X.env = [(false, eval a X.env), (false, eval b X.env)] := by rfl) (hs2 : starEach [b] X.env = [(false, eval b X.env)] := by rfl) : VI X tg (.Call (.Name "range" p) [a, b] [] pos) (xRng2 fs) :=
  PI.imp (pi_range2 hg hm ha hs hs2) fun σ H R ⟨Rm, s, ls, hd, env, e, k⟩ => by
  unfold xRng2 at e
  split at e
  · split at e
    · cases e
      rename_i i j he hb
      refine ⟨Rm, s, _, hd, env, he, fun vs H1 fp s1 i1 _ => ?_⟩
      obtain ⟨v, w, f1, f2, rfl, iv, iw, _⟩ := i1.two_inv
      exact ⟨i, j, by rw [iv.int_inv.1, iw.int_inv.1], ⟨by omega, by omega, by omega, by omega⟩, k _ H1 s1 (jis_rng _ _)⟩
    · cases e
  · cases e
def enumL (m : List PV) : List PV := m.zipIdx.map fun z => .tup [.int (z.2 : Nat), z.1]
def zipL (m n : List PV) : List PV := (m.zip n).map fun z => .tup [z.1, z.2]
theorem enumL_get {m : List PV} {i : Nat} {l : PV} (h : (enumL m)[i]? = some l) : ∃ a, m[i]? = some a ∧ l = .tup [.int (i : Nat), a] := by
  unfold enumL at h
  rw [List.getElem?_map, List.getElem?_zipIdx] at h
  cases q : m[i]? with
  | none => rw [q] at h; cases h
  | some a => rw [q] at h; cases h; exact ⟨a, rfl, by simp⟩
theorem enumL_len (m : List PV) : (enumL m).length = m.length := by unfold enumL; rw [List.length_map, List.length_zipIdx]
def seqB : Bool → PV → Option (List PV)
  | true, .lst l => some l
  | true, .cst l => some l
  | false, .tup l => some l
  | _, _ => none
theorem seqB_of {H : Hp} {b : Bool} {l : PV} {v : V} {fp : List Addr} {m : List PV} (h : Is K H l v fp) (e : seqB b l = some m) : ∃ p xs fq, v = .ref p ∧ Iss K H m xs fq ∧ (∀ q ∈ fq, q ∈ fp) ∧ ∀ (Rm : Addr → Prop) H', Ab Rm H H' → (∀ p, Rm p → Mut (H p)) → (∀ p ∈ fp, ¬ Rm p) → SqB b K H' p xs := by
  cases b with
  | true => cases l with
    | lst l =>
      cases e
      obtain ⟨p, xs, fq, rfl, hp, hi, rfl⟩ := h.lst_inv
      exact ⟨p, xs, fq, rfl, hi, fun q hq => List.mem_cons_of_mem _ hq, fun Rm H' ab _ n => SqL.of (ab p _ hp (n p List.mem_cons_self))⟩
    | cst l =>
      cases e
      obtain ⟨p, xs, rfl, hp, hi⟩ := h.cst_inv
      exact ⟨p, xs, fp, rfl, hi, fun q hq => hq, fun Rm H' ab hd _ => (hp.tr (ab.tk hd)).sq⟩
    | _ => cases e
  | false => cases l with
    | tup l =>
      cases e
      obtain ⟨p, xs, rfl, hp, hi⟩ := h.tup_inv
      exact ⟨p, xs, fp, rfl, hi, fun q hq => hq, fun Rm H' ab hd _ => SqT.of ((ab.tk hd).tup p xs hp)⟩
    | _ => cases e
def xEnum (b : Bool) (fs : List XE) : XL := fun s => match evs fs s with | some [l] => (seqB b l).map enumL | _ => none
def xZip (b1 b2 : Bool) (fs : List XE) : XL := fun s => match evs fs s with | some [l, r] => (seqB b1 l).bind fun m => (seqB b2 r).map fun n => zipL m n | _ => none
theorem vi_enum {elts : List Expr} {k : Nat} {tpos : Pos} (b : Bool) {a : Expr} {fs : List XE} {p pos : Pos} (hg : Gl X "enumerate") (hm : X.mg "enumerate" = none) (ha : VA X [a] fs) (hs : starEach [a] X.env = [(false, eval a X.env)] := by rfl) :
    VI X (.Tuple elts k tpos) (.Call (.Name "enumerate" p) [a] [] pos) (xEnum b fs) := PI.imp (pi_enum b hg hm ha hs) fun σ H R ⟨Rm, s, ls, hd, env, e, k⟩ => by
  unfold xEnum at e
  split at e
  · rename_i l he
    obtain ⟨m, e1, rfl⟩ := map_some e
    refine ⟨Rm, s, _, hd, env, he, fun vs H1 fp s1 i1 n1 => ?_⟩
    obtain ⟨v, rfl, i⟩ := i1.one_inv
    have hd1 : ∀ p, Rm p → Mut (H1 p) := fun p hp => Same.mut s1 (hd p hp)
    obtain ⟨a, xs, fq, rfl, hi, sub, keep⟩ := seqB_of (K := X.K) i e1
    have kp := fun H' ab => keep Rm H' ab hd1 n1
    refine ⟨a, rfl, ⟨xs, kp H1 (Same.ab (Same.refl H1))⟩, k _ H1 s1 ⟨fun H' ab => ⟨xs, kp H' ab, by rw [enumL_len, hi.len]⟩, fun H' i l ab hl => ?_, fun H' i l x H'' ab hl y => ?_⟩⟩
    · obtain ⟨c, hc, rfl⟩ := enumL_get hl
      obtain ⟨x, f1, hx, _, _⟩ := hi.get hc
      exact ⟨xs, x, kp H' ab, hx⟩
    · obtain ⟨c, hc, rfl⟩ := enumL_get hl
      obtain ⟨x', f1, hx, ix, sb⟩ := hi.get hc
      obtain ⟨q, z, hq, rfl, rfl, y⟩ := y
      have := y xs (kp _ ab)
      rw [hx] at this; cases this
      have n1' : ∀ p ∈ f1, ¬ Rm p := fun p hp => n1 p (sub p (sb p hp))
      refine ⟨Same.new hq _, f1, Is.tup upd_same ?_, fun p hp => ⟨Is.dom _ _ _ ix p hp, n1' p hp⟩⟩
      exact Iss.cons (f1 := []) (Is.int _) (Iss.one ((ix.ab ab hd1 n1').mono (Same.new hq _)))
  · cases e
end
inductive Tgt where
  | one (i : Nat) | many (is : List Nat)
def Tgt.slots : Tgt → List Nat
  | .one i => [i]
  | .many is => is
def setAll : List Nat → List PV → PSt → PSt
  | i :: is, l :: ls, s => setAll is ls (s.set i (some l))
  | _, _, s => s
def setAllC : List Nat → List V → CSt → CSt
  | i :: is, l :: ls, s => setAllC is ls (s.set i (some l))
  | _, _, s => s
def bindT : Tgt → PV → PSt → Option PSt
  | .one i, l, s => some (s.set i (some l))
  | .many is, .tup ls, s => if ls.length = is.length then some (setAll is ls s) else none
  | _, _, _ => none
def gNames : List Nat → TGs
  | [] => gNil
  | i :: is => gCons (gName i) (gNames is)
def gT (K : PySem.W.Frag) : Tgt → TG
  | .one i => gName i
  | .many is => gTup K is.length (gNames is)
theorem gNames_use : ∀ {is : List Nat} {vs : List V} {σ : CSt} {H : Hp} {Q : CSt → Hp → Prop}, vs.length = is.length → Q (setAllC is vs σ) H → gNames is vs σ H Q
  | [], [], _, _, _, _, q => ⟨rfl, q⟩
  | [], _ :: _, _, _, _, h, _ => by simp at h
  | _ :: _, [], _, _, _, h, _ => by simp at h
  | i :: is, v :: vs, σ, H, Q, h, q => ⟨v, vs, rfl, gNames_use (is := is) (vs := vs) (by simpa using h) q⟩
theorem gT_use {T : Tgt} {l : PV} {v : V} {fp : List Addr} {s s' : PSt} {H : Hp} (h : Is K H l v fp) (e : bindT T l s = some s') :
    ∃ ls vs fs, s' = setAll T.slots ls s ∧ Iss K H ls vs fs ∧ ls.length = T.slots.length ∧ (∀ p ∈ fs, p ∈ fp) ∧ ∀ σ (Q : CSt → Hp → Prop), Q (setAllC T.slots vs σ) H → gT K T v σ H Q := by
  cases T with
  | one i =>
    cases e
    exact ⟨[l], [v], fp, rfl, Iss.one h, rfl, fun p hp => hp, fun σ Q q => q⟩
  | many is =>
    cases l with
    | tup ls =>
      have e : (if ls.length = is.length then some (VL.setAll is ls s) else none) = some s' := e
      split at e
      · cases e
        obtain ⟨p, xs, rfl, hp, hi⟩ := h.tup_inv
        exact ⟨ls, xs, fp, rfl, hi, by assumption, fun p hp => hp, fun σ Q q => ⟨p, xs, rfl, SqT.of hp, by rw [hi.len]; assumption, gNames_use (by rw [hi.len]; assumption) q⟩⟩
      · cases e
    | _ => cases e
theorem setAllC_drop : ∀ {is : List Nat} {vs : List V} {σ : CSt} {n : Nat}, (∀ i ∈ is, i < n) → (setAllC is vs σ).drop n = σ.drop n
  | [], _, _, _, _ => rfl
  | _ :: _, [], _, _, _ => rfl
  | i :: is, v :: vs, σ, n, h => by
    show (setAllC is vs (σ.set i (some v))).drop n = _
    rw [setAllC_drop (fun j hj => h j (List.mem_cons_of_mem _ hj))]
    have := h i List.mem_cons_self
    rw [List.drop_set, if_pos this]
theorem EnvIs.set {Rm : Addr → Prop} {H : Hp} {s : PSt} {σ : CSt} {i : Nat} {l : PV} {v : V} {fp : List Addr} (h : EnvIs K Rm H s σ) (hl : s.length = σ.length) (hi : Is K H l v fp) (n : ∀ p ∈ fp, ¬ Rm p) : EnvIs K Rm H (s.set i (some l)) (σ.set i (some v)) := ⟨fun j a e => by
  rw [List.getElem?_set] at e
  by_cases hj : i = j
  · subst hj
    rw [if_pos rfl] at e
    split at e
    · cases e
      exact ⟨v, fp, by rw [List.getElem?_set, if_pos rfl, if_pos (by omega)], hi, n⟩
    · cases e
  · rw [if_neg hj] at e
    obtain ⟨w, f, h1, h2, h3⟩ := h.is j a e
    exact ⟨w, f, by rw [List.getElem?_set, if_neg hj]; exact h1, h2, h3⟩⟩
theorem EnvIs.setAll {Rm : Addr → Prop} {H : Hp} : ∀ {is : List Nat} {ls : List PV} {vs : List V} {fs : List Addr} {s : PSt} {σ : CSt}, EnvIs K Rm H s σ → s.length = σ.length → Iss K H ls vs fs → (∀ p ∈ fs, ¬ Rm p) → EnvIs K Rm H (VL.setAll is ls s) (setAllC is vs σ)
  | [], _, _, _, _, _, h, _, _, _ => by unfold VL.setAll setAllC; exact h
  | i :: is, [], vs, fs, s, σ, h, _, hi, _ => by
    simp only [Iss] at hi
    rw [hi.1]
    exact h
  | i :: is, l :: ls, vs, fs, s, σ, h, hl, hi, n => by
    obtain ⟨x, r, f1, f2, rfl, h1, h2, rfl⟩ := hi.inv
    show EnvIs K Rm H (VL.setAll is ls (s.set i (some l))) (setAllC is r (σ.set i (some x)))
    exact EnvIs.setAll (h.set hl h1 fun p hp => n p (List.mem_append_left _ hp)) (by rw [List.length_set, List.length_set]; exact hl) h2 fun p hp => n p (List.mem_append_right _ hp)
def compEnv (n : Nat) (ix : List Nat) (s : PSt) : PSt := List.replicate n none ++ ix.map (fun i => (s[i]?).join)
def compL (T : Tgt) (ft : XT) (fe : XE) (s0 : PSt) : List PV → Option (List PV)
  | [] => some []
  | l :: r => (bindT T l s0).bind fun s1 => (ft s1).bind fun c => if c = true then (fe s1).bind fun y => (compL T ft fe s0 r).map (y :: ·) else compL T ft fe s0 r
def eComp (n : Nat) (ix : List Nat) (fi : XL) (T : Tgt) (ft : XT) (fe : XE) : XE := fun s => (fi s).bind fun ls => if ls.length ≤ 10000 then (compL T ft fe (compEnv n ix s) ls).map .lst else none
def xTrue : XT := fun _ => some true
theorem join_some {α : Type} {o : Option (Option α)} {a : α} (h : o.join = some a) : o = some (some a) := by
  cases o with
  | none => cases h
  | some b => cases b with
    | none => cases h
    | some c => cases h; rfl
theorem EnvIs.comp {Rm : Addr → Prop} {H : Hp} {s : PSt} {σ : CSt} {n : Nat} {ix : List Nat} (h : EnvIs K Rm H s σ) : EnvIs K Rm H (compEnv n ix s) (stComp n ix σ) := ⟨fun i l e => by
  unfold compEnv at e
  unfold stComp
  by_cases hi : i < n
  · rw [List.getElem?_append_left (by simpa using hi), List.getElem?_replicate, if_pos hi] at e
    cases e
  · rw [List.getElem?_append_right (by simpa using hi), List.length_replicate, List.getElem?_map] at e
    rw [List.getElem?_append_right (by simpa using hi), List.length_replicate, List.getElem?_map]
    cases q : ix[i - n]? with
    | none => rw [q] at e; cases e
    | some j =>
      rw [q] at e
      have e := join_some (Option.some.inj e)
      obtain ⟨v, fp, a, b, c⟩ := h.is j l e
      exact ⟨v, fp, by show some ((σ[j]?).join) = _; rw [a]; rfl, b, c⟩⟩
theorem comp_len (n : Nat) (ix : List Nat) (s : PSt) (σ : CSt) : (compEnv n ix s).length = (stComp n ix σ).length := by unfold compEnv stComp; simp
theorem compL_cons {T : Tgt} {ft : XT} {fe : XE} {s0 : PSt} {l : PV} {r ys : List PV} (h : compL T ft fe s0 (l :: r) = some ys) : ∃ s1 c, bindT T l s0 = some s1 ∧ ft s1 = some c ∧ ((c = true ∧ ∃ y zs, fe s1 = some y ∧ compL T ft fe s0 r = some zs ∧ ys = y :: zs) ∨ (c = false ∧ compL T ft fe s0 r = some ys)) := by
  unfold compL at h
  obtain ⟨s1, e1, h⟩ := bind_some' h
  obtain ⟨c, e2, h⟩ := bind_some' h
  refine ⟨s1, c, e1, e2, ?_⟩
  cases c with
  | true =>
    rw [if_pos rfl] at h
    obtain ⟨y, e3, h⟩ := bind_some' h
    obtain ⟨zs, e4, rfl⟩ := map_some h
    exact .inl ⟨rfl, y, zs, e3, e4, rfl⟩
  | false =>
    rw [if_neg Bool.false_ne_true] at h
    exact .inr ⟨rfl, h⟩
theorem drop_get {α : Type} {l : List α} {i : Nat} {a : α} {r : List α} (h : l.drop i = a :: r) : l[i]? = some a ∧ l.drop (i + 1) = r := by
  constructor
  · have := congrArg (fun z => z[0]?) h
    simpa [List.getElem?_drop] using this
  · rw [← List.drop_drop, h]; rfl
section
variable {n : Nat} {ix : List Nat} {fi : XL} {T : Tgt} {ft : XT} {fe : XE}
theorem tF_comp (hT : ∀ i ∈ T.slots, i < n) : ∀ σ H Q, tF K (eComp n ix fi T ft fe) σ H Q → tComp n ix (iF K fi) (gT K T) (tFT K ft) (tF K fe) σ H Q := fun σ H Q ⟨Rm, s, L, hd, env, e, k⟩ => by
  obtain ⟨ls, e1, e⟩ := bind_some' e
  split at e
  case isFalse => cases e
  rename_i hlen
  obtain ⟨ys, e2, rfl⟩ := map_some e
  refine ⟨Rm, s, ls, hd, env, e1, fun J H1 s1 jis => ?_⟩
  have hd1 : ∀ p, Rm p → Mut (H1 p) := fun p hp => Same.mut s1 (hd p hp)
  refine ⟨fun i m vs Hc => m = ls.length - i ∧ i ≤ ls.length ∧ Same H1 Hc ∧ ∃ dn rest fp, ys = dn ++ rest ∧ dn.length ≤ i ∧ compL T ft fe (compEnv n ix s) (ls.drop i) = some rest ∧ Iss K Hc dn vs fp ∧ ∀ p ∈ fp, ¬ Rm p,
    ⟨ls.length, by simp, Nat.zero_le _, Same.refl H1, [], ys, [], rfl, Nat.le_refl _, e2, Iss.nil, fun p hp => by simp at hp⟩, ?_⟩
  rintro i m vs Hc ⟨rfl, hi, sc, dn, rest, fp, rfl, hdl, ec, iv, nv⟩
  refine ⟨by rw [iv.len]; exact Nat.le_of_lt (lt_size (by omega)), ?_⟩
  cases q : ls.drop i with
  | nil =>
    have hil : i = ls.length := by
      have := congrArg List.length q
      rw [List.length_drop] at this
      simp at this; omega
    subst hil
    rw [q] at ec
    cases ec
    refine .inl ⟨jis.stop Hc (Same.ab sc), fun p hp => k _ _ (p :: fp) (s1.trans (sc.trans (Same.new hp _))) ?_ fun a ha z => ?_⟩
    · rw [List.append_nil]
      exact Is.lst upd_same (iv.mono (Same.new hp _))
    · rcases List.mem_cons.mp ha with rfl | ha
      · exact mutSome (Same.mut (s1.trans sc) (hd a z)) hp
      · exact nv a ha z
  | cons l r =>
    obtain ⟨hl, hr⟩ := drop_get q
    have hilt : i < ls.length := (List.getElem?_eq_some_iff.mp hl).1
    rw [q] at ec
    obtain ⟨sb, c, eb, et, alt⟩ := compL_cons ec
    refine .inr ⟨jis.go Hc i l (Same.ab sc) hl, fun vs' H' => Same H1 H' ∧ ∃ dn' rest' fp', dn ++ rest = dn' ++ rest' ∧ dn'.length ≤ i + 1 ∧ compL T ft fe (compEnv n ix s) (ls.drop (i + 1)) = some rest' ∧ Iss K H' dn' vs' fp' ∧ ∀ p ∈ fp', ¬ Rm p,
      fun vs' H' h' => ⟨ls.length - (i + 1), by omega, rfl, hilt, h'.1, h'.2⟩, fun x H2 y => ?_⟩
    obtain ⟨s2, fx, ix', nx⟩ := jis.yld Hc i l x H2 (Same.ab sc) hl y
    have hd2 : ∀ p, Rm p → Mut (H2 p) := fun p hp => Same.mut (sc.trans s2) (hd1 p hp)
    obtain ⟨bl, bv, bf, rfl, bi, _, bsub, buse⟩ := gT_use (K := K) ix' eb
    have env2 : EnvIs K Rm H2 (compEnv n ix s) (stComp n ix σ) := (env.mono (s1.trans (sc.trans s2))).comp
    have env3 := env2.setAll (is := T.slots) (comp_len n ix s σ) bi fun p hp => (nx p (bsub p hp)).2
    refine buse _ _ ⟨setAllC_drop hT, Rm, _, c, hd2, env3, et, fun H3 s3 => ?_⟩
    have hd3 : ∀ p, Rm p → Mut (H3 p) := fun p hp => Same.mut s3 (hd2 p hp)
    rcases alt with ⟨rfl, y', zs, ey, ez, rfl⟩ | ⟨rfl, ez⟩
    · refine iteT ?_
      refine ⟨Rm, _, y', hd3, env3.mono s3, ey, fun v H4 f4 s4 i4 n4 => ?_⟩
      refine ⟨sc.trans (s2.trans (s3.trans s4)), dn ++ [y'], zs, fp ++ f4, by rw [List.append_assoc]; rfl, by rw [List.length_append]; simp; exact hdl, by rw [hr]; exact ez, (iv.mono (s2.trans (s3.trans s4))).append (Iss.one i4), fun p hp => ?_⟩
      rcases List.mem_append.mp hp with h | h
      · exact nv p h
      · exact n4 p h
    · refine iteF ?_
      exact ⟨sc.trans (s2.trans s3), dn, rest, fp, rfl, Nat.le_succ_of_le hdl, by rw [hr]; exact ez, iv.mono (s2.trans s3), nv⟩
theorem tM_comp (hT : ∀ i ∈ T.slots, i < n) : ∀ σ H Q, tM K (eComp n ix fi T ft fe) σ H Q → tComp n ix (iF K fi) (gT K T) (tFT K ft) (tM K fe) σ H Q := fun σ H Q ⟨s, L, env, e, k⟩ => by
  obtain ⟨ls, e1, e⟩ := bind_some' e
  split at e
  case isFalse => cases e
  rename_i hlen
  obtain ⟨ys, e2, rfl⟩ := map_some e
  have hd : ∀ (H : Hp) p, (fun _ => False : Addr → Prop) p → Mut (H p) := fun _ _ z => z.elim
  refine ⟨fun _ => False, s, ls, hd H, env, e1, fun J H1 s1 jis => ?_⟩
  refine ⟨fun i m vs Hc => m = ls.length - i ∧ i ≤ ls.length ∧ Same H1 Hc ∧ ∃ dn rest fp, ys = dn ++ rest ∧ dn.length ≤ i ∧ compL T ft fe (compEnv n ix s) (ls.drop i) = some rest ∧ Iss K Hc dn vs fp ∧ fp.Nodup ∧ ∀ p ∈ fp, H1 p = none ∧ Mut (Hc p),
    ⟨ls.length, by simp, Nat.zero_le _, Same.refl H1, [], ys, [], rfl, Nat.le_refl _, e2, Iss.nil, List.nodup_nil, fun p hp => by simp at hp⟩, ?_⟩
  rintro i m vs Hc ⟨rfl, hi, sc, dn, rest, fp, rfl, hdl, ec, iv, dv, nv⟩
  refine ⟨by rw [iv.len]; exact Nat.le_of_lt (lt_size (by omega)), ?_⟩
  cases q : ls.drop i with
  | nil =>
    have hil : i = ls.length := by
      have := congrArg List.length q
      rw [List.length_drop] at this
      simp at this; omega
    subst hil
    rw [q] at ec
    cases ec
    refine .inl ⟨jis.stop Hc (Same.ab sc), fun p hp => k _ _ (p :: fp) (s1.trans (sc.trans (Same.new hp _))) ?_ (List.nodup_cons.mpr ⟨fun z => mutSome (nv p z).2 hp, dv⟩) fun a ha => ?_⟩
    · rw [List.append_nil]
      exact Is.lst upd_same (iv.mono (Same.new hp _))
    · rcases List.mem_cons.mp ha with rfl | ha
      · exact ⟨Same.off (s1.trans sc) hp, by rw [upd_same]; exact True.intro⟩
      · exact ⟨Same.off s1 (nv a ha).1, Same.mut (Same.new hp _) (nv a ha).2⟩
  | cons l r =>
    obtain ⟨hl, hr⟩ := drop_get q
    have hilt : i < ls.length := (List.getElem?_eq_some_iff.mp hl).1
    rw [q] at ec
    obtain ⟨sb, c, eb, et, alt⟩ := compL_cons ec
    refine .inr ⟨jis.go Hc i l (Same.ab sc) hl, fun vs' H' => Same H1 H' ∧ ∃ dn' rest' fp', dn ++ rest = dn' ++ rest' ∧ dn'.length ≤ i + 1 ∧ compL T ft fe (compEnv n ix s) (ls.drop (i + 1)) = some rest' ∧ Iss K H' dn' vs' fp' ∧ fp'.Nodup ∧ ∀ p ∈ fp', H1 p = none ∧ Mut (H' p),
      fun vs' H' h' => ⟨ls.length - (i + 1), by omega, rfl, hilt, h'.1, h'.2⟩, fun x H2 y => ?_⟩
    obtain ⟨s2, fx, ix', nx⟩ := jis.yld Hc i l x H2 (Same.ab sc) hl y
    obtain ⟨bl, bv, bf, rfl, bi, _, bsub, buse⟩ := gT_use (K := K) ix' eb
    have env2 : EnvIs K (fun _ => False) H2 (compEnv n ix s) (stComp n ix σ) := (env.mono (s1.trans (sc.trans s2))).comp
    have env3 := env2.setAll (is := T.slots) (comp_len n ix s σ) bi fun p hp => (nx p (bsub p hp)).2
    refine buse _ _ ⟨setAllC_drop hT, fun _ => False, _, c, hd H2, env3, et, fun H3 s3 => ?_⟩
    rcases alt with ⟨rfl, y', zs, ey, ez, rfl⟩ | ⟨rfl, ez⟩
    · refine iteT ?_
      refine ⟨_, y', env3.mono s3, ey, fun v H4 f4 s4 i4 d4 n4 => ?_⟩
      refine ⟨sc.trans (s2.trans (s3.trans s4)), dn ++ [y'], zs, fp ++ f4, by rw [List.append_assoc]; rfl, by rw [List.length_append]; simp; exact hdl, by rw [hr]; exact ez, (iv.mono (s2.trans (s3.trans s4))).append (Iss.one i4), List.nodup_append.mpr ⟨dv, d4, fun a ha b hb z => ?_⟩, fun p hp => ?_⟩
      · subst z
        exact mutSome (Same.mut (s2.trans s3) (nv a ha).2) (n4 a hb).1
      · rcases List.mem_append.mp hp with h | h
        · exact ⟨(nv p h).1, Same.mut (s2.trans (s3.trans s4)) (nv p h).2⟩
        · exact ⟨Same.off (sc.trans (s2.trans s3)) (n4 p h).1, (n4 p h).2⟩
    · refine iteF ?_
      exact ⟨sc.trans (s2.trans s3), dn, rest, fp, rfl, Nat.le_succ_of_le hdl, by rw [hr]; exact ez, iv.mono (s2.trans s3), dv, fun p hp => ⟨(nv p hp).1, Same.mut (s2.trans s3) (nv p hp).2⟩⟩
end
def VTs (X : Cx) (ifs : List Expr) (f : XT) : Prop := PTs X ifs (tFT X.K f)
section
variable {X : Cx} {tg elt iter c : Expr} {ifs : List Expr} {scope : Scope} {pos : Pos} {fi : XL} {T : Tgt} {ft : XT} {fe : XE}
theorem vts_nil : VTs X [] xTrue := fun pins s σ H Q I ⟨Rm, s', c, hd, env, e, k⟩ => by
  cases e
  exact pts_nil pins s σ H Q I (k H (Same.refl H))
theorem vts_one (h : VT X c ft) : VTs X [c] ft := pts_one h
theorem ve_comp (own fr : List Str) (ix : List Nat) (hcalm : X.calm = true) (hi : VI X tg iter fi) (S : compOk X.N X.env.scope scope own fr ix = true)
    (hg : ∀ cl C s H ex, PG (cxComp X (own ++ fr) scope cl C s H ex) tg (gT X.K T)) (ht : ∀ cl C s H ex, VTs (cxComp X (own ++ fr) scope cl C s H ex) ifs ft) (he : ∀ cl C s H ex, VE (cxComp X (own ++ fr) scope cl C s H ex) elt fe)
    (hT : ∀ i ∈ T.slots, i < own.length := by decide) (hs : ∀ x, foldedSetIterable iter X.env x = pure x := by intro _; rfl) : VE X (.ListComp elt [⟨tg, iter, ifs, 0⟩] scope pos) (eComp own.length ix fi T ft fe) :=
  PE.imp (pe_comp' own fr ix hcalm hi S hg (fun cl C s H ex => (show PTs (cxComp X (own ++ fr) scope cl C s H ex) ifs (tFT X.K ft) from ht cl C s H ex)) (fun cl C s H ex => (show PE (cxComp X (own ++ fr) scope cl C s H ex) elt (tF X.K fe) from he cl C s H ex)) hs) (tF_comp hT)
theorem vm_comp (own fr : List Str) (ix : List Nat) (hcalm : X.calm = true) (hi : VI X tg iter fi) (S : compOk X.N X.env.scope scope own fr ix = true)
    (hg : ∀ cl C s H ex, PG (cxComp X (own ++ fr) scope cl C s H ex) tg (gT X.K T)) (ht : ∀ cl C s H ex, VTs (cxComp X (own ++ fr) scope cl C s H ex) ifs ft) (he : ∀ cl C s H ex, VM (cxComp X (own ++ fr) scope cl C s H ex) elt fe)
    (hT : ∀ i ∈ T.slots, i < own.length := by decide) (hs : ∀ x, foldedSetIterable iter X.env x = pure x := by intro _; rfl) : VM X (.ListComp elt [⟨tg, iter, ifs, 0⟩] scope pos) (eComp own.length ix fi T ft fe) :=
  PE.imp (pe_comp' own fr ix hcalm hi S hg (fun cl C s H ex => (show PTs (cxComp X (own ++ fr) scope cl C s H ex) ifs (tFT X.K ft) from ht cl C s H ex)) (fun cl C s H ex => (show PE (cxComp X (own ++ fr) scope cl C s H ex) elt (tM X.K fe) from he cl C s H ex)) hs) (tM_comp hT)
end
abbrev XO := PSt → Option (Option Int)
def xoN : XO := fun _ => some none
def eSl (g : PV → Option Int → Option Int → Option PV) (a : XE) (lo hi : XO) : XE := fun s => (a s).bind fun x => (lo s).bind fun l => (hi s).bind fun u => g x l u
end VL
set_option Elab.async false
set_option linter.all false
set_option maxRecDepth 100000
set_option maxHeartbeats 4000000
namespace VL
open PySem PySem.Spec PyProof.Rows L2
variable {K : PySem.W.Frag}
structure Rel (K : PySem.W.Frag) (O : List Nat) (H0 : Hp) (fps : Nat → List Addr) (s : PSt) (σ : CSt) (H : Hp) : Prop where
  same : Same H0 H
  len : s.length = σ.length
  is : ∀ (i : Nat) l, s[i]? = some (some l) → ∃ v, σ[i]? = some (some v) ∧ Is K H l v (fps i)
  emp : ∀ (i : Nat), (∀ l, s[i]? ≠ some (some l)) → fps i = []
  nd : ∀ i ∈ O, (fps i).Nodup
  own : ∀ i ∈ O, ∀ p ∈ fps i, H0 p = none ∧ Mut (H p)
  dis : ∀ i ∈ O, ∀ j, j ≠ i → ∀ p ∈ fps i, p ∉ fps j
def Ow (O : List Nat) (fps : Nat → List Addr) (p : Addr) : Prop := ∃ i ∈ O, p ∈ fps i
def eraseO (O : List Nat) (s : PSt) : PSt := O.foldl (fun s i => s.set i none) s
theorem eraseO_get : ∀ {O : List Nat} {s : PSt} {i : Nat} {l : PV}, (eraseO O s)[i]? = some (some l) → i ∉ O ∧ s[i]? = some (some l)
  | [], s, i, l, h => ⟨by simp, h⟩
  | o :: O, s, i, l, h => by
    obtain ⟨h1, h2⟩ := eraseO_get (O := O) (s := s.set o none) h
    rw [List.getElem?_set] at h2
    by_cases e : o = i
    · rw [if_pos e] at h2; split at h2 <;> cases h2
    · rw [if_neg e] at h2
      exact ⟨by simp only [List.mem_cons, not_or]; exact ⟨fun z => e z.symm, h1⟩, h2⟩
section
variable {O : List Nat} {H0 H H' : Hp} {fps : Nat → List Addr} {s : PSt} {σ : CSt}
theorem Rel.at (r : Rel K O H0 fps s σ H) (i : Nat) {p : Addr} (hp : p ∈ fps i) : ∃ l v, s[i]? = some (some l) ∧ σ[i]? = some (some v) ∧ Is K H l v (fps i) := by
  cases q : s[i]? with
  | none => rw [r.emp i (fun l z => by rw [q] at z; cases z)] at hp; simp at hp
  | some o => cases o with
    | none => rw [r.emp i (fun l z => by rw [q] at z; cases z)] at hp; simp at hp
    | some l =>
      obtain ⟨v, a, b⟩ := r.is i l q
      exact ⟨l, v, rfl, a, b⟩
theorem Rel.dom (r : Rel K O H0 fps s σ H) (i : Nat) : ∀ p ∈ fps i, H p ≠ none := fun p hp => by
  obtain ⟨l, v, _, _, b⟩ := r.at i hp
  exact Is.dom _ _ _ b p hp
theorem Rel.env (r : Rel K O H0 fps s σ H) : EnvIs K (fun _ => False) H s σ := ⟨fun i l e => by
  obtain ⟨v, a, b⟩ := r.is i l e
  exact ⟨v, _, a, b, fun _ _ z => z⟩⟩
theorem Rel.envO (r : Rel K O H0 fps s σ H) : EnvIs K (Ow O fps) H (eraseO O s) σ := ⟨fun i l e => by
  obtain ⟨n, e⟩ := eraseO_get e
  obtain ⟨v, a, b⟩ := r.is i l e
  exact ⟨v, _, a, b, fun p hp ⟨j, hj, hpj⟩ => r.dis j hj i (fun z => n (z ▸ hj)) p hpj hp⟩⟩
theorem Rel.owMut (r : Rel K O H0 fps s σ H) : ∀ p, Ow O fps p → Mut (H p) := fun p ⟨i, hi, hp⟩ => (r.own i hi p hp).2
theorem Rel.grow (r : Rel K O H0 fps s σ H) (e : Same H H') : Rel K O H0 fps s σ H' :=
  ⟨r.same.trans e, r.len, fun i l q => by obtain ⟨v, a, b⟩ := r.is i l q; exact ⟨v, a, b.mono e⟩, r.emp, r.nd, fun i hi p hp => ⟨(r.own i hi p hp).1, Same.mut e (r.own i hi p hp).2⟩, r.dis⟩
theorem Rel.less {F : Hp} (r : Rel K O F fps s σ H) (e : Same H0 F) : Rel K O H0 fps s σ H :=
  ⟨e.trans r.same, r.len, r.is, r.emp, r.nd, fun i hi p hp => ⟨Same.off e (r.own i hi p hp).1, (r.own i hi p hp).2⟩, r.dis⟩
theorem Rel.weak {O' : List Nat} (r : Rel K O H0 fps s σ H) (h : ∀ i ∈ O', i ∈ O) : Rel K O' H0 fps s σ H :=
  ⟨r.same, r.len, r.is, r.emp, fun i hi => r.nd i (h i hi), fun i hi => r.own i (h i hi), fun i hi => r.dis i (h i hi)⟩
open Classical in
noncomputable def cutH (H : Hp) (Rm : Addr → Prop) : Hp := fun b => if Rm b then none else H b
theorem cutH_same {Rm : Addr → Prop} : Same (cutH H Rm) H := fun b o h => by
  unfold cutH at h
  split at h
  · cases h
  · exact h
theorem Rel.frame (r : Rel K O H0 fps s σ H) : Rel K O (cutH H (Ow O fps)) fps s σ H :=
  ⟨cutH_same, r.len, r.is, r.emp, r.nd, fun i hi p hp => ⟨by unfold cutH; rw [if_pos ⟨i, hi, hp⟩], (r.own i hi p hp).2⟩, r.dis⟩
theorem Rel.under (r : Rel K O H0 fps s σ H) : Same H0 (cutH H (Ow O fps)) := fun b o h => by
  unfold cutH
  rw [if_neg (fun ⟨i, hi, hp⟩ => by rw [(r.own i hi b hp).1] at h; cases h)]
  exact r.same b o h
open Classical in
noncomputable def updF (fps : Nat → List Addr) (n : Nat) (i : Nat) (fp : List Addr) : Nat → List Addr := fun j => if j = i ∧ i < n then fp else fps j
theorem updF_ne {n i j : Nat} {fp : List Addr} (h : j ≠ i) : updF fps n i fp j = fps j := by unfold updF; rw [if_neg (fun z => h z.1)]
theorem updF_eq {n i : Nat} {fp : List Addr} (h : i < n) : updF fps n i fp i = fp := by unfold updF; rw [if_pos ⟨rfl, h⟩]
theorem Rel.set (r : Rel K O H0 fps s σ H) {i : Nat} {l : PV} {v : V} {fp : List Addr} (hi : Is K H l v fp) (ho : i ∈ O → fp.Nodup ∧ ∀ p ∈ fp, H0 p = none ∧ Mut (H p))
    (hd : ∀ j, j ≠ i → (j ∈ O ∨ i ∈ O) → ∀ p ∈ fp, p ∉ fps j) : Rel K O H0 (updF fps s.length i fp) (s.set i (some l)) (σ.set i (some v)) H := by
  by_cases hlt : i < s.length
  · have e1 : updF fps s.length i fp i = fp := updF_eq hlt
    refine ⟨r.same, by rw [List.length_set, List.length_set]; exact r.len, fun j a e => ?_, fun j h => ?_, fun j hj => ?_, fun j hj p hp => ?_, fun j hj k hk p hp => ?_⟩
    · rw [List.getElem?_set] at e
      by_cases hj : i = j
      · subst hj
        rw [if_pos rfl, if_pos hlt] at e
        cases e
        rw [e1]
        exact ⟨v, by rw [List.getElem?_set, if_pos rfl, if_pos (by rw [← r.len]; exact hlt)], hi⟩
      · rw [if_neg hj] at e
        obtain ⟨w, h1, h2⟩ := r.is j a e
        rw [updF_ne (Ne.symm hj)]
        exact ⟨w, by rw [List.getElem?_set, if_neg hj]; exact h1, h2⟩
    · by_cases hj : i = j
      · subst hj
        exact absurd (by rw [List.getElem?_set, if_pos rfl, if_pos hlt]) (h l)
      · rw [updF_ne (Ne.symm hj)]
        exact r.emp j fun a z => h a (by rw [List.getElem?_set, if_neg hj]; exact z)
    · by_cases e : j = i
      · subst e; rw [e1]; exact (ho hj).1
      · rw [updF_ne e]; exact r.nd j hj
    · by_cases e : j = i
      · subst e; rw [e1] at hp; exact (ho hj).2 p hp
      · rw [updF_ne e] at hp; exact r.own j hj p hp
    · by_cases e : j = i
      · subst e
        rw [e1] at hp
        rw [updF_ne hk]
        exact hd k hk (.inr hj) p hp
      · rw [updF_ne e] at hp
        by_cases e2 : k = i
        · subst e2
          rw [e1]
          exact fun z => hd j e (.inl hj) p z hp
        · rw [updF_ne e2]; exact r.dis j hj k hk p hp
  · have e1 : s.set i (some l) = s := List.set_eq_of_length_le (by omega)
    have e2 : σ.set i (some v) = σ := List.set_eq_of_length_le (by rw [← r.len]; omega)
    have e3 : updF fps s.length i fp = fps := by funext j; unfold updF; rw [if_neg (fun z => hlt z.2)]
    rw [e1, e2, e3]; exact r
theorem Rel.mutate (r : Rel K O H0 fps s σ H) {i : Nat} (hi : i ∈ O) {p : Addr} (hp : p ∈ fps i) {o : HO} {l' : PV} {v : V} {fp' : List Addr} (hv : σ[i]? = some (some v)) (hlt : i < s.length)
    (h' : Is K (upd H p o) l' v fp') (nd : fp'.Nodup) (hm : ∀ q ∈ fp', H0 q = none ∧ Mut (upd H p o q)) (hd : ∀ j, j ≠ i → ∀ q ∈ fp', q ∉ fps j) (hmo : Mut (some o)) : Rel K O H0 (updF fps s.length i fp') (s.set i (some l')) σ (upd H p o) := by
  have mu := (r.own i hi p hp).2
  have pn : H0 p = none := (r.own i hi p hp).1
  have e1 : updF fps s.length i fp' i = fp' := updF_eq hlt
  have tk : TK2 H (upd H p o) := ⟨fun b xs h => by
    rw [upd_ne (fun z => by rw [z] at h; rw [h] at mu; exact mu)]; exact h, fun b o xs h => by
    rw [upd_ne (fun z => by rw [z] at h; rw [h] at mu; exact mu)]; exact h, fun b o x h => by
    rw [upd_ne (fun z => by rw [z] at h; rw [h] at mu; exact mu)]; exact h⟩
  refine ⟨fun b u h => by rw [upd_ne (ne_of_none h pn)]; exact r.same b u h, by rw [List.length_set]; exact r.len, fun j a e => ?_, fun j h => ?_, fun j hj => ?_, fun j hj q hq => ?_, fun j hj k hk q hq => ?_⟩
  · rw [List.getElem?_set] at e
    by_cases hj : i = j
    · subst hj
      rw [if_pos rfl, if_pos hlt] at e
      cases e
      rw [e1]; exact ⟨v, hv, h'⟩
    · rw [if_neg hj] at e
      obtain ⟨w, h1, h2⟩ := r.is j a e
      rw [updF_ne (Ne.symm hj)]
      refine ⟨w, h1, Is.tr tk _ _ _ (fun q hq => RdK.of fun u hu => ?_) h2⟩
      have ne : q ≠ p := fun z => r.dis i hi j (Ne.symm hj) p hp (z ▸ hq)
      rw [upd_ne ne]; exact hu
  · by_cases hj : i = j
    · subst hj
      exact absurd (by rw [List.getElem?_set, if_pos rfl, if_pos hlt]) (h l')
    · rw [updF_ne (Ne.symm hj)]
      exact r.emp j fun a z => h a (by rw [List.getElem?_set, if_neg hj]; exact z)
  · by_cases e : j = i
    · subst e; rw [e1]; exact nd
    · rw [updF_ne e]; exact r.nd j hj
  · by_cases e : j = i
    · subst e; rw [e1] at hq; exact hm q hq
    · rw [updF_ne e] at hq
      refine ⟨(r.own j hj q hq).1, ?_⟩
      have ne : q ≠ p := fun z => r.dis j hj i (Ne.symm e) q hq (z ▸ hp)
      rw [upd_ne ne]; exact (r.own j hj q hq).2
  · by_cases e : j = i
    · subst e
      rw [e1] at hq
      rw [updF_ne hk]
      exact hd k hk q hq
    · rw [updF_ne e] at hq
      by_cases e2 : k = i
      · subst e2
        rw [e1]
        exact fun z => hd j e q z hq
      · rw [updF_ne e2]; exact r.dis j hj k hk q hq
end
def Kep (a b : List Addr) : Prop := a = b ∨ a = []
theorem Kep.refl (a : List Addr) : Kep a a := .inl rfl
theorem Kep.trans {a b c : List Addr} (h : Kep a b) (k : Kep b c) : Kep a c := by
  rcases h with rfl | h
  · exact k
  · exact .inr h
inductive Out where
  | nx (s : PSt) | rt (l : PV) | bk (s : PSt) | ct (s : PSt)
abbrev XS := PSt → Option Out
def OutOk (K : PySem.W.Frag) (O W : List Nat) (H0 : Hp) (fps : Nat → List Addr) (σ : CSt) (D : Ends) : Out → Prop
  | .nx s' => ∀ fps' σ' H', Rel K O H0 fps' s' σ' H' → (∀ j, j ∉ W → σ'[j]? = σ[j]? ∧ Kep (fps' j) (fps j)) → D.nx σ' H'
  | .bk s' => ∀ fps' σ' H', Rel K O H0 fps' s' σ' H' → (∀ j, j ∉ W → σ'[j]? = σ[j]? ∧ Kep (fps' j) (fps j)) → D.bk σ' H'
  | .ct s' => ∀ fps' σ' H', Rel K O H0 fps' s' σ' H' → (∀ j, j ∉ W → σ'[j]? = σ[j]? ∧ Kep (fps' j) (fps j)) → D.ct σ' H'
  | .rt l => ∀ v fp H', Same H0 H' → Is K H' l v fp → fp.Nodup → (∀ p ∈ fp, H0 p = none ∧ Mut (H' p)) → D.rt v H'
def tFS (K : PySem.W.Frag) (O W : List Nat) (f : XS) : TS := fun D σ H => ∃ H0 fps s out, Rel K O H0 fps s σ H ∧ f s = some out ∧ OutOk K O W H0 fps σ D out
def VS (X : Cx) (O W : List Nat) (st : Stmt) (f : XS) : Prop := PS X st (tFS X.K O W f)
def VSs (X : Cx) (O W : List Nat) (st : List Stmt) (f : XS) : Prop := PSs X st (tFS X.K O W f)
theorem OutOk.after {O W W' : List Nat} {H0 : Hp} {fps fps1 : Nat → List Addr} {σ σ1 : CSt} {D : Ends} {out : Out} (h : OutOk K O W' H0 fps σ D out) (hw : ∀ j, j ∉ W → j ∉ W') (k : ∀ j, j ∉ W' → σ1[j]? = σ[j]? ∧ Kep (fps1 j) (fps j)) (hs : ∀ j, j ∉ W' → j ∉ W) : OutOk K O W H0 fps1 σ1 D out := by
  cases out with
  | nx s' => exact fun fps' σ' H' r q => h fps' σ' H' r fun j hj => ⟨(q j (hs j hj)).1.trans (k j hj).1, (q j (hs j hj)).2.trans (k j hj).2⟩
  | bk s' => exact fun fps' σ' H' r q => h fps' σ' H' r fun j hj => ⟨(q j (hs j hj)).1.trans (k j hj).1, (q j (hs j hj)).2.trans (k j hj).2⟩
  | ct s' => exact fun fps' σ' H' r q => h fps' σ' H' r fun j hj => ⟨(q j (hs j hj)).1.trans (k j hj).1, (q j (hs j hj)).2.trans (k j hj).2⟩
  | rt l => exact h
theorem OutOk.same {O W W' : List Nat} {H0 : Hp} {fps fps1 : Nat → List Addr} {σ σ1 : CSt} {D : Ends} {out : Out} (h : OutOk K O W' H0 fps σ D out) (k : ∀ j, j ∉ W' → σ1[j]? = σ[j]? ∧ Kep (fps1 j) (fps j)) (hs : ∀ j, j ∉ W' → j ∉ W) : OutOk K O W H0 fps1 σ1 D out := by
  cases out with
  | nx s' => exact fun fps' σ' H' r q => h fps' σ' H' r fun j hj => ⟨(q j (hs j hj)).1.trans (k j hj).1, (q j (hs j hj)).2.trans (k j hj).2⟩
  | bk s' => exact fun fps' σ' H' r q => h fps' σ' H' r fun j hj => ⟨(q j (hs j hj)).1.trans (k j hj).1, (q j (hs j hj)).2.trans (k j hj).2⟩
  | ct s' => exact fun fps' σ' H' r q => h fps' σ' H' r fun j hj => ⟨(q j (hs j hj)).1.trans (k j hj).1, (q j (hs j hj)).2.trans (k j hj).2⟩
  | rt l => exact h
theorem OutOk.less {O W : List Nat} {H0 F : Hp} {fps : Nat → List Addr} {σ : CSt} {D : Ends} {out : Out} (h : OutOk K O W H0 fps σ D out) (e : Same H0 F) : OutOk K O W F fps σ D out := by
  cases out with
  | nx s' => exact fun fps' σ' H' r q => h fps' σ' H' (r.less e) q
  | bk s' => exact fun fps' σ' H' r q => h fps' σ' H' (r.less e) q
  | ct s' => exact fun fps' σ' H' r q => h fps' σ' H' (r.less e) q
  | rt l => exact fun v fp H' sm i d n => h v fp H' (e.trans sm) i d fun p hp => ⟨Same.off e (n p hp).1, (n p hp).2⟩
def sNext : XS := fun s => some (.nx s)
def sSeq (f g : XS) : XS := fun s => (f s).bind fun o => match o with | .nx s' => g s' | r => some r
def sIf (c : XT) (f g : XS) : XS := fun s => (c s).bind fun k => if k = true then f s else g s
def sRet (f : XE) : XS := fun s => (f s).map .rt
def sSet (i : Nat) (f : XE) : XS := fun s => (f s).map fun l => .nx (s.set i (some l))
section
variable {X : Cx} {O W W1 W2 : List Nat} {st : Stmt} {rest : List Stmt} {f g : XS} {pos : Pos}
theorem PS.imp {t t' : TS} (h : PS X st t) (i : ∀ D σ H, t' D σ H → t D σ H) : PS X st t' := fun pins s σ H D I q => h pins s σ H D I (i D σ H q)
theorem PSs.imp {t t' : TS} (h : PSs X rest t) (i : ∀ D σ H, t' D σ H → t D σ H) : PSs X rest t' := fun pins s σ H D I q => h pins s σ H D I (i D σ H q)
theorem tNext_of : ∀ D σ H, tFS K O W sNext D σ H → tNext D σ H := fun D σ H ⟨H0, fps, s, out, r, e, k⟩ => by
  cases e
  exact k fps σ H r fun j _ => ⟨rfl, Kep.refl _⟩
theorem vss_nil : VSs X O [] [] sNext := PSs.imp pss_nil tNext_of
theorem vss_one (h : VS X O W st f) : VSs X O W [st] f := pss_one h
theorem vss_cons (h1 : VS X O W1 st f) (h2 : VSs X O W2 rest g) : VSs X O (W1 ++ W2) (st :: rest) (sSeq f g) := PSs.imp (pss_cons h1 h2) fun D σ H ⟨H0, fps, s, out, r, e, k⟩ => by
  obtain ⟨o1, e1, e⟩ := bind_some' e
  have sub1 : ∀ j, j ∉ W1 ++ W2 → j ∉ W1 := fun j hj z => hj (List.mem_append_left _ z)
  have sub2 : ∀ j, j ∉ W1 ++ W2 → j ∉ W2 := fun j hj z => hj (List.mem_append_right _ z)
  refine ⟨H0, fps, s, o1, r, e1, ?_⟩
  cases o1 with
  | nx s1 =>
    intro fps1 σ1 H1 r1 q1
    exact ⟨H0, fps1, s1, out, r1, e, k.same (fun j hj => q1 j (sub1 j hj)) sub2⟩
  | bk s1 => cases e; exact fun fps' σ' H' r' q' => k fps' σ' H' r' fun j hj => q' j (sub1 j hj)
  | ct s1 => cases e; exact fun fps' σ' H' r' q' => k fps' σ' H' r' fun j hj => q' j (sub1 j hj)
  | rt l => cases e; exact k
theorem vs_if {c : Expr} {a b : List Stmt} {fc : XT} (hc : VT X c fc) (ha : VSs X O W1 a f) (hb : VSs X O W2 b g) : VS X O (W1 ++ W2) (.If c a b pos) (sIf fc f g) := PS.imp (ps_if hc ha hb) fun D σ H ⟨H0, fps, s, out, r, e, k⟩ => by
  obtain ⟨c, e1, e⟩ := bind_some' e
  have sub1 : ∀ j, j ∉ W1 ++ W2 → j ∉ W1 := fun j hj z => hj (List.mem_append_left _ z)
  have sub2 : ∀ j, j ∉ W1 ++ W2 → j ∉ W2 := fun j hj z => hj (List.mem_append_right _ z)
  refine ⟨fun _ => False, s, c, fun _ z => z.elim, r.env, e1, fun H1 s1 => ?_⟩
  cases c with
  | true =>
    rw [if_pos rfl] at e ⊢
    exact ⟨H0, fps, s, out, r.grow s1, e, k.same (fun j _ => ⟨rfl, Kep.refl _⟩) sub1⟩
  | false =>
    rw [if_neg Bool.false_ne_true] at e ⊢
    exact ⟨H0, fps, s, out, r.grow s1, e, k.same (fun j _ => ⟨rfl, Kep.refl _⟩) sub2⟩
theorem vs_ret {e : Expr} {fe : XE} (he : VM X e fe) : VS X O [] (.Return (some e) pos) (sRet fe) := PS.imp (ps_ret he) fun D σ H ⟨H0, fps, s, out, r, e, k⟩ => by
  obtain ⟨l, e1, rfl⟩ := map_some e
  exact ⟨s, l, r.env, e1, fun v H' fp sm i d n => k v fp H' (r.same.trans sm) i d fun p hp => ⟨Same.off r.same (n p hp).1, (n p hp).2⟩⟩
theorem tAsg_of {t : TE} {i : Nat} {fe : XE} (ht : ∀ σ H Q, tM K fe σ H Q → t σ H Q) : ∀ D σ H, tFS K O [i] (sSet i fe) D σ H → tAsg t (gName i) D σ H := fun D σ H ⟨H0, fps, s, out, r, e, k⟩ => by
  obtain ⟨l, e1, rfl⟩ := map_some e
  refine ht σ H _ ⟨s, l, r.env, e1, fun v H' fp sm is d n => ?_⟩
  refine k _ _ H' ((r.grow sm).set (i := i) is (fun _ => ⟨d, fun p hp => ⟨Same.off r.same (n p hp).1, (n p hp).2⟩⟩) fun j _ _ p hp z => r.dom j p z (n p hp).1) fun j hj => ?_
  have : j ≠ i := by simpa using hj
  exact ⟨by rw [List.getElem?_set, if_neg (Ne.symm this)], .inl (updF_ne this)⟩
theorem vs_set {i : Nat} {x : Str} {e : Expr} {fe : XE} {pos' : Pos} (hN : X.N.Nodup) (hi : X.N[i]? = some x) (hx : Loc X.env.scope x) (he : VM X e fe) (hs : swapsWith e (some (.Name x pos')) pos.line X.env = pure false := by rfl) (hf : X.fn x = true ∨ X.env.scope.names.lookup x = some .local := by first | exact .inl rfl | exact .inr rfl | assumption) :
    VS X O [i] (.Assign [.Name x pos'] e pos) (sSet i fe) := PS.imp (ps_set hN hi hx he hs hf) (tAsg_of fun _ _ _ h => h)
end
def forL (T : Tgt) (fb : XS) : List PV → PSt → Option Out
  | [], s => some (.nx s)
  | l :: r, s => (bindT T l s).bind fun s1 => (fb s1).bind fun o => match o with | .nx s2 => forL T fb r s2 | .ct s2 => forL T fb r s2 | .bk s2 => some (.nx s2) | .rt v => some (.rt v)
def sFor (O : List Nat) (fi : XL) (T : Tgt) (fb : XS) : XS := fun s => (fi (eraseO O s)).bind fun ls => forL T fb ls s
theorem Rel.setAll {O : List Nat} {H0 H : Hp} : ∀ {is : List Nat} {ls : List PV} {vs : List V} {fs : List Addr} {fps : Nat → List Addr} {s : PSt} {σ : CSt}, Rel K O H0 fps s σ H → Iss K H ls vs fs → ls.length = is.length → (∀ i ∈ is, i ∉ O) → (∀ i ∈ O, ∀ p ∈ fps i, p ∉ fs) →
    ∃ fps', Rel K O H0 fps' (VL.setAll is ls s) (setAllC is vs σ) H ∧ ∀ j, j ∉ is → (setAllC is vs σ)[j]? = σ[j]? ∧ Kep (fps' j) (fps j)
  | [], ls, vs, fs, fps, s, σ, r, _, _, _, _ => ⟨fps, by unfold VL.setAll setAllC; exact r, fun j _ => ⟨by unfold setAllC; rfl, Kep.refl _⟩⟩
  | i :: is, [], vs, fs, fps, s, σ, r, _, hl, _, _ => by simp at hl
  | i :: is, l :: ls, vs, fs, fps, s, σ, r, hi, hl, hO, hd => by
    obtain ⟨x, rr, f1, f2, rfl, h1, h2, rfl⟩ := hi.inv
    have hiO := hO i List.mem_cons_self
    have r1 := r.set (i := i) h1 (fun z => absurd z hiO) fun j hj hjo p hp z => by
      rcases hjo with hjo | hjo
      · exact hd j hjo p z (List.mem_append_left _ hp)
      · exact absurd hjo hiO
    obtain ⟨fps', r2, q2⟩ := Rel.setAll (is := is) r1 h2 (by simpa using hl) (fun j hj => hO j (List.mem_cons_of_mem _ hj)) fun j hj p hp z => by
      have hji : j ≠ i := fun e => hiO (by rw [← e]; exact hj)
      rw [updF_ne hji] at hp
      exact hd j hj p hp (List.mem_append_right _ z)
    refine ⟨fps', r2, fun j hj => ?_⟩
    have hji : j ≠ i := fun e => hj (e ▸ List.mem_cons_self)
    obtain ⟨a, b⟩ := q2 j (fun z => hj (List.mem_cons_of_mem _ z))
    exact ⟨a.trans (by rw [List.getElem?_set, if_neg (Ne.symm hji)]), b.trans (.inl (updF_ne hji))⟩
section
variable {O W : List Nat} {T : Tgt} {fb : XS}
theorem for_core {H1 : Hp} {fps : Nat → List Addr} {s : PSt} {σ : CSt} {D : Ends} {J : It} {ls : List PV} {out : Out} (r : Rel K O (cutH H1 (Ow O fps)) fps s σ H1) (jis : JIs K (Ow O fps) H1 J ls) (e : forL T fb ls s = some out) (hT : ∀ i ∈ T.slots, i ∉ O)
    (k : OutOk K O (T.slots ++ W) (cutH H1 (Ow O fps)) fps σ D out) : ForW (gT K T) (tFS K O W fb) D σ J H1 := by
  have subT : ∀ j, j ∉ T.slots ++ W → j ∉ T.slots := fun j hj z => hj (List.mem_append_left _ z)
  have subW : ∀ j, j ∉ T.slots ++ W → j ∉ W := fun j hj z => hj (List.mem_append_right _ z)
  refine ⟨fun i m σ' H' => m = ls.length - i ∧ i ≤ ls.length ∧ ∃ fps' s', Rel K O (cutH H1 (Ow O fps)) fps' s' σ' H' ∧ forL T fb (ls.drop i) s' = some out ∧ ∀ j, j ∉ T.slots ++ W → σ'[j]? = σ[j]? ∧ Kep (fps' j) (fps j),
    ⟨ls.length, by simp, Nat.zero_le _, fps, s, r, e, fun j _ => ⟨rfl, Kep.refl _⟩⟩, ?_⟩
  rintro i m σ' H' ⟨rfl, hi, fps', s', r', e', q'⟩
  have ab : Ab (Ow O fps) H1 H' := fun b o h n => r'.same b o (by unfold cutH; rw [if_neg n]; exact h)
  cases q : ls.drop i with
  | nil =>
    have hil : i = ls.length := by
      have := congrArg List.length q
      rw [List.length_drop] at this
      simp at this; omega
    subst hil
    rw [q] at e'
    cases e'
    exact .inl ⟨jis.stop H' ab, k fps' σ' H' r' q'⟩
  | cons l rr =>
    obtain ⟨hl, hr⟩ := drop_get q
    have hilt : i < ls.length := (List.getElem?_eq_some_iff.mp hl).1
    rw [q] at e'
    unfold forL at e'
    obtain ⟨sb, eb, e'⟩ := bind_some' e'
    obtain ⟨o, eo, e'⟩ := bind_some' e'
    refine .inr ⟨jis.go H' i l ab hl, fun σ2 H2 => ∃ fps2 s2, Rel K O (cutH H1 (Ow O fps)) fps2 s2 σ2 H2 ∧ forL T fb (ls.drop (i + 1)) s2 = some out ∧ ∀ j, j ∉ T.slots ++ W → σ2[j]? = σ[j]? ∧ Kep (fps2 j) (fps j),
      fun σ2 H2 h2 => ⟨ls.length - (i + 1), by omega, rfl, hilt, h2⟩, fun x H2 y => ?_⟩
    obtain ⟨s2, fx, ix, nx⟩ := jis.yld H' i l x H2 ab hl y
    obtain ⟨bl, bv, bf, rfl, bi, blen, bsub, buse⟩ := gT_use (K := K) ix eb
    obtain ⟨fps3, r3, q3⟩ := Rel.setAll (is := T.slots) (r'.grow s2) bi blen hT fun j hj p hp z => by
      obtain ⟨n1, n2⟩ := nx p (bsub p z)
      have := (r'.own j hj p hp).1
      unfold cutH at this
      rw [if_neg n2] at this
      exact n1 this
    refine buse _ _ ⟨_, fps3, _, o, r3, eo, ?_⟩
    have keep : ∀ j, j ∉ T.slots ++ W → (setAllC T.slots bv σ')[j]? = σ[j]? ∧ Kep (fps3 j) (fps j) := fun j hj => ⟨(q3 j (subT j hj)).1.trans (q' j hj).1, (q3 j (subT j hj)).2.trans (q' j hj).2⟩
    cases o with
    | nx s4 => exact fun fps4 σ4 H4 r4 q4 => ⟨fps4, s4, r4, by rw [hr]; exact e', fun j hj => ⟨(q4 j (subW j hj)).1.trans (keep j hj).1, (q4 j (subW j hj)).2.trans (keep j hj).2⟩⟩
    | ct s4 => exact fun fps4 σ4 H4 r4 q4 => ⟨fps4, s4, r4, by rw [hr]; exact e', fun j hj => ⟨(q4 j (subW j hj)).1.trans (keep j hj).1, (q4 j (subW j hj)).2.trans (keep j hj).2⟩⟩
    | bk s4 =>
      cases e'
      exact fun fps4 σ4 H4 r4 q4 => k fps4 σ4 H4 r4 fun j hj => ⟨(q4 j (subW j hj)).1.trans (keep j hj).1, (q4 j (subW j hj)).2.trans (keep j hj).2⟩
    | rt v =>
      cases e'
      exact k
end
section
variable {X : Cx} {O W : List Nat} {tg iter : Expr} {body : List Stmt} {fi : XL} {T : Tgt} {fb : XS} {pos : Pos}
theorem vs_for (hp : PassesOwn (model X.prog X.w) X.A X.env X.xe) (hc : X.calm = true) (hi : VI X tg iter fi) (hg : PG X tg (gT X.K T)) (hb : VSs X O W body fb) (hT : ∀ i ∈ T.slots, i ∉ O := by decide)
    (hs : ∀ x, foldedSetIterable iter X.env x = pure x := by intro _; rfl) : VS X O (T.slots ++ W) (.For tg iter body [] pos) (sFor O fi T fb) := PS.imp (ps_for hp hc hi hg hb hs) fun D σ H ⟨H0, fps, s, out, r, e, k⟩ => by
  obtain ⟨ls, e1, e⟩ := bind_some' e
  refine ⟨Ow O fps, eraseO O s, ls, r.owMut, r.envO, e1, fun J H1 s1 jis => ?_⟩
  exact for_core (r.grow s1).frame jis e hT (k.less (r.grow s1).under)
end
end VL
set_option Elab.async false
set_option linter.all false
set_option maxRecDepth 100000
set_option maxHeartbeats 4000000
namespace VL
open PySem PySem.Spec PyProof.Rows L2
variable {K : PySem.W.Frag}
section
variable {O : List Nat} {H0 H H' : Hp} {fps : Nat → List Addr} {s : PSt} {σ : CSt}
theorem Rel.lst_at (r : Rel K O H0 fps s σ H) {i : Nat} (hi : i ∈ O) {m : List PV} (e : s[i]? = some (some (.lst m))) : ∃ p xs fq, σ[i]? = some (some (.ref p)) ∧ H p = some (.lst xs) ∧ Iss K H m xs fq ∧ fps i = p :: fq := by
  obtain ⟨v, a, b⟩ := r.is i _ e
  obtain ⟨p, xs, fq, rfl, hp, hm, ef⟩ := b.lst_inv
  exact ⟨p, xs, fq, a, hp, hm, ef⟩
theorem lt_of_get {α : Type} {l : List α} {i : Nat} {a : α} (h : l[i]? = some a) : i < l.length := (List.getElem?_eq_some_iff.mp h).1
theorem TK.upd' {p : Addr} {o : HO} (mu : Mut (H p)) : TK2 H (L2.upd H p o) := ⟨fun b xs h => by
  rw [upd_ne (fun z => by rw [z] at h; rw [h] at mu; exact mu)]; exact h, fun b o xs h => by
  rw [upd_ne (fun z => by rw [z] at h; rw [h] at mu; exact mu)]; exact h, fun b o x h => by
  rw [upd_ne (fun z => by rw [z] at h; rw [h] at mu; exact mu)]; exact h⟩
theorem RdK.upd_ne {p q : Addr} {o : HO} (ne : q ≠ p) : RdK H (L2.upd H p o) q := RdK.of fun u hu => by rw [L2.upd_ne ne]; exact hu
theorem Rel.relist (r : Rel K O H0 fps s σ H) {i : Nat} (hi : i ∈ O) {m m' : List PV} (e : s[i]? = some (some (.lst m))) {p : Addr} {fq fq' : List Addr} {xs' : List V} (ef : fps i = p :: fq) (hv : σ[i]? = some (some (.ref p)))
    (h' : Iss K H m' xs' fq') (nd : (p :: fq').Nodup) (hf : ∀ q ∈ fq', q ∈ fq ∨ ((H0 q = none ∧ Mut (H q)) ∧ ∀ j, q ∉ fps j)) : Rel K O H0 (updF fps s.length i (p :: fq')) (s.set i (some (.lst m'))) σ (L2.upd H p (.lst xs')) := by
  have hp : p ∈ fps i := by rw [ef]; exact List.mem_cons_self
  have mu := (r.own i hi p hp).2
  have np : p ∉ fq' := (List.nodup_cons.mp nd).1
  refine r.mutate hi hp hv (lt_of_get e) (Is.lst upd_same (Iss.tr (TK.upd' mu) _ _ _ (fun q hq => RdK.upd_ne fun z => np (z ▸ hq)) h')) nd (fun q hq => ?_) (fun j hj q hq z => ?_) True.intro
  · rcases List.mem_cons.mp hq with rfl | hq
    · exact ⟨(r.own i hi q hp).1, by rw [upd_same]; exact True.intro⟩
    · have ne : q ≠ p := fun z => np (z ▸ hq)
      rw [L2.upd_ne ne]
      rcases hf q hq with h | h
      · exact r.own i hi q (by rw [ef]; exact List.mem_cons_of_mem _ h)
      · exact h.1
  · rcases List.mem_cons.mp hq with rfl | hq
    · exact r.dis i hi j hj q hp z
    · rcases hf q hq with h | h
      · exact r.dis i hi j hj q (by rw [ef]; exact List.mem_cons_of_mem _ h) z
      · exact h.2 j z
end
def atL (s : PSt) (i : Nat) : Option (List PV) := match s[i]? with | some (some (.lst m)) => some m | _ => none
def asI : PV → Option Int
  | .int k => some k
  | _ => none
def asL : PV → Option (List PV)
  | .lst k => some k
  | _ => none
theorem atL_some {s : PSt} {i : Nat} {m : List PV} (h : atL s i = some m) : s[i]? = some (some (.lst m)) := by
  unfold atL at h; split at h
  · cases h; assumption
  · cases h
theorem asI_some {a : PV} {k : Int} (h : asI a = some k) : a = .int k := by
  unfold asI at h; split at h
  · cases h; rfl
  · cases h
theorem asL_some {a : PV} {k : List PV} (h : asL a = some k) : a = .lst k := by
  unfold asL at h; split at h
  · cases h; rfl
  · cases h
def gd (c : Bool) : Option Unit := if c = true then some () else none
theorem gd_some {c : Bool} {u : Unit} (h : gd c = some u) : c = true := by
  unfold gd at h; split at h
  · assumption
  · cases h
def sAppend (i : Nat) (f : XE) : XS := fun s => (f s).bind fun l => (atL s i).bind fun m => (gd (decide (m.length ≤ 10000))).bind fun _ => some (.nx (s.set i (some (.lst (m ++ [l])))))
def sInsert (i : Nat) (fk : XE) (f : XE) : XS := fun s => (fk s).bind fun k => (f s).bind fun l => (asI k).bind fun k => (atL s i).bind fun m => (gd (pureL m && pureV l && decide (0 ≤ k ∧ k ≤ 1000000 ∧ m.length ≤ 10000))).bind fun _ => some (.nx (s.set i (some (.lst (m.take k.toNat ++ l :: m.drop k.toNat)))))
def sSetIx (i : Nat) (fk : XE) (f : XE) : XS := fun s => (f s).bind fun l => (fk s).bind fun k => (asI k).bind fun k => (atL s i).bind fun m => (gd (pureL m && pureV l)).bind fun _ => (ixN m.length k).map fun j => .nx (s.set i (some (.lst (m.set j l))))
section
variable {X : Cx} {O : List Nat} {i : Nat} {st : Stmt} {f fk : XE}
theorem tyL {H : Hp} {p : Addr} {xs : List V} (h : H p = some (.lst xs)) : tyV K "list" (.ref p) H := .inl ⟨rfl, _, SqL.of h⟩
theorem keepW {s : PSt} {σ : CSt} {fps : Nat → List Addr} {fp : List Addr} : ∀ j, j ∉ [i] → σ[j]? = σ[j]? ∧ Kep (updF fps s.length i fp j) (fps j) := fun j hj => ⟨rfl, .inl (updF_ne (by simpa using hj))⟩
theorem vs_append (h : PS X st (tDrop (tBM X.K "list" rAppend (tVar i) (tCons (tM X.K f) tNil)))) (hi : i ∈ O := by decide) : VS X O [i] st (sAppend i f) := PS.imp h fun D σ H ⟨H0, fps, s, out, r, e, k⟩ => by
  obtain ⟨l, e1, e⟩ := bind_some' e
  obtain ⟨m, em, e⟩ := bind_some' e
  obtain ⟨_, eg, e⟩ := bind_some' e
  have em := atL_some em
  have hlen := of_decide_eq_true (gd_some eg)
  cases e
  obtain ⟨p, xs, fq, hv, hp, hm, ef⟩ := r.lst_at hi em
  refine ⟨.ref p, hv, tyL hp, s, l, r.env, e1, fun y H2 fe s2 i2 d2 n2 => ?_⟩
  refine ⟨p, xs, y, rfl, rfl, s2 _ _ hp, by rw [hm.len]; exact lt_size (by omega), ?_⟩
  have r2 := r.grow s2
  have fr : ∀ q ∈ fe, ∀ j, q ∉ fps j := fun q hq j z => r.dom j q z (n2 q hq).1
  refine k _ _ _ (r2.relist hi em ef hv ((hm.mono s2).append (Iss.one i2)) ?_ fun q hq => ?_) keepW
  · have nd := r.nd i hi
    rw [ef] at nd
    rw [← List.cons_append]
    exact List.nodup_append.mpr ⟨nd, d2, fun a ha b hb z => fr b hb i (by rw [ef, ← z]; exact ha)⟩
  · rcases List.mem_append.mp hq with h | h
    · exact .inl h
    · exact .inr ⟨⟨Same.off r.same (n2 q h).1, (n2 q h).2⟩, fr q h⟩
theorem Iss.pureEq {H : Hp} {l : List PV} {xs : List V} {fp : List Addr} (h : Iss K H l xs fp) (hp : pureL l = true) : Iss K H l xs [] := by
  have := Iss.pure _ _ _ hp h
  subst this; exact h
theorem pureL_take {l : List PV} (n : Nat) (h : pureL l = true) : pureL (l.take n) = true := by
  rw [pureL_all, List.all_eq_true] at *
  exact fun x hx => h x (List.mem_of_mem_take hx)
theorem pureL_drop {l : List PV} (n : Nat) (h : pureL l = true) : pureL (l.drop n) = true := by
  rw [pureL_all, List.all_eq_true] at *
  exact fun x hx => h x (List.mem_of_mem_drop hx)
theorem vs_insert (h : PS X st (tDrop (tBM X.K "list" rInsert (tVar i) (tCons (tF X.K fk) (tCons (tF X.K f) tNil))))) (hi : i ∈ O := by decide) : VS X O [i] st (sInsert i fk f) := PS.imp h fun D σ H ⟨H0, fps, s, out, r, e, k⟩ => by
  obtain ⟨kk, e0, e⟩ := bind_some' e
  obtain ⟨l, e1, e⟩ := bind_some' e
  obtain ⟨ki, ek, e⟩ := bind_some' e
  obtain ⟨m, em, e⟩ := bind_some' e
  obtain ⟨_, eg, e⟩ := bind_some' e
  rw [asI_some ek] at e0
  have em := atL_some em
  have hc := gd_some eg
  simp only [Bool.and_eq_true, decide_eq_true_eq] at hc
  obtain ⟨⟨pm, pl⟩, k0, k1, hlen⟩ := hc
  cases e
  obtain ⟨p, xs, fq, hv, hp, hm, ef⟩ := r.lst_at hi em
  refine ⟨.ref p, hv, tyL hp, fun _ => False, s, _, fun _ z => z.elim, r.env, e0, fun z H1 fz s1 i1 _ => ⟨fun _ => False, s, l, fun _ z => z.elim, r.env.mono s1, e1, fun y H2 fe s2 i2 _ => ?_⟩⟩
  have s12 := s1.trans s2
  obtain ⟨rfl, _⟩ := i1.int_inv
  have := Is.pure _ _ _ pl i2
  subst this
  refine ⟨p, xs, ki, y, rfl, rfl, s12 _ _ hp, k0, by omega, by rw [hm.len]; exact lt_size (by omega), ?_⟩
  have hm' := (hm.mono s12).pureEq pm
  obtain ⟨f1, a1, _⟩ := hm'.take ki.toNat
  obtain ⟨f2, a2, _⟩ := hm'.drop ki.toNat
  have a1 := a1.pureEq (pureL_take _ pm)
  have a2 := a2.pureEq (pureL_drop _ pm)
  exact k _ _ _ ((r.grow s12).relist hi em ef hv (a1.append (Iss.cons i2 a2)) (by simp) fun q hq => by simp at hq) keepW
theorem vs_setix (h : PS X st (tAsg (tF X.K f) (gSub (tVar i) (tF X.K fk) rSetL))) (hi : i ∈ O := by decide) : VS X O [i] st (sSetIx i fk f) := PS.imp h fun D σ H ⟨H0, fps, s, out, r, e, k⟩ => by
  obtain ⟨l, e0, e⟩ := bind_some' e
  obtain ⟨kk, e1, e⟩ := bind_some' e
  obtain ⟨ki, ek, e⟩ := bind_some' e
  obtain ⟨m, em, e⟩ := bind_some' e
  obtain ⟨_, eg, e⟩ := bind_some' e
  rw [asI_some ek] at e1
  have em := atL_some em
  have hc := gd_some eg
  simp only [Bool.and_eq_true] at hc
  obtain ⟨pm, pl⟩ := hc
  obtain ⟨j, ej, rfl⟩ := map_some e
  obtain ⟨p, xs, fq, hv, hp, hm, ef⟩ := r.lst_at hi em
  refine ⟨fun _ => False, s, l, fun _ z => z.elim, r.env, e0, fun y H1 fy s1 i1 _ => ?_⟩
  refine ⟨.ref p, hv, fun _ => False, s, _, fun _ z => z.elim, r.env.mono s1, e1, fun z H2 fz s2 i2 _ => ?_⟩
  have s12 := s1.trans s2
  obtain ⟨rfl, _⟩ := i2.int_inv
  have := Is.pure _ _ _ pl i1
  subst this
  refine ⟨p, xs, ki, j, rfl, rfl, s12 _ _ hp, by rw [hm.len]; exact ej, ?_⟩
  exact k _ _ _ ((r.grow s12).relist hi em ef hv (Iss.setP j pm pl ((hm.mono s12).pureEq pm) (i1.mono s2)) (by simp) fun q hq => by simp at hq) keepW
end
theorem Iss.setRow {H : Hp} {o : List V} : ∀ {m : List PV} {xs : List V} {fq : List Addr} {j : Nat} {n n' : List PV} {q : Addr}, Iss K H m xs fq → m[j]? = some (.lst n) → xs[j]? = some (.ref q) → fq.Nodup → Mut (H q) → pureL n = true → Iss K (L2.upd H q (.lst o)) n' o [] →
    Iss K (L2.upd H q (.lst o)) (m.set j (.lst n')) xs fq
  | [], _, _, _, _, _, _, _, e, _, _, _, _, _ => by simp at e
  | a :: m, xs, fq, 0, n, n', q, h, e, ex, nd, mu, pn, h' => by
    obtain ⟨x, r, f1, f2, rfl, h1, h2, rfl⟩ := h.inv
    simp at e ex
    subst e ex
    obtain ⟨p', zs, fz, e, hp, hz, rfl⟩ := h1.lst_inv
    cases e
    have := Iss.pure _ _ _ pn hz
    subst this
    have nq : q ∉ f2 := (List.nodup_cons.mp nd).1
    exact Iss.cons (Is.lst upd_same h') (Iss.tr (TK.upd' mu) _ _ _ (fun z hz => RdK.upd_ne fun e => nq (e ▸ hz)) h2)
  | a :: m, xs, fq, j + 1, n, n', q, h, e, ex, nd, mu, pn, h' => by
    obtain ⟨x, r, f1, f2, rfl, h1, h2, rfl⟩ := h.inv
    simp at e ex
    obtain ⟨nd1, nd2, nd3⟩ := List.nodup_append.mp nd
    obtain ⟨y, fy, hy, iy, suby⟩ := h2.get e
    rw [ex] at hy; cases hy
    obtain ⟨p', zs, fz, e', _, _, rfl⟩ := iy.lst_inv
    cases e'
    have nq : q ∉ f1 := fun z => nd3 q z q (suby q List.mem_cons_self) rfl
    exact Iss.cons (Is.tr (TK.upd' mu) _ _ _ (fun z hz => RdK.upd_ne fun e => nq (e ▸ hz)) h1) (Iss.setRow h2 e ex nd2 mu pn h')
def sSetIx2 (i : Nat) (fa fb : XE) (f : XE) : XS := fun s => (f s).bind fun l => (fa s).bind fun a => (fb s).bind fun b => (asI a).bind fun a => (asI b).bind fun b => (atL s i).bind fun m => (ixN m.length a).bind fun j => (m[j]?).bind fun r => (asL r).bind fun n =>
  (gd (pureL n && pureV l)).bind fun _ => (ixN n.length b).map fun c => .nx (s.set i (some (.lst (m.set j (.lst (n.set c l))))))
end VL
set_option Elab.async false
set_option linter.all false
set_option maxRecDepth 100000
set_option maxHeartbeats 4000000
set_option Elab.async false
set_option linter.all false
set_option maxRecDepth 100000
set_option maxHeartbeats 4000000
namespace VL
open PySem PySem.Spec PyProof.Rows L2
variable {K : PySem.W.Frag}
section
variable {X : Cx} {a b c d : Expr} {fa fb fc fd : XE} {pos : Pos}
theorem ve_eq (hu : X.A.units + 64 < cLine) (ha : VE X a fa) (hb : VE X b fb) : VE X (.Compare a [.Eq] [b] pos) (eOp (gEq false) fa fb) := ve_cmp (op_eqV hu) (rb_eqV false) ha hb (nomark _)
theorem vt_eq (hu : X.A.units + 64 < cLine) (ha : VE X a fa) (hb : VE X b fb) : VT X (.Compare a [.Eq] [b] pos) (xB (eOp (gEq false) fa fb)) := vt_cmp (op_eqV hu) (rb_eqV false) ha hb (nomark _)
theorem vt_ne (hu : X.A.units + 64 < cLine) (ha : VE X a fa) (hb : VE X b fb) : VT X (.Compare a [.NotEq] [b] pos) (xB (eOp (gEq true) fa fb)) := vt_cmp (op_neV hu) (rb_eqV true) ha hb (nomark _)
def blO : PV → Option Bool
  | .bl c => some c
  | _ => none
end
section
variable {X : Cx} {a b : Expr} {fa fb : XE} {pos : Pos}
def gRep : PV → PV → Option PV
  | .lst m, .int k => if pureL m = true ∧ -1000000 ≤ k ∧ k ≤ 1000000 ∧ m.length * k.toNat ≤ 10000 then some (.lst (List.replicate k.toNat m).flatten) else none
  | _, _ => none
theorem Iss.rep {H : Hp} {m : List PV} {xs : List V} (h : Iss K H m xs []) : ∀ k : Nat, Iss K H (List.replicate k m).flatten (List.replicate k xs).flatten []
  | 0 => Iss.nil
  | k + 1 => by
    rw [List.replicate_succ, List.replicate_succ, List.flatten_cons, List.flatten_cons]
    exact h.append (Iss.rep h k)
theorem vm_rep (ha : VE X a fa) (hb : VE X b fb) : VM X (.BinOp a .Mult b pos) (eOp gRep fa fb) := PE.imp (pe_op op_rep ha hb) fun σ H Q ⟨s, l, env, e, k⟩ => by
  obtain ⟨x', y', e1, e2, e⟩ := eOp_some e
  refine ⟨fun _ => False, s, x', fun _ z => z.elim, env, e1, fun x H1 f1 s1 i1 _ => ⟨fun _ => False, s, y', fun _ z => z.elim, env.mono s1, e2, fun y H2 f2 s2 i2 _ => ?_⟩⟩
  cases x' with
  | lst m => cases y' with
    | int n =>
      have e : (if pureL m = true ∧ -1000000 ≤ n ∧ n ≤ 1000000 ∧ m.length * n.toNat ≤ 10000 then some (PV.lst (List.replicate n.toNat m).flatten) else none) = some l := e
      split at e
      case isFalse => cases e
      rename_i hl
      cases e
      obtain ⟨p, xs, fq, rfl, hp, hi, rfl⟩ := i1.lst_inv
      refine ⟨p, n, xs, rfl, i2.int_inv.1, s2 _ _ hp, by omega, by omega, by rw [hi.len]; exact Nat.le_of_lt (lt_size hl.2.2.2), fun q hq => ?_⟩
      refine k _ _ [q] (s1.trans (s2.trans (Same.new hq _))) (Is.lst upd_same ((Iss.rep ((hi.mono s2).pureEq hl.1) n.toNat).mono (Same.new hq _))) (by simp) fun r hr => ?_
      rw [List.mem_singleton.mp hr]
      exact ⟨Same.off (s1.trans s2) hq, by rw [upd_same]; exact True.intro⟩
    | _ => cases e
  | _ => cases e
end
theorem Iss.fps {H : Hp} : ∀ {ls : List PV} {vs : List V} {fp : List Addr}, Iss K H ls vs fp → ∃ fps : Nat → List Addr, (∀ (i : Nat) l, ls[i]? = some l → ∃ v, vs[i]? = some v ∧ Is K H l v (fps i)) ∧ ∀ i, ls.length ≤ i → fps i = []
  | [], vs, fp, h => ⟨fun _ => [], fun i l e => by simp at e, fun _ _ => rfl⟩
  | a :: ls, vs, fp, h => by
    obtain ⟨x, r, f1, f2, rfl, h1, h2, rfl⟩ := h.inv
    obtain ⟨fps, p1, p2⟩ := h2.fps
    refine ⟨fun i => match i with | 0 => f1 | k + 1 => fps k, fun i l e => ?_, fun i hi => ?_⟩
    · cases i with
      | zero => simp at e; subst e; exact ⟨x, rfl, h1⟩
      | succ k =>
        obtain ⟨v, a, b⟩ := p1 k l (by simpa using e)
        exact ⟨v, by simpa using a, b⟩
    · cases i with
      | zero => simp at hi
      | succ k => exact p2 k (by simpa using hi)
def start0 (m : Nat) (ls : List PV) : PSt := ls.map some ++ List.replicate (m - ls.length) none
def retO : Out → Option PV
  | .rt v => some v
  | .nx _ => some .non
  | _ => none
def fnD (m : Nat) (f : XS) : List PV → Option PV := fun ls => (f (start0 m ls)).bind retO
theorem body_ok {N : List Str} {n : Nat} {O W : List Nat} {f : XS} {vs : List V} {H : Hp} {Q : VK} {E : XK} (hO : ∀ i ∈ O, n ≤ i) (h : spF K (fnD N.length f) n vs H Q E) : tFS K O W f { nx := fun _ H' => Q .non H', rt := Q } (L2.start N vs) H := by
  obtain ⟨hl, ls, fp, l, hi, e, q⟩ := h
  obtain ⟨out, e1, e2⟩ := bind_some' e
  obtain ⟨fps, p1, p2⟩ := hi.fps
  have hlen := hi.len
  have hout : ∀ i : Nat, ls.length ≤ i → ∀ l, (start0 N.length ls)[i]? ≠ some (some l) := fun i hi l z => by
    unfold start0 at z
    rw [List.getElem?_append_right (by simpa using hi), List.getElem?_replicate] at z
    split at z <;> cases z
  have rel : Rel K O H fps (start0 N.length ls) (L2.start N vs) H := by
    refine ⟨Same.refl H, ?_, fun i a z => ?_, fun i hne => ?_, fun i hi => ?_, fun i hi p hp => ?_, fun i hi j hj p hp => ?_⟩
    · unfold start0 L2.start; simp [hlen]
    · by_cases hil : i < ls.length
      · unfold start0 at z
        rw [List.getElem?_append_left (by simpa using hil), List.getElem?_map] at z
        cases q : ls[i]? with
        | none => rw [q] at z; cases z
        | some b =>
          rw [q] at z
          cases z
          obtain ⟨v, a1, b1⟩ := p1 i a q
          refine ⟨v, ?_, b1⟩
          unfold L2.start
          rw [List.getElem?_append_left (by simpa [hlen] using hil), List.getElem?_map, a1]; rfl
      · exact absurd z (hout i (by omega) a)
    · by_cases hil : i < ls.length
      · exact absurd (by unfold start0; rw [List.getElem?_append_left (by simpa using hil), List.getElem?_map, List.getElem?_eq_getElem hil]; rfl) (hne ls[i])
      · exact p2 i (by omega)
    · rw [p2 i (by have := hO i hi; omega)]; exact List.nodup_nil
    · rw [p2 i (by have := hO i hi; omega)] at hp; simp at hp
    · rw [p2 i (by have := hO i hi; omega)] at hp; simp at hp
  refine ⟨H, fps, start0 N.length ls, out, rel, e1, ?_⟩
  cases out with
  | nx s' =>
    cases e2
    exact fun fps' σ' H' r' _ => q .non H' [] r'.same Is.non List.nodup_nil fun p hp => by simp at hp
  | rt v =>
    cases e2
    exact fun v fp H' sm i d n => q v H' fp sm i d n
  | bk s' => cases e2
  | ct s' => cases e2
section
variable {P : Program} {w : World} {mg : Str → Option Value} {base : Heap}
theorem def_ok {x : Str} {st : Stmt} {N ps : List Str} {k n : Nat} {O W : List Nat} (m : Nat) (f : XS) (D : Def K mg x st) (S : FnScope N ps (defScope st))
    (hb : ∀ (kV doc pm : Value) (an : Option Addr) (cdv ct : Value) (us : List Value), us.length = ps.length → bindArgs (PySem.W.fnOf x x (defArgs st) (defBody st) (defScope st) .none kV doc pm an cdv ct) ⟨us, []⟩ = pure (ps.zip us))
    (hn : ps.length = n) (hm : N.length = m) (hO : ∀ i ∈ O, n ≤ i)
    (hbody : ∀ (fa : Addr) (cdv : Value) (A : Around) (outer : List Env) (s : Shared) (H : Hp) (E : XK), Room k (A.deeper (envOfC x (defScope st) s.heap.objs.size fa cdv)) → VSs (cxOf CX0 P w K mg base N x (defScope st) fa cdv A outer s H E).nox O W (defBody st) f) :
    Cal P w K mg base x ps (spF K (fnD m f) n) (k + 1) := by
  subst hm
  refine D.cal S hb (fun vs H Q E h => by rw [hn]; exact h.1) fun fa cdv A outer s H vs Q E hr h => ⟨_, hbody fa cdv A outer s H E hr, body_ok hO h⟩
end
end VL
set_option Elab.async false
set_option linter.all false
set_option maxRecDepth 100000
set_option maxHeartbeats 4000000
set_option Elab.async false
set_option linter.all false
set_option maxRecDepth 100000
set_option maxHeartbeats 4000000
namespace VL
open PySem PySem.Spec PyProof.Rows L2
variable {K : PySem.W.Frag}
section
variable {X : Cx} {O : List Nat} {tg elt iter : Expr} {ifs : List Expr} {scope : Scope} {pos : Pos} {fi : XL} {T : Tgt} {ft : XT} {fe : XE}
theorem vs_setC (own fr : List Str) (ix : List Nat) {i : Nat} {y : Str} {py spos : Pos} (hN : X.N.Nodup) (hy : X.N[i]? = some y) (hloc : X.env.scope.names.lookup y = some .local) (hcalm : X.calm = true) (hi : VI X tg iter fi) (S : compOk X.N X.env.scope scope own fr ix = true)
    (hg : ∀ cl C s H ex, PG (cxComp X (own ++ fr) scope cl C s H ex) tg (gT X.K T)) (ht : ∀ cl C s H ex, VTs (cxComp X (own ++ fr) scope cl C s H ex) ifs ft) (he : ∀ cl C s H ex, VM (cxComp X (own ++ fr) scope cl C s H ex) elt fe)
    (hT : ∀ i ∈ T.slots, i < own.length := by decide)
    (hsw : swapsWith (.ListComp elt [⟨tg, iter, ifs, 0⟩] scope pos) (some (.Name y py)) spos.line X.env = pure true := by rfl)
    (hs : ∀ x, foldedSetIterable iter X.env x = pure x := by intro _; rfl) : VS X O [i] (.Assign [.Name y py] (.ListComp elt [⟨tg, iter, ifs, 0⟩] scope pos) spos) (sSet i (eComp own.length ix fi T ft fe)) :=
  PS.imp (ps_setC' own fr ix hN hy hloc hcalm hi S hg (fun cl C s H ex => (show PTs (cxComp X (own ++ fr) scope cl C s H ex) ifs (tFT X.K ft) from ht cl C s H ex)) (fun cl C s H ex => (show PE (cxComp X (own ++ fr) scope cl C s H ex) elt (tM X.K fe) from he cl C s H ex)) hsw hs) (tAsg_of (tM_comp hT))
end
section
variable {P : Program} {w : World} {mg : Str → Option Value} {base : Heap}
theorem def_fn {x : Str} {st : Stmt} {N ps : List Str} {k n : Nat} {O W : List Nat} {fa : Addr} {fd : FuncData} (m : Nat) (f : XS) (F : Fun K x x st fa fd) (S : FnScope N ps (defScope st))
    (hn : ps.length = n) (hm : N.length = m) (hO : ∀ i ∈ O, n ≤ i)
    (hbody : ∀ (fa : Addr) (cdv : Value) (A : Around) (outer : List Env) (s : Shared) (H : Hp) (E : XK), Room k (A.deeper (envOfC x (defScope st) s.heap.objs.size fa cdv)) → VSs (cxOf CX0 P w K mg base N x (defScope st) fa cdv A outer s H E).nox O W (defBody st) f) :
    FnOk P w K mg base CX0 (k + 1) fa fd ps (spF K (fnD m f) n) := by
  subst hm
  refine F.ok S (fun vs H Q E h => by rw [hn]; exact h.1) fun cdv A outer s H vs Q E hr h => ⟨_, hbody fa cdv A outer s H E hr, ?_⟩
  exact body_ok hO h
theorem law_head {st : Stmt} {x : Str} {D : List PV → Option PV} {k : Nat} {fa : Addr} (Df : Def K mg "law" st) (hfa : mg "law" = some (.ref fa))
    (hb : ∀ (kV doc pm : Value) (an : Option Addr) (cdv ct u : Value), bindArgs (PySem.W.fnOf "law" "law" (defArgs st) (defBody st) (defScope st) .none kV doc pm an cdv ct) ⟨[u], []⟩ = pure [(x, u)])
    (H : ∀ (base : Heap) (f : Addr) (fd : FuncData), K.In base → base.Ns mainGlobals mg → Fun K "law" "law" st f fd → FnOk P w K mg base CX0 k f fd [x] (spF K D 1)) :
    ∃ fd : FuncData, (∀ (s : Shared) (u : Value), BindsTo s fd ⟨[u], []⟩ [(x, u)]) ∧ ∀ base : Heap, K.In base → base.Ns mainGlobals mg → FnOk P w K mg base CX0 k fa fd [x] (spF K D 1) := by
  obtain ⟨f, fd, hm, F⟩ := Df.ex
  have e := hfa.symm.trans hm
  cases e
  refine ⟨fd, ?_, fun base h1 h2 => H base fa fd h1 h2 F⟩
  obtain ⟨oc, od, kV, doc, pm, an, cdv, ct, osl, rfl, lk, hcd⟩ := F.ex
  exact fun s u => .of_eq (hb kV doc pm an cdv ct u)
end
theorem law_sp {H : Hp} {a : Addr} {ns : List Int} {D : List PV → Option PV} {E : XK} (hD : D [.cst (iL ns)] = some (.bl true)) (hO : Only H) (hS : SqL K H a (ns.map V.int)) : spF K D 1 [.ref a] H (fun v _ => v = .bl true) E := by
  have cs : CsK K H a (ns.map V.int) := by
    rcases hS with h | h
    · rcases h with h | ⟨o, h⟩
      · rcases hO a with z | ⟨o, xs, z⟩
        · rw [h] at z; cases z
        · rw [h] at z; cases z
      · exact .inl ⟨o, h⟩
    · exact .inr h
  exact ⟨rfl, [.cst (iL ns)], [], .bl true, Iss.one (Is.cst cs (Iss.ofInts ns)), hD, fun v H' fq _ i _ _ => i.bl_inv.1⟩
end VL
set_option Elab.async false
set_option linter.all false
set_option maxRecDepth 100000
set_option maxHeartbeats 4000000
namespace VL
open PySem L2
@[simp] theorem eVar_def (i : Nat) (s : PSt) : eVar i s = (s[i]?).join := rfl
@[simp] theorem eC_def (l : PV) (s : PSt) : eC l s = some l := rfl
@[simp] theorem eOp_def (g : PV → PV → Option PV) (a b : XE) (s : PSt) : eOp g a b s = (a s).bind fun x => (b s).bind fun y => g x y := rfl
@[simp] theorem eUn_def (g : PV → Option PV) (a : XE) (s : PSt) : eUn g a s = (a s).bind g := rfl
@[simp] theorem eP_def (f : XE) (s : PSt) : eP f s = (f s).bind fun l => if pureV l = true then some l else none := rfl
@[simp] theorem evs_nil (s : PSt) : evs [] s = some [] := rfl
@[simp] theorem evs_cons' (f : XE) (fs : List XE) (s : PSt) : evs (f :: fs) s = (f s).bind fun x => (evs fs s).map (x :: ·) := rfl
@[simp] theorem eCall_def (D : List PV → Option PV) (fs : List XE) (s : PSt) : eCall D fs s = (evs fs s).bind D := rfl
@[simp] theorem eTup_def (fs : List XE) (s : PSt) : eTup fs s = (evs fs s).map .tup := rfl
@[simp] theorem eLst_def (fs : List XE) (s : PSt) : eLst fs s = (evs fs s).map .lst := rfl
@[simp] theorem eSl_def (g : PV → Option Int → Option Int → Option PV) (a : XE) (lo hi : XO) (s : PSt) : eSl g a lo hi s = (a s).bind fun x => (lo s).bind fun l => (hi s).bind fun u => g x l u := rfl
@[simp] theorem xoN_def (s : PSt) : xoN s = some none := rfl
@[simp] theorem gI_ii (g : Int → Int → Int) (i j : Int) : gI g (.int i) (.int j) = some (.int (g i j)) := rfl
@[simp] theorem gB_ii (g : Int → Int → Bool) (i j : Int) : gB g (.int i) (.int j) = some (.bl (g i j)) := rfl
@[simp] theorem gIC_ii (C : Int → Int → Prop) [∀ i j, Decidable (C i j)] (g : Int → Int → Int) (i j : Int) : gIC C g (.int i) (.int j) = if C i j then some (.int (g i j)) else none := rfl
@[simp] theorem gIx_ti (l : List PV) (i : Int) : gIx (.tup l) (.int i) = atI l i := rfl
@[simp] theorem gIx_li (l : List PV) (i : Int) : gIx (.lst l) (.int i) = atI l i := rfl
@[simp] theorem gIx_ci (l : List PV) (i : Int) : gIx (.cst l) (.int i) = atI l i := rfl
@[simp] theorem xB_def (f : XE) (s : PSt) : xB f s = (f s).bind blO := by
  unfold xB
  cases f s with
  | none => rfl
  | some a => cases a <;> rfl
@[simp] theorem blO_bl (b : Bool) : blO (.bl b) = some b := rfl
@[simp] theorem xAnd_def (a b : XT) (s : PSt) : xAnd a b s = (a s).bind fun c => if c = true then b s else some false := rfl
@[simp] theorem xOr_def (a b : XT) (s : PSt) : xOr a b s = (a s).bind fun c => if c = true then some true else b s := rfl
@[simp] theorem xNot_def (a : XT) (s : PSt) : xNot a s = (a s).map not := rfl
@[simp] theorem eAnd_def (a b : XE) (s : PSt) : eAnd a b s = (xB a s).bind fun c => if c = true then b s else some (.bl false) := rfl
@[simp] theorem eOr_def (a b : XE) (s : PSt) : eOr a b s = (xB a s).bind fun c => if c = true then some (.bl true) else b s := rfl
@[simp] theorem eNot_def (a : XE) (s : PSt) : eNot a s = (xB a s).map fun c => .bl !c := rfl
@[simp] theorem eIf_def (c : XT) (a b : XE) (s : PSt) : eIf c a b s = (c s).bind fun k => if k = true then a s else b s := rfl
@[simp] theorem eIsN_def (neg : Bool) (a : XE) (s : PSt) : eIsN neg a s = (a s).bind (gIsN neg) := rfl
@[simp] theorem sNext_def (s : PSt) : sNext s = some (.nx s) := rfl
@[simp] theorem sSeq_def (f g : XS) (s : PSt) : sSeq f g s = (f s).bind fun o => match o with | .nx s' => g s' | r => some r := rfl
@[simp] theorem sIf_def (c : XT) (f g : XS) (s : PSt) : sIf c f g s = (c s).bind fun k => if k = true then f s else g s := rfl
@[simp] theorem sRet_def (f : XE) (s : PSt) : sRet f s = (f s).map .rt := rfl
@[simp] theorem sSet_def (i : Nat) (f : XE) (s : PSt) : sSet i f s = (f s).map fun l => .nx (s.set i (some l)) := rfl
@[simp] theorem retO_rt (v : PV) : retO (.rt v) = some v := rfl
@[simp] theorem pureV_int (i : Int) : pureV (.int i) = true := rfl
@[simp] theorem pureV_bl (i : Bool) : pureV (.bl i) = true := rfl
@[simp] theorem pureV_str (i : Str) : pureV (.str i) = true := rfl
@[simp] theorem pureV_non : pureV .non = true := rfl
@[simp] theorem pureV_tup (l : List PV) : pureV (.tup l) = pureL l := by rw [pureV]
@[simp] theorem pureV_cst (l : List PV) : pureV (.cst l) = pureL l := by rw [pureV]
@[simp] theorem pureL_nil : pureL [] = true := rfl
@[simp] theorem pureL_cons (a : PV) (l : List PV) : pureL (a :: l) = (pureV a && pureL l) := rfl
@[simp] theorem pureL_append (a b : List PV) : pureL (a ++ b) = (pureL a && pureL b) := by rw [pureL_all, pureL_all, pureL_all, List.all_append]
theorem pureL_map {α : Type} {l : List α} {f : α → PV} (h : ∀ a ∈ l, pureV (f a) = true) : pureL (l.map f) = true := by
  rw [pureL_all, List.all_map, List.all_eq_true]; exact h
@[simp] theorem pureL_iL (l : List Int) : pureL (l.map PV.int) = true := pure_ints l
abbrev pP (l : List Int) : PV := .tup (iL l)
abbrev wP (W : List (List Int)) : PV := .tup (W.map pP)
@[simp] theorem pureL_wP (W : List (List Int)) : pureL (W.map pP) = true := pureL_map fun a _ => by simp
theorem iL_get {l : List Int} {k : Nat} (h : k < l.length) : (iL l)[k]? = some (.int (nth l k)) := by
  rw [List.getElem?_map, List.getElem?_eq_getElem h]
  simp [nth, List.getD_eq_getElem?_getD, List.getElem?_eq_getElem h]
theorem atI_iL {l : List Int} {k : Nat} (h : k < l.length) : atI (iL l) (k : Int) = some (.int (nth l k)) := atI_nat (iL_get h)
theorem atI_web {W : List (List Int)} {k : Nat} (h : k < W.length) : atI (W.map pP) (k : Int) = some (pP (rowOf W k)) := by
  refine atI_nat ?_
  rw [List.getElem?_map, rowOf_at h]; rfl
@[simp] theorem gSum_t (l : List Int) : gSum [.tup (l.map PV.int)] = some (.int l.sum) := by
  simp [gSum, seqV, intsOf_ints l]
@[simp] theorem gSum_l (l : List Int) : gSum [.lst (l.map PV.int)] = some (.int l.sum) := by
  simp [gSum, seqV, intsOf_ints l]
@[simp] theorem gAll_l (l : List Bool) : gAll [.lst (l.map PV.bl)] = some (.bl (l.all id)) := by
  simp [gAll, seqV, boolsOf_bools l]
@[simp] theorem gAny_l (l : List Bool) : gAny [.lst (l.map PV.bl)] = some (.bl (l.any id)) := by
  simp [gAny, seqV, boolsOf_bools l]
@[simp] theorem gLen_t (l : List PV) : gLen [.tup l] = some (.int l.length) := rfl
@[simp] theorem gLen_l (l : List PV) : gLen [.lst l] = some (.int l.length) := rfl
@[simp] theorem gLen_c (l : List PV) : gLen [.cst l] = some (.int l.length) := rfl
@[simp] theorem gTuple_l (l : List PV) : gTuple [.lst l] = some (.tup l) := rfl
@[simp] theorem gTuple_t (l : List PV) : gTuple [.tup l] = some (.tup l) := rfl
@[simp] theorem gListP_t (l : List PV) : gListP [.tup l] = if pureL l = true then some (.lst l) else none := rfl
@[simp] theorem gListP_l (l : List PV) : gListP [.lst l] = if pureL l = true then some (.lst l) else none := rfl
@[simp] theorem gMin2_ii (i j : Int) : gMin2 [.int i, .int j] = some (.int (if j < i then j else i)) := rfl
@[simp] theorem gMax2_ii (i j : Int) : gMax2 [.int i, .int j] = some (.int (if j > i then j else i)) := rfl
@[simp] theorem gInt1_b (c : Bool) : gInt1 [.bl c] = some (.int (if c then 1 else 0)) := rfl
@[simp] theorem gInt1_i (c : Int) : gInt1 [.int c] = some (.int c) := rfl
@[simp] theorem gInst_ii (i : Int) : gInst [.int i, .ty "int"] = some (.bl true) := rfl
@[simp] theorem gInst_ib (i : Int) : gInst [.int i, .ty "bool"] = some (.bl false) := rfl
@[simp] theorem gInst_tt (l : List PV) : gInst [.tup l, .ty "tuple"] = some (.bl true) := rfl
@[simp] theorem gInst_ll (l : List PV) : gInst [.lst l, .ty "list"] = some (.bl true) := rfl
theorem cmpb_ii (n : Nat) (i j : Int) : cmpb (n + 1) (.int i) (.int j) = true := rfl
theorem zip_map_all {α β : Type} {f : α → PV} {g : β → PV} {p : PV → PV → Bool} (h : ∀ a b, p (f a) (g b) = true) : ∀ (l : List α) (m : List β), ((l.map f).zip (m.map g)).all (fun z => p z.1 z.2) = true
  | [], _ => by simp
  | _ :: _, [] => by simp
  | a :: l, b :: m => by
    rw [List.map_cons, List.map_cons, List.zip_cons_cons, List.all_cons, zip_map_all h l m, h a b]; rfl
theorem cmpb_pp (n : Nat) (l m : List Int) : cmpb (n + 2) (pP l) (pP m) = true := zip_map_all (fun a b => cmpb_ii n a b) l m
theorem cmpb_ll (n : Nat) (l m : List Int) : cmpb (n + 2) (.lst (iL l)) (.lst (iL m)) = true := zip_map_all (fun a b => cmpb_ii n a b) l m
theorem cmpb_ww (n : Nat) (l m : List (List Int)) : cmpb (n + 3) (wP l) (wP m) = true := zip_map_all (fun a b => cmpb_pp n a b) l m
theorem iL_inj {l m : List Int} : iL l = iL m ↔ l = m := by
  constructor
  · intro h
    exact (List.map_inj_right (fun a b e => PV.int.inj e)).mp h
  · intro h; rw [h]
theorem pP_inj {l m : List Int} : pP l = pP m ↔ l = m := by
  rw [PV.tup.injEq]; exact iL_inj
@[simp] theorem gEq_ii (neg : Bool) (i j : Int) : gEq neg (.int i) (.int j) = some (.bl (if neg then !decide (i = j) else decide (i = j))) := by
  unfold gEq
  rw [if_pos (cmpb_ii 7 i j)]
  congr 2
  cases neg <;> simp
@[simp] theorem gEq_pp (neg : Bool) (l m : List Int) : gEq neg (.tup (l.map PV.int)) (.tup (m.map PV.int)) = some (.bl (if neg then !decide (l = m) else decide (l = m))) := by
  unfold gEq
  rw [if_pos (cmpb_pp 6 l m)]
  have : decide ((PV.tup (l.map PV.int)) = .tup (m.map PV.int)) = decide (l = m) := decide_eq_decide.mpr pP_inj
  rw [this]
@[simp] theorem gEq_ll (neg : Bool) (l m : List Int) : gEq neg (.lst (l.map PV.int)) (.lst (m.map PV.int)) = some (.bl (if neg then !decide (l = m) else decide (l = m))) := by
  unfold gEq
  rw [if_pos (cmpb_ll 6 l m)]
  have : decide ((PV.lst (l.map PV.int)) = .lst (m.map PV.int)) = decide (l = m) := decide_eq_decide.mpr (by rw [PV.lst.injEq]; exact iL_inj)
  rw [this]
theorem compL_map {α : Type} {T : Tgt} {ft : XT} {fe : XE} {s0 : PSt} {q g : α → PV} : ∀ {ls : List α}, (∀ a ∈ ls, ∃ s1, bindT T (q a) s0 = some s1 ∧ ft s1 = some true ∧ fe s1 = some (g a)) → compL T ft fe s0 (ls.map q) = some (ls.map g)
  | [], _ => rfl
  | a :: r, h => by
    obtain ⟨s1, h1, h2, h3⟩ := h a List.mem_cons_self
    have ih := compL_map (ls := r) fun b hb => h b (List.mem_cons_of_mem _ hb)
    rw [List.map_cons, List.map_cons]
    unfold compL
    rw [h1]
    simp only [Option.bind_some, h2, if_true, h3, ih, Option.map_some]
theorem compL_filter {α : Type} {T : Tgt} {ft : XT} {fe : XE} {s0 : PSt} {q g : α → PV} {c : α → Bool} : ∀ {ls : List α}, (∀ a ∈ ls, ∃ s1, bindT T (q a) s0 = some s1 ∧ ft s1 = some (c a) ∧ (c a = true → fe s1 = some (g a))) → compL T ft fe s0 (ls.map q) = some ((ls.filter c).map g)
  | [], _ => rfl
  | a :: r, h => by
    obtain ⟨s1, h1, h2, h3⟩ := h a List.mem_cons_self
    have ih := compL_filter (ls := r) fun b hb => h b (List.mem_cons_of_mem _ hb)
    rw [List.map_cons]
    unfold compL
    rw [h1]
    simp only [Option.bind_some, h2]
    cases hc : c a with
    | true => simp [h3 hc, ih, hc]
    | false => simp [ih, hc]
theorem eComp_map {α : Type} {n : Nat} {ix : List Nat} {fi : XL} {T : Tgt} {ft : XT} {fe : XE} {s : PSt} (ls : List α) (q g : α → PV) (hfi : fi s = some (ls.map q)) (hl : ls.length ≤ 10000)
    (h : ∀ a ∈ ls, ∃ s1, bindT T (q a) (compEnv n ix s) = some s1 ∧ ft s1 = some true ∧ fe s1 = some (g a)) : eComp n ix fi T ft fe s = some (.lst (ls.map g)) := by
  unfold eComp
  rw [hfi]
  simp only [Option.bind_some, List.length_map, if_pos hl, compL_map h, Option.map_some]
theorem eComp_filter {α : Type} {n : Nat} {ix : List Nat} {fi : XL} {T : Tgt} {ft : XT} {fe : XE} {s : PSt} (ls : List α) (q g : α → PV) (c : α → Bool) (hfi : fi s = some (ls.map q)) (hl : ls.length ≤ 10000)
    (h : ∀ a ∈ ls, ∃ s1, bindT T (q a) (compEnv n ix s) = some s1 ∧ ft s1 = some (c a) ∧ (c a = true → fe s1 = some (g a))) : eComp n ix fi T ft fe s = some (.lst ((ls.filter c).map g)) := by
  unfold eComp
  rw [hfi]
  simp only [Option.bind_some, List.length_map, if_pos hl, compL_filter h, Option.map_some]
theorem forL_inv {T : Tgt} {fb : XS} : ∀ {ls : List PV} {s : PSt} (Jv : Nat → PSt → Prop), Jv 0 s → (∀ (i : Nat) l st, ls[i]? = some l → Jv i st → ∃ s1 s2, bindT T l st = some s1 ∧ fb s1 = some (.nx s2) ∧ Jv (i + 1) s2) →
    ∃ s', forL T fb ls s = some (.nx s') ∧ Jv ls.length s'
  | [], s, Jv, h0, _ => ⟨s, rfl, h0⟩
  | l :: r, s, Jv, h0, h => by
    obtain ⟨s1, s2, a, b, c⟩ := h 0 l s rfl h0
    obtain ⟨s', d, e⟩ := forL_inv (ls := r) (s := s2) (fun i => Jv (i + 1)) c fun i l' st hl hi => h (i + 1) l' st (by simpa using hl) hi
    refine ⟨s', ?_, e⟩
    unfold forL
    rw [a]
    simp only [Option.bind_some, b]
    exact d
theorem rng0_get {n i : Nat} {l : PV} (h : (rng0 n)[i]? = some l) : i < n ∧ l = .int (i : Int) := by
  have hi := (List.getElem?_eq_some_iff.mp h).1
  unfold rng0 at hi h
  rw [List.length_map, List.length_range] at hi
  rw [List.getElem?_map, List.getElem?_range hi] at h
  exact ⟨hi, (Option.some.inj h).symm⟩
theorem rngL_get {lo : Int} {n i : Nat} {l : PV} (h : (rngL lo n)[i]? = some l) : i < n ∧ l = .int (lo + (i : Int)) := by
  have hi := (List.getElem?_eq_some_iff.mp h).1
  unfold rngL at hi h
  rw [List.length_map, List.length_range] at hi
  rw [List.getElem?_map, List.getElem?_range hi] at h
  exact ⟨hi, (Option.some.inj h).symm⟩
@[simp] theorem rng0_len (n : Nat) : (rng0 n).length = n := by unfold rng0; simp
@[simp] theorem rngL_len (lo : Int) (n : Nat) : (rngL lo n).length = n := by unfold rngL; simp
@[simp] theorem bindT_one (i : Nat) (l : PV) (s : PSt) : bindT (.one i) l s = some (s.set i (some l)) := rfl
theorem enumL_range (m : List PV) : enumL m = (List.range m.length).map fun (i : Nat) => .tup [.int (i : Int), m.getD i .non] := by
  apply List.ext_getElem?
  intro i
  rw [List.getElem?_map]
  by_cases h : i < m.length
  · have : (enumL m)[i]? = some (.tup [.int (i : Int), m[i]]) := by
      unfold enumL
      rw [List.getElem?_map, List.getElem?_zipIdx, List.getElem?_eq_getElem h]
      simp
    rw [this, List.getElem?_range h]
    simp [List.getD_eq_getElem?_getD, List.getElem?_eq_getElem h]
  · rw [List.getElem?_eq_none (by rw [enumL_len]; omega), List.getElem?_eq_none (by simpa using h)]; rfl
theorem iL_getD (l : List Int) (i : Nat) (h : i < l.length) : (iL l).getD i .non = .int (nth l i) := by
  rw [List.getD_eq_getElem?_getD, iL_get h]; rfl
@[simp] theorem xRng1_i (f : XE) (s : PSt) : xRng1 [f] s = (f s).bind fun a => (asI a).bind fun j => if -1000000 ≤ j ∧ j ≤ 1000000 then some (rng0 j.toNat) else none := by
  unfold xRng1
  cases h : f s with
  | none => simp [h]
  | some a => cases a <;> simp [h, asI]
@[simp] theorem xRng2_i (f g : XE) (s : PSt) : xRng2 [f, g] s = (f s).bind fun a => (g s).bind fun b => (asI a).bind fun i => (asI b).bind fun j => if -1000000 ≤ i ∧ i ≤ 1000000 ∧ -1000000 ≤ j ∧ j ≤ 1000000 then some (rngL i (j - i).toNat) else none := by
  unfold xRng2
  cases h : f s with
  | none => simp [h]
  | some a => cases h2 : g s with
    | none => simp [h, h2]
    | some b => cases a <;> cases b <;> simp [h, h2, asI]
@[simp] theorem asI_int (i : Int) : asI (.int i) = some i := rfl
@[simp] theorem asL_lst (i : List PV) : asL (.lst i) = some i := rfl
@[simp] theorem xEnum_def (b : Bool) (f : XE) (s : PSt) : xEnum b [f] s = (f s).bind fun l => (seqB b l).map enumL := by
  unfold xEnum
  cases h : f s <;> simp [h]
@[simp] theorem xZip_def (b1 b2 : Bool) (f g : XE) (s : PSt) : xZip b1 b2 [f, g] s = (f s).bind fun l => (g s).bind fun r => (seqB b1 l).bind fun m => (seqB b2 r).map fun n => zipL m n := by
  unfold xZip
  cases h : f s <;> cases h2 : g s <;> simp [h, h2]
@[simp] theorem seqB_f (l : List PV) : seqB false (.tup l) = some l := rfl
@[simp] theorem seqB_t (l : List PV) : seqB true (.lst l) = some l := rfl
@[simp] theorem seqB_c (l : List PV) : seqB true (.cst l) = some l := rfl
@[simp] theorem xLst_def (f : XE) (s : PSt) : xLst f s = (f s).bind asS := rfl
@[simp] theorem asS_l (l : List PV) : asS (.lst l) = some l := rfl
@[simp] theorem asS_c (l : List PV) : asS (.cst l) = some l := rfl
theorem xTup_def {f : XE} {s : PSt} {l : List PV} (h : f s = some (.tup l)) : xTup f s = some l := by unfold xTup; rw [h]
@[simp] theorem sFor_def (O : List Nat) (fi : XL) (T : Tgt) (fb : XS) (s : PSt) : sFor O fi T fb s = (fi (eraseO O s)).bind fun ls => forL T fb ls s := rfl
@[simp] theorem xTrue_def (s : PSt) : xTrue s = some true := rfl
theorem xRng1_nat {f : XE} {s : PSt} {n : Nat} (h : f s = some (.int (n : Int))) (hn : n ≤ 10000) : xRng1 [f] s = some (rng0 n) := by
  rw [xRng1_i, h]
  simp only [Option.bind_some, asI_int]
  rw [if_pos ⟨by omega, by omega⟩, Int.toNat_natCast]
theorem xRng2_int {f g : XE} {s : PSt} {i j : Int} (h : f s = some (.int i)) (h' : g s = some (.int j)) (hi : -10000 ≤ i ∧ i ≤ 10000) (hj : -10000 ≤ j ∧ j ≤ 10000) : xRng2 [f, g] s = some (rngL i (j - i).toNat) := by
  rw [xRng2_i, h, h']
  simp only [Option.bind_some, asI_int]
  rw [if_pos ⟨by omega, by omega, by omega, by omega⟩]
theorem CMul_s {i j : Int} (h0 : -10000 ≤ i) (h : i ≤ 10000) : CMul i j := by
  refine .inl ?_
  have e : (2 ^ 64 : Int) = 18446744073709551616 := by decide
  rw [e]; omega
theorem gd_true {c : Bool} (h : c = true) : gd c = some () := by unfold gd; rw [if_pos h]
theorem sAppend_eq {i : Nat} {f : XE} {s : PSt} {m : List PV} {l : PV} (h : f s = some l) (hm : atL s i = some m) (hl : m.length ≤ 10000) : sAppend i f s = some (.nx (s.set i (some (.lst (m ++ [l]))))) := by
  unfold sAppend
  rw [h]
  simp only [Option.bind_some, hm, gd_true (decide_eq_true hl)]
theorem sInsert_eq {i : Nat} {fk f : XE} {s : PSt} {m : List PV} {l : PV} {k : Int} (hk : fk s = some (.int k)) (h : f s = some l) (hm : atL s i = some m) (hp : pureL m = true) (hq : pureV l = true) (h0 : 0 ≤ k) (h1 : k ≤ 1000000) (hl : m.length ≤ 10000) :
    sInsert i fk f s = some (.nx (s.set i (some (.lst (m.take k.toNat ++ l :: m.drop k.toNat))))) := by
  unfold sInsert
  rw [hk, h]
  have c : (pureL m && pureV l && decide (0 ≤ k ∧ k ≤ 1000000 ∧ m.length ≤ 10000)) = true := by rw [hp, hq, decide_eq_true ⟨h0, h1, hl⟩]; rfl
  simp only [Option.bind_some, asI_int, hm, gd_true c]
theorem sSetIx_eq {i : Nat} {fk f : XE} {s : PSt} {m : List PV} {l : PV} {k : Int} {j : Nat} (h : f s = some l) (hk : fk s = some (.int k)) (hm : atL s i = some m) (hp : pureL m = true) (hq : pureV l = true) (hj : ixN m.length k = some j) :
    sSetIx i fk f s = some (.nx (s.set i (some (.lst (m.set j l))))) := by
  unfold sSetIx
  rw [hk, h]
  have c : (pureL m && pureV l) = true := by rw [hp, hq]; rfl
  simp only [Option.bind_some, asI_int, hm, gd_true c, hj, Option.map_some]
theorem sSetIx2_eq {i : Nat} {fa fb f : XE} {s : PSt} {m n : List PV} {l : PV} {a b : Int} {j c : Nat} (h : f s = some l) (ha : fa s = some (.int a)) (hb : fb s = some (.int b)) (hm : atL s i = some m) (hj : ixN m.length a = some j) (hn : m[j]? = some (.lst n)) (hp : pureL n = true) (hq : pureV l = true) (hc : ixN n.length b = some c) :
    sSetIx2 i fa fb f s = some (.nx (s.set i (some (.lst (m.set j (.lst (n.set c l))))))) := by
  unfold sSetIx2
  rw [h, ha, hb]
  have cc : (pureL n && pureV l) = true := by rw [hp, hq]; rfl
  simp only [Option.bind_some, asI_int, asL_lst, hm, hj, hn, gd_true cc, hc, Option.map_some]
theorem ixN_nat {n k : Nat} (h : k < n) : ixN n (k : Int) = some k := by
  unfold ixN
  rw [if_pos (by omega), if_pos (by omega)]; rfl
@[simp] theorem CMul_l {i j : Int} (h : -(2 ^ 64) < i ∧ i < 2 ^ 64) : CMul i j := .inl h
end VL
set_option Elab.async false
set_option linter.all false
set_option maxRecDepth 100000
set_option maxHeartbeats 4000000
set_option Elab.async false
set_option linter.all false
set_option maxRecDepth 100000
set_option maxHeartbeats 4000000
set_option Elab.async false
set_option linter.all false
set_option maxRecDepth 100000
set_option maxHeartbeats 4000000
set_option Elab.async false
set_option linter.all false
set_option maxRecDepth 100000
set_option maxHeartbeats 4000000
set_option Elab.async false
set_option linter.all false
set_option maxRecDepth 100000
set_option maxHeartbeats 4000000
set_option Elab.async false
set_option linter.all false
set_option maxRecDepth 100000
set_option maxHeartbeats 4000000
set_option Elab.async false
set_option linter.all false
set_option maxRecDepth 100000
set_option maxHeartbeats 4000000
namespace PW
open PySem L2 VL
noncomputable def F_ties_at : XS := (sRet (eP (eCall gSum [(eOp gIx (eVar 0) (eVar 1))])))
noncomputable def D_ties_at : List PV → Option PV := fnD 2 F_ties_at
noncomputable def F_l_whole : XS := (sRet (eP (eAnd (eCall gInst [(eVar 0), (eC (.ty "int"))]) (eNot (eCall gInst [(eVar 0), (eC (.ty "bool"))])))))
noncomputable def D_l_whole : List PV → Option PV := fnD 1 F_l_whole
noncomputable def F_l_tuple : XS := (sRet (eP (eAnd (eCall gInst [(eVar 0), (eC (.ty "tuple"))]) (eAnd (eOp (gEq false) (eCall gLen [(eVar 0)]) (eVar 1)) (eCall gAll [(eComp 1 [] (xTup (eVar 0)) (.one 0) xTrue (eCall D_l_whole [(eVar 0)]))])))))
noncomputable def D_l_tuple : List PV → Option PV := fnD 2 F_l_tuple
end PW
set_option Elab.async false
set_option linter.all false
set_option maxRecDepth 100000
set_option maxHeartbeats 4000000
namespace PW
open L2 VL
theorem ties_at_eq {W : List (List Int)} {h : Nat} (hh : h < W.length) : D_ties_at [wP W, .int (h : Int)] = some (.int (rowOf W h).sum) := by
  simp [D_ties_at, F_ties_at, fnD, start0, atI_web hh]
theorem whole_eq (i : Int) : D_l_whole [.int i] = some (.bl true) := by
  simp [D_l_whole, F_l_whole, fnD, start0]
theorem tuple_eq {l : List Int} (hl : l.length ≤ 1000) : D_l_tuple [pP l, .int (l.length : Int)] = some (.bl true) := by
  have hc : eComp 1 [] (xTup (eVar 0)) (.one 0) xTrue (eCall D_l_whole [eVar 0]) [some (pP l), some (.int (l.length : Int))] = some (.lst (bL (l.map fun _ => true))) := by
    rw [eComp_map l PV.int (fun _ => .bl true) (xTup_def (by simp)) (by omega) (fun i hi => ⟨_, rfl, rfl, by simp [compEnv, whole_eq]⟩)]
    simp
  have ha : gAll [.lst (bL (l.map fun _ => true))] = some (.bl true) := by
    rw [gAll_l]
    simp
  simp [D_l_tuple, F_l_tuple, fnD, start0, hc, ha, -List.map_map]
end PW
set_option Elab.async false
set_option linter.all false
set_option maxRecDepth 100000
set_option maxHeartbeats 4000000
set_option Elab.async false
set_option linter.all false
set_option maxRecDepth 100000
set_option maxHeartbeats 4000000
namespace PW
open L2 VL
def tk (e : Tie) : List Key := [.inl (e.1 : Int), .inl (e.2.1 : Int)]
def Has (ts : List Tie) (a b : Nat) : Prop := ∃ t, (a, b, t) ∈ ts
def Ext (ts ts' : List Tie) : Prop := ∀ c d, Has ts c d → Has ts' c d
theorem Ext.refl (ts : List Tie) : Ext ts ts := fun _ _ h => h
theorem Ext.trans {a b c : List Tie} (h : Ext a b) (g : Ext b c) : Ext a c := fun x y z => g x y (h x y z)
def Cl (ts : List Tie) (P : Nat → Prop) : Prop := ∀ a b, Has ts a b → (P a ↔ P b)
def Hang (n : Nat) (ts : List Tie) : Prop := ∀ P : Nat → Prop, Cl ts P → ∀ i j, i < n → j < n → (P i ↔ P j)
def Conn (W : List (List Int)) : Prop := ∀ P : Nat → Prop, (∀ a b, a < W.length → b < W.length → 0 < ent W a b → (P a ↔ P b)) → ∀ i j, i < W.length → j < W.length → (P i ↔ P j)
theorem ent_step {n : Nat} {M : List (List Int)} {e : Tie} (ok : MatOk n M) (h : e.1 < e.2.1 ∧ e.2.1 < n ∧ 1 ≤ e.2.2 ∧ e.2.2 ≤ 9) (i j : Nat) : ent (sqStep M e) i j = if e.2.1 = i ∧ e.1 = j then e.2.2 else if e.1 = i ∧ e.2.1 = j then e.2.2 else ent M i j := by
  obtain ⟨a, b, t⟩ := e
  simp only at h ⊢
  obtain ⟨l1, r1⟩ := shape_setM (t := t) (b := b) ok.len ok.row (show a < n by omega)
  show ent (setM (setM M a b t) b a t) i j = _
  rw [ent_setM l1 r1 (by omega) (by omega), ent_setM ok.len ok.row (by omega) (by omega)]
theorem sqM_has {n : Nat} {ts : List Tie} (ok : DictOk n ts) {a b : Nat} (h : Has ts a b) : a < n ∧ b < n ∧ 0 < ent (sqM n ts) a b := by
  have keep : ∀ (l : List Tie) (M : List (List Int)), (∀ e ∈ l, e.1 < e.2.1 ∧ e.2.1 < n ∧ 1 ≤ e.2.2 ∧ e.2.2 ≤ 9) → MatOk n M → 0 < ent M a b → 0 < ent (l.foldl sqStep M) a b := by
    intro l
    induction l with
    | nil => exact fun M _ _ h => h
    | cons e r ih =>
      intro M hl hM hp
      have he := hl e (by simp)
      refine ih _ (fun e' h' => hl e' (by simp [h'])) (hM.step he) ?_
      rw [ent_step hM he]
      split
      · omega
      · split
        · omega
        · exact hp
  have gen : ∀ (l : List Tie) (M : List (List Int)), (∀ e ∈ l, e.1 < e.2.1 ∧ e.2.1 < n ∧ 1 ≤ e.2.2 ∧ e.2.2 ≤ 9) → MatOk n M → Has l a b → 0 < ent (l.foldl sqStep M) a b := by
    intro l
    induction l with
    | nil => rintro M _ _ ⟨t, ht⟩; simp at ht
    | cons e r ih =>
      rintro M hl hM ⟨t, ht⟩
      have he := hl e (by simp)
      rcases List.mem_cons.mp ht with q | q
      · refine keep r _ (fun e' h' => hl e' (by simp [h'])) (hM.step he) ?_
        rw [ent_step hM he]
        subst q
        simp only at he
        split
        · show 0 < t; omega
        · rw [if_pos ⟨rfl, rfl⟩]; show 0 < t; omega
      · exact ih _ (fun e' h' => hl e' (by simp [h'])) (hM.step he) ⟨t, q⟩
  obtain ⟨t, ht⟩ := id h
  have := ok.ok _ ht
  simp only at this
  exact ⟨by omega, by omega, gen ts _ ok.ok (MatOk.zero n) h⟩
theorem Hang.conn {n : Nat} {ts : List Tie} (h : Hang n ts) (ok : DictOk n ts) : Conn (sqM n ts) := by
  intro P hP i j hi hj
  have hl := (sqM_ok ok).len
  refine h P (fun a b hab => ?_) i j (by omega) (by omega)
  obtain ⟨ha, hb, hp⟩ := sqM_has ok hab
  exact hP a b (by omega) (by omega) hp
theorem nodup_le : ∀ {l m : List Int}, l.Nodup → (∀ x ∈ l, x ∈ m) → l.length ≤ m.length
  | [], m, _, _ => Nat.zero_le _
  | x :: r, m, nd, h => by
    have hx : x ∈ m := h x (by simp)
    have nd' := List.nodup_cons.mp nd
    have := nodup_le (l := r) (m := m.erase x) nd'.2 fun y hy => (List.mem_erase_of_ne (show y ≠ x from fun z => nd'.1 (by rw [← z]; exact hy))).mpr (h y (by simp [hy]))
    rw [List.length_erase_of_mem hx] at this
    have hp := List.length_pos_of_mem hx
    rw [List.length_cons]; omega
theorem full {n : Nat} {l : List Int} (nd : l.Nodup) (h : ∀ x ∈ l, ∃ k : Nat, k < n ∧ x = (k : Int)) (hl : l.length = n) {j : Nat} (hj : j < n) : (j : Int) ∈ l := by
  by_cases q : (j : Int) ∈ l
  · exact q
  · have := nodup_le (l := (j : Int) :: l) (m := (List.range n).map fun (k : Nat) => (k : Int)) (List.nodup_cons.mpr ⟨q, nd⟩) (fun x hx => by
      rcases List.mem_cons.mp hx with rfl | hx
      · exact List.mem_map.mpr ⟨j, List.mem_range.mpr hj, rfl⟩
      · obtain ⟨k, hk, rfl⟩ := h x hx
        exact List.mem_map.mpr ⟨k, List.mem_range.mpr hk, rfl⟩)
    rw [List.length_cons, List.length_map, List.length_range] at this
    omega
def rL (M : List (List Int)) : List PV := M.map fun r => .lst (iL r)
theorem rL_get {M : List (List Int)} {a : Nat} (h : a < M.length) : (rL M)[a]? = some (.lst (iL (rowOf M a))) := by
  unfold rL
  rw [List.getElem?_map, rowOf_at h]; rfl
theorem rL_set {M : List (List Int)} {a b : Nat} {t : Int} : (rL M).set a (.lst ((iL (rowOf M a)).set b (.int t))) = rL (setM M a b t) := by
  unfold rL setM
  rw [List.map_set]
  show _ = (List.map (fun r => PV.lst (iL r)) M).set a (PV.lst (((rowOf M a).set b t).map PV.int))
  rw [List.map_set]
end PW
set_option Elab.async false
set_option linter.all false
set_option maxRecDepth 100000
set_option maxHeartbeats 4000000
namespace PW
open L2 VL
theorem iL_ins (l : List Int) (k : Nat) (x : Int) : (iL l).take k ++ PV.int x :: (iL l).drop k = iL (l.take k ++ x :: l.drop k) := by
  show (l.map PV.int).take k ++ PV.int x :: (l.map PV.int).drop k = (l.take k ++ x :: l.drop k).map PV.int
  rw [List.map_append, List.map_cons, List.map_take, List.map_drop]
end PW
set_option Elab.async false
set_option linter.all false
set_option maxRecDepth 100000
set_option maxHeartbeats 4000000
set_option Elab.async false
set_option linter.all false
set_option maxRecDepth 100000
set_option maxHeartbeats 4000000
namespace PW
open L2 VL
theorem seq2 {f g : XS} {s s1 : PSt} (e1 : f s = some (.nx s1)) : sSeq f g s = g s1 := by
  simp only [sSeq_def, e1, Option.bind_some]
end PW
set_option Elab.async false
set_option linter.all false
set_option maxRecDepth 100000
set_option maxHeartbeats 4000000
namespace PW
open L2 VL
theorem ext_nth {a b : List Int} (hl : a.length = b.length) (h : ∀ i, i < a.length → nth a i = nth b i) : a = b := by
  rw [← nth_range a, ← nth_range b, hl]
  apply List.map_congr_left
  intro i hi
  exact h i (by rw [hl]; exact List.mem_range.mp hi)
theorem row_sum {W : List (List Int)} (ok : WebOk W) {i : Nat} (hi : i < W.length) : (rowOf W i).sum = ((List.range W.length).map fun j => ent W i j).sum := by
  rw [← sum_nth (rowOf W i), ok.sq i hi]; rfl
theorem comp_ints {n m : Nat} {ix : List Nat} {fi : XL} {ft : XT} {fe : XE} {s : PSt} (g : Nat → Int) (hfi : fi s = some (rng0 m)) (hm : m ≤ 1000) (h : ∀ i : Nat, i < m → ∃ s1, bindT (.one 0) (.int (i : Int)) (compEnv n ix s) = some s1 ∧ ft s1 = some true ∧ fe s1 = some (.int (g i))) :
    eComp n ix fi (.one 0) ft fe s = some (.lst (iL ((List.range m).map g))) := by
  rw [eComp_map (List.range m) (fun (i : Nat) => .int (i : Int)) (fun i => .int (g i)) hfi (by simp; omega) (fun i hi => h i (List.mem_range.mp hi))]
  simp
end PW
set_option Elab.async false
set_option linter.all false
set_option maxRecDepth 100000
set_option maxHeartbeats 4000000
namespace PW
open L2 VL
theorem nth_set {l : List Int} {h i : Nat} {v : Int} (hi : i < l.length) : nth (l.set h v) i = if i = h then v else nth l i := by
  unfold nth
  rw [List.getD_eq_getElem?_getD, List.getD_eq_getElem?_getD, List.getElem?_set]
  by_cases e : h = i
  · subst e
    rw [if_pos rfl, if_pos rfl, if_pos hi]; rfl
  · rw [if_neg e, if_neg (Ne.symm e)]
end PW
set_option Elab.async false
set_option linter.all false
set_option maxRecDepth 100000
set_option maxHeartbeats 4000000
namespace PW
open L2 VL
theorem nth_mem {l : List Int} {i : Nat} (h : i < l.length) : nth l i ∈ l := by
  unfold nth
  rw [List.getD_eq_getElem?_getD, List.getElem?_eq_getElem h]
  exact List.getElem_mem h
theorem mem_nth {l : List Int} {x : Int} (h : x ∈ l) : ∃ i, i < l.length ∧ nth l i = x := by
  obtain ⟨i, hi, e⟩ := List.getElem_of_mem h
  refine ⟨i, hi, ?_⟩
  unfold nth
  rw [List.getD_eq_getElem?_getD, List.getElem?_eq_getElem hi, e]; rfl
end PW
set_option Elab.async false
set_option linter.all false
set_option maxRecDepth 100000
set_option maxHeartbeats 4000000
namespace VL
open PySem PySem.Spec PyProof.Rows L2
variable {K : PySem.W.Frag}
def spC (K : PySem.W.Frag) (D : List PV → Option PV) (n : Nat) : Sp := fun vs H Q _ => vs.length = n ∧ ∃ v0 vr l0 ls fp0 l', vs = v0 :: vr ∧ Is K H l0 v0 fp0 ∧ fp0.Nodup ∧ (∀ p ∈ fp0, Mut (H p)) ∧ Iss K H ls vr [] ∧ D (l0 :: ls) = some l' ∧
  ∀ H' fq, Same (cutH H (· ∈ fp0)) H' → Is K H' l' v0 fq → fq.Nodup → (∀ p ∈ fq, cutH H (· ∈ fp0) p = none ∧ Mut (H' p)) → Q .non H'
def OutOk0 (K : PySem.W.Frag) (O W : List Nat) (H0 : Hp) (fps : Nat → List Addr) (σ : CSt) (D : Ends) : Out → Prop
  | .nx s' => ∀ fps' σ' H', Rel K O H0 fps' s' σ' H' → σ'[0]? = σ[0]? → D.nx σ' H'
  | _ => True
def tFS0 (K : PySem.W.Frag) (O W : List Nat) (f : XS) : TS := fun D σ H => ∃ H0 fps s s', Rel K O H0 fps s σ H ∧ f s = some (.nx s') ∧ OutOk0 K O W H0 fps σ D (.nx s')
def VS0 (X : Cx) (O W : List Nat) (st : Stmt) (f : XS) : Prop := PS X st (tFS0 X.K O W f)
def VSs0 (X : Cx) (O W : List Nat) (st : List Stmt) (f : XS) : Prop := PSs X st (tFS0 X.K O W f)
section
variable {X : Cx} {O W W1 W2 : List Nat} {st : Stmt} {rest : List Stmt} {f g : XS} {pos : Pos}
theorem VS.vs0 (h : VS X O W st f) (hw : 0 ∉ W := by decide) : VS0 X O W st f := PS.imp h fun D σ H ⟨H0, fps, s, s', r, e, k⟩ => ⟨H0, fps, s, .nx s', r, e, fun fps' σ' H' r' q => k fps' σ' H' r' (q 0 hw).1⟩
theorem vss0_one (h : VS0 X O W st f) : VSs0 X O W [st] f := pss_one h
theorem vss0_cons (h1 : VS0 X O W1 st f) (h2 : VSs0 X O W2 rest g) : VSs0 X O (W1 ++ W2) (st :: rest) (sSeq f g) := PSs.imp (pss_cons h1 h2) fun D σ H ⟨H0, fps, s, s', r, e, k⟩ => by
  obtain ⟨o1, e1, e⟩ := bind_some' e
  cases o1 with
  | nx s1 => exact ⟨H0, fps, s, s1, r, e1, fun fps1 σ1 H1 r1 q1 => ⟨H0, fps1, s1, s', r1, e, fun fps' σ' H' r' q' => k fps' σ' H' r' (q'.trans q1)⟩⟩
  | bk s1 => cases e
  | ct s1 => cases e
  | rt l => cases e
theorem vs0_setix2 {fe fa fb : XE} (h : PS X st (tAsg (tF X.K fe) (gSub (tOp (rIxL X.K) (tVar 0) (tF X.K fa)) (tF X.K fb) rSetL))) (hi : 0 ∈ O := by decide) : VS0 X O [0] st (sSetIx2 0 fa fb fe) := PS.imp h fun D σ H ⟨H0, fps, s, s', r, e, k⟩ => by
  obtain ⟨l, e0, e⟩ := bind_some' e
  obtain ⟨a, e1, e⟩ := bind_some' e
  obtain ⟨b, e2, e⟩ := bind_some' e
  obtain ⟨ai, ea, e⟩ := bind_some' e
  obtain ⟨bi, eb, e⟩ := bind_some' e
  obtain ⟨m, em, e⟩ := bind_some' e
  obtain ⟨j, ej, e⟩ := bind_some' e
  obtain ⟨rw', en, e⟩ := bind_some' e
  obtain ⟨n, er, e⟩ := bind_some' e
  obtain ⟨_, eg, e⟩ := bind_some' e
  rw [asI_some ea] at e1
  rw [asI_some eb] at e2
  rw [asL_some er] at en
  have em := atL_some em
  have hc := gd_some eg
  simp only [Bool.and_eq_true] at hc
  obtain ⟨pn, pl⟩ := hc
  obtain ⟨c, ec, e⟩ := map_some e
  cases e
  obtain ⟨p, xs, fq, hv, hp, hm, ef⟩ := r.lst_at hi em
  refine ⟨fun _ => False, s, l, fun _ z => z.elim, r.env, e0, fun y H1 fy s1 i1 _ => ?_⟩
  refine ⟨.ref p, hv, fun _ => False, s, _, fun _ z => z.elim, r.env.mono s1, e1, fun z H2 fz s2 i2 _ => ?_⟩
  obtain ⟨rfl, _⟩ := i2.int_inv
  have s12 := s1.trans s2
  obtain ⟨q, f1, hq, iq, subq⟩ := (hm.mono s12).get en
  obtain ⟨qa, zs, fz', rfl, hqa, hz, rfl⟩ := id iq.lst_inv
  refine ⟨p, xs, ai, .ref qa, rfl, rfl, SqL.of (s12 _ _ hp), ?_, fun _ => False, s, _, fun _ z => z.elim, r.env.mono s12, e2, fun w H3 fw s3 i3 _ => ?_⟩
  · unfold atI; rw [hm.len, ej]; exact hq
  obtain ⟨rfl, _⟩ := i3.int_inv
  have s123 := s12.trans s3
  have r3 := r.grow s123
  have hqf : qa ∈ fps 0 := by rw [ef]; exact List.mem_cons_of_mem _ (subq qa List.mem_cons_self)
  have mu := (r3.own 0 hi qa hqf).2
  have hqa3 : H3 qa = some (.lst zs) := s3 _ _ hqa
  have := Is.pure _ _ _ pl i1
  subst this
  refine ⟨qa, zs, bi, c, rfl, rfl, hqa3, by rw [hz.len]; exact ec, ?_⟩
  have nd := r.nd 0 hi
  rw [ef] at nd
  have hqp : qa ≠ p := fun z => (List.nodup_cons.mp nd).1 (z ▸ subq qa List.mem_cons_self)
  have newrow : Iss X.K (L2.upd H3 qa (.lst (zs.set c y))) (n.set c l) (zs.set c y) [] := Iss.tr (TK.upd' mu) _ _ _ (fun q hq => by simp at hq) (Iss.setP c pn pl ((hz.mono s3).pureEq pn) (i1.mono (s2.trans s3)))
  have rows := Iss.setRow (hm.mono s123) en hq (List.nodup_cons.mp nd).2 mu pn newrow
  refine k _ _ _ (r3.mutate (o := .lst (zs.set c y)) (l' := .lst (m.set j (.lst (n.set c l)))) (fp' := p :: fq) hi hqf hv (lt_of_get em) (Is.lst (by rw [L2.upd_ne (Ne.symm hqp)]; exact s123 _ _ hp) rows) nd (fun q hq => ?_) (fun j hj q hq z => r.dis 0 hi j hj q (by rw [ef]; exact hq) z) True.intro) rfl
  refine ⟨(r.own 0 hi q (by rw [ef]; exact hq)).1, ?_⟩
  by_cases e : q = qa
  · subst e; rw [upd_same]; exact True.intro
  · rw [L2.upd_ne e]; exact (r3.own 0 hi q (by rw [ef]; exact hq)).2
end
def outC : Out → Option PV
  | .nx s => match s[0]? with | some (some l) => some l | _ => none
  | _ => none
def fnC (m : Nat) (f : XS) : List PV → Option PV := fun ls => if pureL (ls.drop 1) = true then (f (start0 m ls)).bind outC else none
theorem body_okC {N : List Str} {n : Nat} {W : List Nat} {f : XS} {vs : List V} {H : Hp} {Q : VK} {E : XK} (h : spC K (fnC N.length f) n vs H Q E) : tFS0 K [0] W f { nx := fun _ H' => Q .non H', rt := Q } (L2.start N vs) H := by
  obtain ⟨hl, v0, vr, l0, lr, fp0, l', rfl, i0, nd0, mu0, hir, e, q⟩ := h
  unfold fnC at e
  split at e
  case isFalse => cases e
  obtain ⟨out, e1, e2⟩ := bind_some' e
  have hi : Iss K H (l0 :: lr) (v0 :: vr) (fp0 ++ []) := Iss.cons i0 hir
  have hlen := hi.len
  generalize hls : l0 :: lr = ls at *
  have hout : ∀ i : Nat, ls.length ≤ i → ∀ l, (start0 N.length ls)[i]? ≠ some (some l) := fun i hi l z => by
    unfold start0 at z
    rw [List.getElem?_append_right (by simpa using hi), List.getElem?_replicate] at z
    split at z <;> cases z
  have rel : Rel K [0] (cutH H (· ∈ fp0)) (fun i => if i = 0 then fp0 else []) (start0 N.length ls) (L2.start N (v0 :: vr)) H := by
    refine ⟨cutH_same, ?_, fun i a z => ?_, fun i hne => ?_, fun i hi => ?_, fun i hi p hp => ?_, fun i hi j hj p hp => ?_⟩
    · have hq : vr.length + 1 = ls.length := hlen
      unfold start0 L2.start; simp; omega
    · by_cases hil : i < ls.length
      · unfold start0 at z
        rw [List.getElem?_append_left (by simpa using hil), List.getElem?_map] at z
        cases q : ls[i]? with
        | none => rw [q] at z; cases z
        | some b =>
          rw [q] at z
          cases z
          cases i with
          | zero =>
            rw [← hls] at q
            simp at q; subst q
            exact ⟨v0, by unfold L2.start; simp, by simpa using i0⟩
          | succ i =>
            rw [← hls] at q
            obtain ⟨v, f1, a1, b1, b2⟩ := hir.get (i := i) (a := a) (by simpa using q)
            have : f1 = [] := by cases f1 with | nil => rfl | cons x r => exact absurd (b2 x List.mem_cons_self) (by simp)
            subst this
            refine ⟨v, ?_, by simpa using b1⟩
            unfold L2.start
            rw [List.getElem?_append_left (by rw [List.length_map, hlen]; exact hil), List.getElem?_map]
            simp [a1]
      · exact absurd z (hout i (by omega) a)
    · by_cases hil : i < ls.length
      · exact absurd (by unfold start0; rw [List.getElem?_append_left (by simpa using hil), List.getElem?_map, List.getElem?_eq_getElem hil]; rfl) (hne ls[i])
      · have : i ≠ 0 := by rw [← hls] at hil; simp at hil; omega
        simp [this]
    · simp at hi; subst hi; simpa using nd0
    · simp at hi; subst hi
      have hp : p ∈ fp0 := by simpa using hp
      exact ⟨by unfold cutH; rw [if_pos hp], mu0 p hp⟩
    · simp at hi; subst hi
      simp [hj]
  cases out with
  | nx s' =>
    have e2 : (match s'[0]? with | some (some l) => some l | _ => none) = some l' := e2
    split at e2
    case h_2 => cases e2
    rename_i l es
    cases e2
    refine ⟨_, _, _, s', rel, e1, fun fps' σ' H' r' q' => ?_⟩
    obtain ⟨v, a, b⟩ := r'.is 0 _ es
    rw [q'] at a
    have : v = v0 := by unfold L2.start at a; simp at a; exact a.symm
    subst this
    exact q H' (fps' 0) r'.same b (r'.nd 0 (by simp)) fun p hp => r'.own 0 (by simp) p hp
  | rt v => cases e2
  | bk s' => cases e2
  | ct s' => cases e2
section
variable {P : Program} {w : World} {mg : Str → Option Value} {base : Heap}
theorem def_okC {x : Str} {st : Stmt} {N ps : List Str} {k n : Nat} {W : List Nat} (m : Nat) (f : XS) (D : Def K mg x st) (S : FnScope N ps (defScope st))
    (hb : ∀ (kV doc pm : Value) (an : Option Addr) (cdv ct : Value) (us : List Value), us.length = ps.length → bindArgs (PySem.W.fnOf x x (defArgs st) (defBody st) (defScope st) .none kV doc pm an cdv ct) ⟨us, []⟩ = pure (ps.zip us))
    (hn : ps.length = n) (hm : N.length = m)
    (hbody : ∀ (fa : Addr) (cdv : Value) (A : Around) (outer : List Env) (s : Shared) (H : Hp) (E : XK), Room k (A.deeper (envOfC x (defScope st) s.heap.objs.size fa cdv)) → VSs0 (cxOf CX0 P w K mg base N x (defScope st) fa cdv A outer s H E).nox [0] W (defBody st) f) :
    Cal P w K mg base x ps (spC K (fnC m f) n) (k + 1) := by
  subst hm
  refine D.cal S hb (fun vs H Q E h => by rw [hn]; exact h.1) fun fa cdv A outer s H vs Q E hr h => ⟨_, hbody fa cdv A outer s H E hr, body_okC h⟩
end
def sChg (i : Nat) (D : List PV → Option PV) (fs : List XE) : XS := fun s => match s[i]? with
  | some (some l0) => (evs fs s).bind fun ls => if pureL ls = true then (D (l0 :: ls)).map fun l' => .nx (s.set i (some l')) else none
  | _ => none
theorem vs_chg {X : Cx} {O : List Nat} {i : Nat} {st : Stmt} {D : List PV → Option PV} {n : Nat} {fs : List XE} (h : PS X st (tDrop (tCall (spC X.K D n) [] E0 (tCons (tVar i) (tFA X.K fs))))) (hn : fs.length + 1 = n := by rfl) (hi : i ∈ O := by decide) : VS X O [i] st (sChg i D fs) := PS.imp h fun D' σ H ⟨H0, fps, s, out, r, e, k⟩ => by
  unfold sChg at e
  split at e
  case h_2 => cases e
  rename_i l0 e0
  obtain ⟨ls, e1, e⟩ := bind_some' e
  split at e
  case isFalse => cases e
  rename_i pls
  obtain ⟨l', e2, rfl⟩ := map_some e
  obtain ⟨v0, hv, iv⟩ := r.is i _ e0
  refine ⟨v0, hv, fun _ => False, s, ls, fun _ z => z.elim, r.env, e1, fun vs H1 fp s1 i1 _ => ?_⟩
  have := Iss.pure _ _ _ pls i1
  subst this
  show spC X.K D n ((v0 :: vs) ++ []) H1 _ E0
  rw [List.append_nil]
  have r1 := r.grow s1
  refine ⟨by rw [List.length_cons, i1.len, evs_len e1]; exact hn, v0, vs, l0, ls, fps i, l', rfl, iv.mono s1, r.nd i hi, fun p hp => (r1.own i hi p hp).2, i1, e2, fun H' fq sm iq ndq nq => ?_⟩
  have hlt : i < s.length := lt_of_get e0
  have keep : ∀ b o, b ∉ fps i → H1 b = some o → H' b = some o := fun b o hb ho => sm b o (by unfold cutH; rw [if_neg hb]; exact ho)
  have tk : TK2 H1 H' := ⟨fun b xs hb => keep b _ (fun z => by have := (r1.own i hi b z).2; rw [hb] at this; exact this) hb, fun b o xs hb => keep b _ (fun z => by have := (r1.own i hi b z).2; rw [hb] at this; exact this) hb, fun b o xs hb => keep b _ (fun z => by have := (r1.own i hi b z).2; rw [hb] at this; exact this) hb⟩
  have hfq : ∀ p ∈ fq, p ∈ fps i ∨ H1 p = none := fun p hp => by
    have := (nq p hp).1
    unfold cutH at this
    split at this
    · exact .inl (by assumption)
    · exact .inr this
  have fr : ∀ j, j ≠ i → ∀ p ∈ fq, p ∉ fps j := fun j hj p hp z => by
    rcases hfq p hp with h | h
    · exact r1.dis i hi j hj p h z
    · exact r1.dom j p z h
  have e1' : updF fps s.length i fq i = fq := updF_eq hlt
  refine k (updF fps s.length i fq) σ H' ⟨fun b u hb => keep b u (fun z => by rw [(r1.own i hi b z).1] at hb; cases hb) (r1.same b u hb), by rw [List.length_set]; exact r.len, fun j a e => ?_, fun j h => ?_, fun j hj => ?_, fun j hj q hq => ?_, fun j hj k' hk q hq => ?_⟩ keepW
  · rw [List.getElem?_set] at e
    by_cases hj : i = j
    · subst hj
      rw [if_pos rfl, if_pos hlt] at e
      cases e
      rw [e1']; exact ⟨v0, hv, iq⟩
    · rw [if_neg hj] at e
      obtain ⟨w, h1, h2⟩ := r1.is j a e
      rw [updF_ne (Ne.symm hj)]
      refine ⟨w, h1, Is.tr tk _ _ _ (fun q hq => RdK.of fun u hu => ?_) h2⟩
      exact keep q u (fun z => r1.dis i hi j (Ne.symm hj) q z hq) hu
  · by_cases hj : i = j
    · subst hj
      exact absurd (by rw [List.getElem?_set, if_pos rfl, if_pos hlt]) (h l')
    · rw [updF_ne (Ne.symm hj)]
      exact r.emp j fun a z => h a (by rw [List.getElem?_set, if_neg hj]; exact z)
  · by_cases e : j = i
    · subst e; rw [e1']; exact ndq
    · rw [updF_ne e]; exact r.nd j hj
  · by_cases e : j = i
    · subst e; rw [e1'] at hq
      refine ⟨?_, (nq q hq).2⟩
      rcases hfq q hq with h | h
      · exact (r1.own j hj q h).1
      · exact Same.off r1.same h
    · rw [updF_ne e] at hq
      refine ⟨(r.own j hj q hq).1, ?_⟩
      have mu := (r1.own j hj q hq).2
      have nin : q ∉ fps i := fun z => r1.dis j hj i (Ne.symm e) q hq z
      cases hh : H1 q with
      | none => exact absurd hh (r1.dom j q hq)
      | some o => rw [keep q o nin hh, ← hh]; exact mu
  · by_cases e : j = i
    · subst e
      rw [e1'] at hq
      rw [updF_ne hk]
      exact fr k' hk q hq
    · rw [updF_ne e] at hq
      by_cases e2 : k' = i
      · subst e2
        rw [e1']
        exact fun z => fr j e q z hq
      · rw [updF_ne e2]; exact r.dis j hj k' hk q hq
end VL
set_option Elab.async false
set_option linter.all false
set_option maxRecDepth 100000
set_option maxHeartbeats 4000000
namespace VL
open PySem PySem.Spec PyProof.Rows L2
variable {K : PySem.W.Frag}
def CMulW (i j : Int) : Prop := i.natAbs.log2 < 67108863 ∧ j.natAbs.log2 < 67108863
def CDivW (i j : Int) : Prop := j ≠ 0 ∧ j.natAbs.log2 < 9000
instance (i j : Int) : Decidable (CMulW i j) := by unfold CMulW; infer_instance
instance (i j : Int) : Decidable (CDivW i j) := by unfold CDivW; infer_instance
theorem bits_le (i : Int) : Builtin.Int.intBits i ≤ i.natAbs.log2 + 1 := by
  unfold Builtin.Int.intBits
  split
  · exact Nat.zero_le _
  · exact Nat.le_refl _
theorem CMulW.ok {i j : Int} (h : CMulW i j) : IntMulOk i j := by
  unfold IntMulOk Builtin.Int.intTooBig
  have h1 := bits_le i
  have h2 := bits_le j
  have h3 := h.1
  have h4 := h.2
  have : decide (((Builtin.Int.intBits i : Int) + (Builtin.Int.intBits j : Int)) > (bitsLine : Int)) = false := decide_eq_false (by
    have e : (bitsLine : Int) = 134217728 := rfl
    rw [e]; omega)
  rw [this]
  simp
section
variable {X : Cx} {a b : Expr} {fa fb : XE} {pos : Pos}
theorem op_mulW : OpR X (binaryOp .Mult) (rI CMulW fun i j => .int (i * j)) := opI fun _ _ _ _ _ _ _ hc q => mul_int q hc.ok
theorem op_fdivW : OpR X (binaryOp .FloorDiv) (rI CDivW fun i j => .int (i.fdiv j)) := opI fun _ _ _ _ _ _ _ hc q => floordiv_int hc.1 q (.inl (PyProof.noPylong_of_log2 hc.2))
abbrev oMulW := gIC CMulW (· * ·)
abbrev oDivW := gIC CDivW Int.fdiv
theorem ve_mulW (ha : VE X a fa) (hb : VE X b fb) : VE X (.BinOp a .Mult b pos) (eOp oMulW fa fb) := ve_op op_mulW (rb_IC _ _) ha hb
theorem ve_fdivW (ha : VE X a fa) (hb : VE X b fb) : VE X (.BinOp a .FloorDiv b pos) (eOp oDivW fa fb) := ve_op op_fdivW (rb_IC _ _) ha hb
end
theorem weight_mem : ∀ {ns : List Int} {n : Int}, n ∈ ns → n.natAbs.log2 ≤ PySem.W.WData.weightAll (ns.map .int)
  | m :: r, n, h => by
    rw [List.map_cons]
    simp only [PySem.W.WData.weightAll, PySem.W.WData.weight]
    rcases List.mem_cons.mp h with rfl | h
    · by_cases h0 : n = 0
      · subst h0
        have : Nat.log2 (Int.natAbs 0) = 0 := by decide +kernel
        omega
      · rw [if_neg (by simpa using h0)]; omega
    · have := weight_mem h
      omega
open PySem.W PySem.Calls in
theorem law_walkB {l : PySem.W.OpenLaw} {q : Program} {loose : List Str} {XP : (Str → Option Value) → Heap → Prop} {YP : World → Heap → Prop} {d : DefRec} {KK : Params → PySem.W.Frag} {x : Str} {D : List PV → Option PV} (k : Nat) (hn : l.most = some 63) (hdf : d.params.defaults = [])
    (hr : Room k callerA) (hD : ∀ ns : List Int, ns.length ≤ 63 → (∀ n ∈ ns, n.natAbs.log2 ≤ 1048576) → D [.cst (iL ns)] = some (.bl true))
    (hY : ∀ (w : World) (h : Heap), YP w h → (KK w.params).In h)
    (F : ∀ (w : World) (mg : Str → Option Value) (fa : Addr) (h : Heap), (KK w.params).In h → h.Ns mainGlobals mg → mg d.name = some (.ref fa) →
      ∃ fd : FuncData, (∀ (s : Shared) (u : Value), BindsTo s fd ⟨[u], []⟩ [(x, u)]) ∧ ∀ base : Heap, (KK w.params).In base → base.Ns mainGlobals mg → FnOk l.prog w (KK w.params) mg base CX0 k fa fd [x] (spF (KK w.params) D 1)) :
    PySem.W.WalkO q loose XP YP l.row.toRowW d [] (fun f vs => PySem.call f vs) := by
  intro w s₀ s₁ mg mb gr yy fa o pm cd doc dv kv ho hd hcd hdd hmg hgen args vals as hpre hlay hrd hwl hlo
  obtain rfl : dv = .none := Dflts.none hdd hdf
  obtain rfl : kv = .none := Dflts.noKw hdd
  obtain ⟨a, vs, ns, rfl, rfl, hobj, hints, hlen⟩ := Att.script_of hn hpre hwl
  have hw : ∀ n ∈ ns, n.natAbs.log2 ≤ 1048576 := fun n h => by
    have h1 : (WData.list (ns.map WData.int)).layable = true := List.all_eq_true.mp hlay _ (List.mem_singleton.mpr rfl)
    unfold WData.layable at h1
    have h2 := of_decide_eq_true (Bool.and_eq_true_iff.mp h1).2
    have h3 : WData.weightAll (ns.map WData.int) ≤ 1048576 := by simpa [WData.weight] using h2
    exact Nat.le_trans (weight_mem h) h3
  have kx := hY w _ yy
  obtain ⟨fd, hb, hF⟩ := F w mg fa _ kx gr.T.g hmg
  refine enter_call (codeAny_mono (L2.law_call kx gr.T.g gr.T.b gr.T.builtins gr.T.nolimit hgen hobj hints (Nat.le_trans hlen (by decide)) hr hF hb (fun H hO hS => law_sp (hD ns hlen hw) hO hS) fun H e s' z => z) fun r s' hq => ?_)
  obtain ⟨rfl, h2, h3, h4⟩ := hq
  exact ⟨.inl ⟨.bool true, .bool true, [], rfl, fun _ => rfl, .bool true, Att.post_true l _, fun _ => ⟨List.Pairwise.nil, fun _ hm => (nomatch hm)⟩⟩, h2, h3, h4⟩
end VL
set_option Elab.async false
set_option linter.all false
set_option maxRecDepth 100000
set_option maxHeartbeats 4000000
set_option Elab.async false
set_option linter.all false
set_option maxRecDepth 100000
set_option maxHeartbeats 4000000
set_option Elab.async false
set_option linter.all false
set_option maxRecDepth 100000
set_option maxHeartbeats 4000000
namespace VL
open PySem PySem.Spec PyProof.Rows L2
variable {K : PySem.W.Frag}
def OutOkR (K : PySem.W.Frag) (H0 : Hp) (D : Ends) : Out → Prop
  | .nx _ => ∀ σ' H', Same H0 H' → D.nx σ' H'
  | .rt l => ∀ v fp H', Same H0 H' → Is K H' l v fp → fp.Nodup → (∀ p ∈ fp, H0 p = none ∧ Mut (H' p)) → D.rt v H'
  | _ => False
def tFSR (K : PySem.W.Frag) (O : List Nat) (f : XS) : TS := fun D σ H => ∃ H0 fps s out, Rel K O H0 fps s σ H ∧ f s = some out ∧ OutOkR K H0 D out
def VSsR (X : Cx) (O : List Nat) (st : List Stmt) (f : XS) : Prop := PSs X st (tFSR X.K O f)
section
variable {X : Cx} {O O' W : List Nat} {st : Stmt} {rest : List Stmt} {f g : XS}
theorem VSs.r (h : VSs X O W rest f) : VSsR X O rest f := PSs.imp h fun D σ H ⟨H0, fps, s, out, r, e, k⟩ => ⟨H0, fps, s, out, r, e, by
  cases out with
  | nx s' => exact fun fps' σ' H' r' _ => k σ' H' r'.same
  | rt l => exact k
  | bk s' => exact k.elim
  | ct s' => exact k.elim⟩
end
end VL
set_option Elab.async false
set_option linter.all false
set_option maxRecDepth 100000
set_option maxHeartbeats 4000000
set_option Elab.async false
set_option linter.all false
set_option maxRecDepth 100000
set_option maxHeartbeats 4000000
set_option Elab.async false
set_option linter.all false
set_option maxRecDepth 100000
set_option maxHeartbeats 4000000
namespace L2
open PySem PySem.Spec PyProof.Rows
abbrev WJ := Addr → Obj → List (List Key × V) → It
end L2
set_option Elab.async false
set_option linter.all false
set_option maxRecDepth 100000
set_option maxHeartbeats 4000000
set_option Elab.async false
set_option linter.all false
set_option maxRecDepth 100000
set_option maxHeartbeats 4000000
set_option Elab.async false
set_option linter.all false
set_option maxRecDepth 100000
set_option maxHeartbeats 4000000
set_option Elab.async false
set_option linter.all false
set_option maxRecDepth 100000
set_option maxHeartbeats 4000000
set_option Elab.async false
set_option linter.all false
set_option maxRecDepth 100000
set_option maxHeartbeats 4000000
namespace PW
open PySem L2 VL
noncomputable def F_m_cell : XS := (sSeq (sIf (xB (eOp oLt (eVar 1) (eCall gLen [(eVar 0)]))) (sRet (eP (eOp gIx (eVar 0) (eVar 1)))) sNext)
    (sRet (eP (eOp oMod (eOp oMul (eOp oAdd (eOp oAdd (eOp oMul (eVar 1) (eVar 1)) (eOp oMul (eC (.int 3)) (eVar 1))) (eC (.int 1))) (eC (.int 5003))) (eC (.int 1999))))))
noncomputable def D_m_cell : List PV → Option PV := fnD 2 F_m_cell
noncomputable def F_l_part : XS := (sSeq (sSet 3 (eP (eOp oDiv (eVar 0) (eC (.int 2)))))
    (sSeq (sIf (xAnd (xB (eOp (gEq false) (eOp oMod (eVar 0) (eC (.int 2))) (eC (.int 1)))) (xB (eOp oGt (eVar 0) (eOp oPow (eC (.int 10)) (eC (.int 9)))))) (sSeq (sFor [] (xRng1 [(eVar 1)]) (.one 4) (sSet 3 (eP (eOp oDiv (eVar 3) (eC (.int 1000))))))
    (sRet (eP (eOp oMod (eVar 3) (eVar 2))))) sNext)
    (sSeq (sSet 3 (eP (eOp oAdd (eOp oMod (eVar 3) (eC (.int 999979))) (eOp oMul (eC (.int 1009)) (eVar 1)))))
    (sSeq (sSet 3 (eP (eOp oMod (eOp oAdd (eOp oMul (eVar 3) (eVar 3)) (eOp oMul (eC (.int 40503)) (eVar 3))) (eC (.int 999983)))))
    (sRet (eP (eOp oMod (eOp oDiv (eOp oMod (eOp oAdd (eOp oMul (eVar 3) (eVar 3)) (eOp oMul (eC (.int 7)) (eVar 1))) (eC (.int 999961))) (eC (.int 11))) (eVar 2))))))))
noncomputable def D_l_part : List PV → Option PV := fnD 5 F_l_part
noncomputable def F_l_tie : XS := (sSeq (sSet 4 (eP (eCall gMin2 [(eC (.int 9)), (eOp oAdd (eOp gIx (eOp gIx (eVar 0) (eVar 1)) (eVar 2)) (eVar 3))])))
    (sSeq (sSetIx2 0 (eVar 1) (eVar 2) (eVar 4))
    (sSetIx2 0 (eVar 2) (eVar 1) (eVar 4))))
noncomputable def D_l_tie : List PV → Option PV := fnC 5 F_l_tie
noncomputable def F_l_web : XS := (sSeq (sSet 2 (eCall D_m_cell [(eVar 0), (eC (.int 0))]))
    (sSeq (sSet 3 (eP (eOp oAdd (eC (.int 1)) (eCall D_l_part [(eVar 2), (eC (.int 0)), (eVar 1)]))))
    (sSeq (sSet 4 (eComp 1 [3] (xRng1 [(eVar 3)]) (.one 0) xTrue (eOp gRep (eLst [(eC (.int 0))]) (eVar 1))))
    (sSeq (sSet 5 (eLst []))
    (sSeq (sFor [4, 5] (xRng1 [(eVar 3)]) (.one 6) (sInsert 5 (eCall D_l_part [(eCall D_m_cell [(eVar 0), (eOp oAdd (eC (.int 6)) (eVar 6))]), (eC (.int 10)), (eOp oAdd (eVar 6) (eC (.int 1)))]) (eVar 6)))
    (sSeq (sFor [4, 5] (xRng2 [(eC (.int 1)), (eVar 3)]) (.one 6) (sSeq (sSet 7 (eCall D_m_cell [(eVar 0), (eVar 6)]))
    (sChg 4 D_l_tie [(eOp gIx (eVar 5) (eVar 6)), (eOp gIx (eVar 5) (eCall D_l_part [(eVar 7), (eC (.int 1)), (eVar 6)])), (eOp oAdd (eC (.int 1)) (eCall D_l_part [(eVar 7), (eC (.int 2)), (eC (.int 3))]))])))
    (sSeq (sIf (xB (eOp oGt (eVar 3) (eC (.int 1)))) (sFor [4, 5] (xRng1 [(eCall D_l_part [(eVar 2), (eC (.int 3)), (eC (.int 6))])]) (.one 6) (sSeq (sSet 7 (eCall D_m_cell [(eVar 0), (eOp oAdd (eC (.int 7)) (eVar 6))]))
    (sSeq (sSet 8 (eCall D_l_part [(eVar 7), (eC (.int 4)), (eVar 3)]))
    (sSeq (sSet 9 (eP (eOp oMod (eOp oAdd (eOp oAdd (eVar 8) (eC (.int 1))) (eCall D_l_part [(eVar 7), (eC (.int 5)), (eOp oSub (eVar 3) (eC (.int 1)))])) (eVar 3))))
    (sChg 4 D_l_tie [(eVar 8), (eVar 9), (eOp oAdd (eC (.int 1)) (eCall D_l_part [(eVar 7), (eC (.int 6)), (eC (.int 2))]))]))))) sNext)
    (sRet (eP (eCall gTuple [(eComp 1 [] (xLst (eVar 4)) (.one 0) xTrue (eCall gTuple [(eVar 0)]))]))))))))))
noncomputable def D_l_web : List PV → Option PV := fnD 10 F_l_web
noncomputable def F_row_of : XS := (sRet (eP (eCall gTuple [(eComp 1 [1, 0] (xLst (eVar 2)) (.one 0) xTrue (eIf (xB (eOp (gEq false) (eVar 0) (eVar 1))) (eCall D_ties_at [(eVar 2), (eVar 1)]) (eUn gNeg (eOp gIx (eOp gIx (eVar 2) (eVar 1)) (eVar 0)))))])))
noncomputable def D_row_of : List PV → Option PV := fnD 3 F_row_of
noncomputable def F_square_without : XS := (sSeq (sSet 2 (eComp 1 [1] (xRng1 [(eCall gLen [(eVar 0)])]) (.one 0) (xB (eOp (gEq true) (eVar 0) (eVar 1))) (eP (eVar 0))))
    (sRet (eP (eCall gTuple [(eComp 1 [0, 2] (xLst (eVar 2)) (.one 0) xTrue (eCall D_row_of [(eVar 1), (eVar 0), (eVar 2)]))]))))
noncomputable def D_square_without : List PV → Option PV := fnD 3 F_square_without
noncomputable def F_l_row : XS := (sRet (eP (eAnd (eCall gInst [(eVar 0), (eC (.ty "tuple"))]) (eAnd (eOp (gEq false) (eCall gLen [(eVar 0)]) (eVar 1)) (eCall gAll [(eComp 1 [] (xTup (eVar 0)) (.one 0) xTrue (eCall D_l_whole [(eVar 0)]))])))))
noncomputable def D_l_row : List PV → Option PV := fnD 2 F_l_row
end PW
set_option Elab.async false
set_option linter.all false
set_option maxRecDepth 100000
set_option maxHeartbeats 4000000
set_option Elab.async false
set_option linter.all false
set_option maxRecDepth 100000
set_option maxHeartbeats 4000000
namespace PW
open L2 VL
theorem seqR {f g : XS} {s : PSt} {v : PV} (e1 : f s = some (.rt v)) : sSeq f g s = some (.rt v) := by rw [sSeq_def, e1]; rfl
def cellF (ns : List Int) (k : Nat) : Int := if k < ns.length then nth ns k else ((k : Int) * k + 3 * k + 1) * 5003 % 1999
section
variable {s : PSt} {f g : XE} {a b : Int} {C : Int → Int → Prop} [∀ i j, Decidable (C i j)] {op : Int → Int → Int}
theorem vC (h1 : f s = some (.int a)) (h2 : g s = some (.int b)) (c : C a b) : eOp (gIC C op) f g s = some (.int (op a b)) := by
  rw [eOp_def, h1, h2]; simp only [Option.bind_some, gIC_ii, if_pos c]
theorem vI (h1 : f s = some (.int a)) (h2 : g s = some (.int b)) : eOp (gI op) f g s = some (.int (op a b)) := by
  rw [eOp_def, h1, h2]; rfl
theorem vP (h1 : f s = some (.int a)) : eP f s = some (.int a) := by
  rw [eP_def, h1]; rfl
theorem vRet {v : PV} (h1 : f s = some v) : sRet f s = some (.rt v) := by
  rw [sRet_def, h1]; rfl
end
theorem m_cell_eq {ns : List Int} (h : ns.length ≤ 63) {k : Nat} (hk : k ≤ 100) : D_m_cell [.cst (iL ns), .int (k : Int)] = some (.int (cellF ns k)) := by
  unfold cellF
  by_cases q : k < ns.length
  · simp [D_m_cell, F_m_cell, fnD, start0, q, atI_iL q]
  · have c1 : CMul (k : Int) (k : Int) := CMul_s (by omega) (by omega)
    have c2 : CMul 3 (k : Int) := .inl (by omega)
    have c3 : CMul ((k : Int) * k + 3 * k + 1) 5003 := .inr (by omega)
    have e1 : sIf (xB (eOp oLt (eVar 1) (eCall gLen [(eVar 0)]))) (sRet (eP (eOp gIx (eVar 0) (eVar 1)))) sNext [some (.cst (iL ns)), some (.int (k : Int))] = some (.nx [some (.cst (iL ns)), some (.int (k : Int))]) := by simp [q]
    show fnD 2 F_m_cell _ = _
    unfold F_m_cell
    show (sSeq _ _ [some (.cst (iL ns)), some (.int (k : Int))]).bind retO = _
    rw [seq2 e1, if_neg q, vRet (vP (vC (vC (vI (vI (vC rfl rfl c1) (vC rfl rfl c2)) rfl) rfl c3) rfl (by decide)))]
    rfl
theorem cell_log {ns : List Int} (hb : ∀ n ∈ ns, n.natAbs.log2 ≤ 1048576) (k : Nat) : (cellF ns k).natAbs.log2 ≤ 1048576 := by
  unfold cellF
  split
  · exact hb _ (nth_mem (by assumption))
  · generalize ((k : Int) * k + 3 * k + 1) * 5003 = z
    have h0 := Int.emod_nonneg z (show (1999 : Int) ≠ 0 by decide)
    have h1 := Int.emod_lt_of_pos z (show (0 : Int) < 1999 by decide)
    have : (z % 1999).natAbs.log2 ≤ 1048576 := by
      by_cases h : (z % 1999).natAbs = 0
      · rw [h]; decide +kernel
      · have := (Nat.log2_lt (k := 11) h).mpr (by omega)
        omega
    exact this
theorem part_eq (c : Int) {t m : Nat} (ht : t ≤ 100) (hm : 0 < m) : ∃ v : Nat, v < m ∧ D_l_part [.int c, .int (t : Int), .int (m : Int)] = some (.int (v : Int)) := by
  have hm' : (0 : Int) < (m : Int) := by omega
  have fin : ∀ x : Int, ∃ v : Nat, v < m ∧ x % (m : Int) = (v : Int) := fun x => by
    have h0 := Int.emod_nonneg x (show (m : Int) ≠ 0 by omega)
    have h1 := Int.emod_lt_of_pos x hm'
    exact ⟨(x % (m : Int)).toNat, by omega, by omega⟩
  have e1 : sSet 3 (eP (eOp oDiv (eVar 0) (eC (.int 2)))) [some (.int c), some (.int (t : Int)), some (.int (m : Int)), none, none] = some (.nx [some (.int c), some (.int (t : Int)), some (.int (m : Int)), some (.int (c / 2)), none]) := by simp [CDiv]
  show ∃ v : Nat, v < m ∧ fnD 5 F_l_part _ = _
  unfold F_l_part
  show ∃ v : Nat, v < m ∧ (sSeq _ _ [some (.int c), some (.int (t : Int)), some (.int (m : Int)), none, none]).bind retO = _
  rw [seq2 e1]
  by_cases q : c % 2 = 1 ∧ 1000000000 < c
  · obtain ⟨s', h1, x, y, e⟩ := forL_inv (T := .one 4) (fb := sSet 3 (eP (eOp oDiv (eVar 3) (eC (.int 1000))))) (ls := rng0 t) (s := [some (.int c), some (.int (t : Int)), some (.int (m : Int)), some (.int (c / 2)), none])
      (fun i st => ∃ x y, st = [some (.int c), some (.int (t : Int)), some (.int (m : Int)), some (.int x), y]) ⟨_, _, rfl⟩ (by
        rintro i l st hl ⟨x, y, rfl⟩
        obtain ⟨hi, rfl⟩ := rng0_get hl
        refine ⟨_, _, rfl, ?_, x / 1000, some (.int (i : Int)), rfl⟩
        simp [CDiv])
    subst e
    obtain ⟨v, hv, ev⟩ := fin x
    refine ⟨v, hv, ?_⟩
    have hr : xRng1 [eVar 1] [some (.int c), some (.int (t : Int)), some (.int (m : Int)), some (.int (c / 2)), none] = some (rng0 t) := xRng1_nat (by simp) (by omega)
    have e2 : sFor [] (xRng1 [eVar 1]) (.one 4) (sSet 3 (eP (eOp oDiv (eVar 3) (eC (.int 1000))))) [some (.int c), some (.int (t : Int)), some (.int (m : Int)), some (.int (c / 2)), none] = some (.nx [some (.int c), some (.int (t : Int)), some (.int (m : Int)), some (.int x), y]) := by
      show (xRng1 [eVar 1] [some (.int c), some (.int (t : Int)), some (.int (m : Int)), some (.int (c / 2)), none]).bind _ = _
      rw [hr]; exact h1
    rw [seqR (v := .int (v : Int))]
    · rfl
    · rw [sIf_def]
      have : (xAnd (xB (eOp (gEq false) (eOp oMod (eVar 0) (eC (.int 2))) (eC (.int 1)))) (xB (eOp oGt (eVar 0) (eOp oPow (eC (.int 10)) (eC (.int 9)))))) [some (.int c), some (.int (t : Int)), some (.int (m : Int)), some (.int (c / 2)), none] = some true := by
        simp [q.1, CPow, q.2]
      rw [this]
      simp only [Option.bind_some, if_true]
      rw [seq2 e2]
      simp [hm, ev]
  · have : (xAnd (xB (eOp (gEq false) (eOp oMod (eVar 0) (eC (.int 2))) (eC (.int 1)))) (xB (eOp oGt (eVar 0) (eOp oPow (eC (.int 10)) (eC (.int 9)))))) [some (.int c), some (.int (t : Int)), some (.int (m : Int)), some (.int (c / 2)), none] = some false := by
      by_cases q1 : c % 2 = 1
      · have : ¬ 1000000000 < c := fun z => q ⟨q1, z⟩
        simp [q1, CPow, this]
      · simp [q1]
    rw [seq2 (s1 := [some (.int c), some (.int (t : Int)), some (.int (m : Int)), some (.int (c / 2)), none]) (by rw [sIf_def, this]; rfl)]
    generalize hx1 : c / 2 % 999979 + 1009 * (t : Int) = x1
    have b1 : 0 ≤ x1 ∧ x1 < 2000000 := by
      have h0 := Int.emod_nonneg (c / 2) (show (999979 : Int) ≠ 0 by decide)
      have h1 := Int.emod_lt_of_pos (c / 2) (show (0 : Int) < 999979 by decide)
      omega
    generalize hx2 : (x1 * x1 + 40503 * x1) % 999983 = x2
    have b2 : 0 ≤ x2 ∧ x2 < 2000000 := by
      have h0 := Int.emod_nonneg (x1 * x1 + 40503 * x1) (show (999983 : Int) ≠ 0 by decide)
      have h1 := Int.emod_lt_of_pos (x1 * x1 + 40503 * x1) (show (0 : Int) < 999983 by decide)
      omega
    have cm1 : CMul 1009 (t : Int) := .inl (by omega)
    have cm2 : CMul x1 x1 := .inl (by omega)
    have cm3 : CMul 40503 x1 := .inl (by omega)
    have cm4 : CMul x2 x2 := .inl (by omega)
    have cm5 : CMul 7 (t : Int) := .inl (by omega)
    obtain ⟨v, hv, ev⟩ := fin ((x2 * x2 + 7 * (t : Int)) % 999961 / 11)
    refine ⟨v, hv, ?_⟩
    rw [seq2 (s1 := [some (.int c), some (.int (t : Int)), some (.int (m : Int)), some (.int x1), none]) (by simp [cm1, hx1]), seq2 (s1 := [some (.int c), some (.int (t : Int)), some (.int (m : Int)), some (.int x2), none]) (by simp [cm2, cm3, hx2])]
    simp [cm4, cm5, CDiv, hm, ev]
def tieM (M : List (List Int)) (a b : Nat) (t : Int) : List (List Int) := setM (setM M a b t) b a t
theorem tie_ent {n : Nat} {M : List (List Int)} {a b : Nat} {t : Int} (ok : MatOk n M) (ha : a < n) (hb : b < n) (i j : Nat) : ent (tieM M a b t) i j = if b = i ∧ a = j then t else if a = i ∧ b = j then t else ent M i j := by
  obtain ⟨l1, r1⟩ := shape_setM (t := t) (b := b) ok.len ok.row ha
  unfold tieM
  rw [ent_setM l1 r1 hb ha, ent_setM ok.len ok.row ha hb]
theorem tie_ok {n : Nat} {M : List (List Int)} {a b : Nat} {t : Int} (ok : MatOk n M) (ha : a < n) (hb : b < n) (hab : a ≠ b) (h1 : 0 ≤ t) (h9 : t ≤ 9) : MatOk n (tieM M a b t) := by
  obtain ⟨l1, r1⟩ := shape_setM (t := t) (b := b) ok.len ok.row ha
  obtain ⟨l2, r2⟩ := shape_setM (t := t) (b := a) l1 r1 hb
  have E := tie_ent (t := t) ok ha hb
  refine ⟨l2, r2, fun i j hi hj => ?_, fun i j hi hj => ?_, fun i j hi hj => ?_, fun i hi => ?_⟩
  · have := ok.lo i j hi hj
    rw [E]; split <;> (try split) <;> omega
  · have := ok.hi i j hi hj
    rw [E]; split <;> (try split) <;> omega
  · have := ok.sym i j hi hj
    rw [E, E]
    by_cases p : b = i ∧ a = j
    · rw [if_pos p]
      by_cases p2 : b = j ∧ a = i
      · rw [if_pos p2]
      · rw [if_neg p2, if_pos ⟨p.2, p.1⟩]
    · rw [if_neg p]
      by_cases p2 : a = i ∧ b = j
      · rw [if_pos p2, if_pos ⟨p2.2, p2.1⟩]
      · rw [if_neg p2, if_neg (fun z => p2 ⟨z.2, z.1⟩), if_neg (fun z => p ⟨z.2, z.1⟩)]; exact this
  · rw [E, if_neg (fun z => hab (by omega)), if_neg (fun z => hab (by omega))]; exact ok.dia i hi
theorem l_tie_eq {n : Nat} {M : List (List Int)} {a b : Nat} {k : Int} (ok : MatOk n M) (ha : a < n) (hb : b < n) : D_l_tie [.lst (rL M), .int (a : Int), .int (b : Int), .int k] = some (.lst (rL (tieM M a b (if ent M a b + k < 9 then ent M a b + k else 9)))) := by
  have lenM : (rL M).length = n := by unfold rL; rw [List.length_map]; exact ok.len
  generalize ht : (if ent M a b + k < 9 then ent M a b + k else 9) = t
  have i1 : atI (rL M) (a : Int) = some (.lst (iL (rowOf M a))) := atI_nat (rL_get (by rw [ok.len]; exact ha))
  have i2 : atI (iL (rowOf M a)) (b : Int) = some (.int (ent M a b)) := atI_iL (by rw [ok.row a ha]; exact hb)
  have sh := shape_setM (t := t) (b := b) ok.len ok.row ha
  have lenM2 : (rL (setM M a b t)).length = n := by unfold rL; rw [List.length_map]; exact sh.1
  have e1 : sSet 4 (eP (eCall gMin2 [(eC (.int 9)), (eOp oAdd (eOp gIx (eOp gIx (eVar 0) (eVar 1)) (eVar 2)) (eVar 3))])) [some (.lst (rL M)), some (.int (a : Int)), some (.int (b : Int)), some (.int k), none] = some (.nx [some (.lst (rL M)), some (.int (a : Int)), some (.int (b : Int)), some (.int k), some (.int t)]) := by
    simp [i1, i2, ht]
  have e2 : sSetIx2 0 (eVar 1) (eVar 2) (eVar 4) [some (.lst (rL M)), some (.int (a : Int)), some (.int (b : Int)), some (.int k), some (.int t)] = some (.nx [some (.lst (rL (setM M a b t))), some (.int (a : Int)), some (.int (b : Int)), some (.int k), some (.int t)]) := by
    rw [sSetIx2_eq (l := .int t) (a := (a : Int)) (b := (b : Int)) (j := a) (c := b) (m := rL M) (n := iL (rowOf M a)) rfl rfl rfl rfl (ixN_nat (by rw [lenM]; exact ha)) (rL_get (by rw [ok.len]; exact ha)) (pure_ints _) rfl (ixN_nat (by rw [List.length_map, ok.row a ha]; exact hb)), rL_set]
    rfl
  have e3 : sSetIx2 0 (eVar 2) (eVar 1) (eVar 4) [some (.lst (rL (setM M a b t))), some (.int (a : Int)), some (.int (b : Int)), some (.int k), some (.int t)] = some (.nx [some (.lst (rL (tieM M a b t))), some (.int (a : Int)), some (.int (b : Int)), some (.int k), some (.int t)]) := by
    rw [sSetIx2_eq (l := .int t) (a := (b : Int)) (b := (a : Int)) (j := b) (c := a) (m := rL (setM M a b t)) (n := iL (rowOf (setM M a b t) b)) rfl rfl rfl rfl (ixN_nat (by rw [lenM2]; exact hb)) (rL_get (by rw [sh.1]; exact hb)) (pure_ints _) rfl (ixN_nat (by rw [List.length_map, sh.2 b hb]; exact ha)), rL_set]
    rfl
  show fnC 5 F_l_tie _ = _
  unfold fnC
  rw [if_pos (by rfl)]
  unfold F_l_tie
  show (sSeq _ _ [some (.lst (rL M)), some (.int (a : Int)), some (.int (b : Int)), some (.int k), none]).bind outC = _
  rw [seq2 e1, seq2 e2, e3]
  rfl
end PW
set_option Elab.async false
set_option linter.all false
set_option maxRecDepth 100000
set_option maxHeartbeats 4000000
namespace PW
open L2 VL
theorem sChg_eq {i : Nat} {D : List PV → Option PV} {fs : List XE} {s : PSt} {l0 l' : PV} {ls : List PV} (h0 : s[i]? = some (some l0)) (h1 : evs fs s = some ls) (hp : pureL ls = true) (h2 : D (l0 :: ls) = some l') : sChg i D fs s = some (.nx (s.set i (some l'))) := by
  unfold sChg
  rw [h0]
  simp only [h1, Option.bind_some, hp, if_true, h2, Option.map_some]
theorem rows_comp {s : PSt} {n : Nat} (h : s[3]? = some (some (.int (n : Int)))) (hn : n ≤ 7) : eComp 1 [3] (xRng1 [eVar 3]) (.one 0) xTrue (eOp gRep (eLst [eC (.int 0)]) (eVar 1)) s = some (.lst (rL (List.replicate n (List.replicate n 0)))) := by
  rw [eComp_map (List.range n) (fun (i : Nat) => .int (i : Int)) (fun _ => .lst (iL (List.replicate n 0))) (xRng1_nat (by simp [h]) (by omega)) (by simp; omega) (fun i _ => ⟨_, rfl, rfl, ?_⟩)]
  · unfold rL
    rw [List.map_const', List.length_range, List.map_replicate]
  · have e : gRep (.lst [.int 0]) (.int (n : Int)) = some (.lst (iL (List.replicate n 0))) := by
      show (if pureL [PV.int 0] = true ∧ (-1000000 : Int) ≤ (n : Int) ∧ (n : Int) ≤ 1000000 ∧ [PV.int 0].length * ((n : Int)).toNat ≤ 10000 then some (PV.lst (List.replicate ((n : Int)).toNat [PV.int 0]).flatten) else none) = _
      rw [if_pos ⟨rfl, by omega, by omega, by simp; omega⟩, Int.toNat_natCast, rep_flat]
      simp
    simp [compEnv, h, e]
def Grown (M : List (List Int)) (l : List Int) (k : Nat) : Prop := ∀ j, 1 ≤ j → j < k → ∃ j', j' < j ∧ 0 < ent M (nth l j).toNat (nth l j').toNat
theorem Grown.mono {M M' : List (List Int)} {l : List Int} {k : Nat} (h : Grown M l k) (g : ∀ i j, 0 < ent M i j → 0 < ent M' i j) : Grown M' l k := fun j h1 h2 => by
  obtain ⟨j', a, b⟩ := h j h1 h2
  exact ⟨j', a, g _ _ b⟩
theorem Grown.conn {M : List (List Int)} {l : List Int} {n : Nat} (h : Grown M l n) (hl : M.length = n) (nk : NamesOk n l) : Conn M := by
  intro P hP i j hi hj
  rw [hl] at hi hj
  have h0 : 0 < n := by omega
  have lt : ∀ x, x < n → (nth l x).toNat < M.length := fun x hx => by have := nk.at hx; omega
  have all : ∀ k, k < n → (P (nth l k).toNat ↔ P (nth l 0).toNat) := by
    intro k
    induction k using Nat.strongRecOn with
    | ind k ih =>
      intro hk
      by_cases q : k = 0
      · subst q; exact Iff.rfl
      · obtain ⟨j', a, b⟩ := h k (by omega) hk
        exact (hP _ _ (lt k hk) (lt j' (by omega)) b).trans (ih j' a (by omega))
  have at' : ∀ i, i < n → ∃ x, x < n ∧ (nth l x).toNat = i := fun i hi => by
    have := full (n := n) nk.nd (fun x hx => ⟨x.toNat, by have := nk.hi x hx; have := nk.lo x hx; omega, by have := nk.lo x hx; omega⟩) nk.len hi
    obtain ⟨x, hx, e⟩ := mem_nth this
    exact ⟨x, by rw [← nk.len]; exact hx, by rw [e]; rfl⟩
  obtain ⟨x, hx, rfl⟩ := at' i hi
  obtain ⟨y, hy, rfl⟩ := at' j hj
  exact (all x hx).trans (all y hy).symm
theorem tie_pos {n : Nat} {M : List (List Int)} {a b : Nat} {t : Int} (ok : MatOk n M) (ha : a < n) (hb : b < n) (ht : 0 < t) : (∀ i j, 0 < ent M i j → 0 < ent (tieM M a b t) i j) ∧ 0 < ent (tieM M a b t) a b := by
  refine ⟨fun i j h => ?_, ?_⟩
  · rw [tie_ent ok ha hb]; split
    · exact ht
    · split
      · exact ht
      · exact h
  · rw [tie_ent ok ha hb]; split
    · exact ht
    · rw [if_pos ⟨rfl, rfl⟩]; exact ht
def stW (ns : List Int) (mo n : Nat) (M : List (List Int)) (sp : List Int) (x6 x7 x8 x9 : Option PV) : PSt := [some (.cst (iL ns)), some (.int (mo : Int)), some (.int (cellF ns 0)), some (.int (n : Int)), some (.lst (rL M)), some (.lst (iL sp)), x6, x7, x8, x9]
noncomputable abbrev bW1 : XS := sInsert 5 (eCall D_l_part [(eCall D_m_cell [(eVar 0), (eOp oAdd (eC (.int 6)) (eVar 6))]), (eC (.int 10)), (eOp oAdd (eVar 6) (eC (.int 1)))]) (eVar 6)
noncomputable abbrev bW2 : XS := sSeq (sSet 7 (eCall D_m_cell [(eVar 0), (eVar 6)]))
    (sChg 4 D_l_tie [(eOp gIx (eVar 5) (eVar 6)), (eOp gIx (eVar 5) (eCall D_l_part [(eVar 7), (eC (.int 1)), (eVar 6)])), (eOp oAdd (eC (.int 1)) (eCall D_l_part [(eVar 7), (eC (.int 2)), (eC (.int 3))]))])
noncomputable abbrev bW3 : XS := (sSeq (sSet 7 (eCall D_m_cell [(eVar 0), (eOp oAdd (eC (.int 7)) (eVar 6))]))
    (sSeq (sSet 8 (eCall D_l_part [(eVar 7), (eC (.int 4)), (eVar 3)]))
    (sSeq (sSet 9 (eP (eOp oMod (eOp oAdd (eOp oAdd (eVar 8) (eC (.int 1))) (eCall D_l_part [(eVar 7), (eC (.int 5)), (eOp oSub (eVar 3) (eC (.int 1)))])) (eVar 3))))
    (sChg 4 D_l_tie [(eVar 8), (eVar 9), (eOp oAdd (eC (.int 1)) (eCall D_l_part [(eVar 7), (eC (.int 6)), (eC (.int 2))]))]))))
theorem bW1_eq {ns : List Int} {mo n : Nat} {M : List (List Int)} {sp : List Int} {x7 x8 x9 : Option PV} {i : Nat} (hns : ns.length ≤ 63) (hi : i < 7) (nk : NamesOk i sp) :
    ∃ sp', NamesOk (i + 1) sp' ∧ bW1 (stW ns mo n M sp (some (.int (i : Int))) x7 x8 x9) = some (.nx (stW ns mo n M sp' (some (.int (i : Int))) x7 x8 x9)) := by
  obtain ⟨v, hv, ev⟩ := part_eq (cellF ns (6 + i)) (t := 10) (m := i + 1) (by omega) (by omega)
  have ec := m_cell_eq hns (k := 6 + i) (by omega)
  refine ⟨sp.take v ++ (i : Int) :: sp.drop v, nk.ins v, ?_⟩
  unfold bW1
  rw [sInsert_eq (k := (v : Int)) (l := .int (i : Int)) (m := iL sp) ?_ rfl rfl (pure_ints sp) rfl (by omega) (by omega) (by rw [List.length_map, nk.len]; omega), Int.toNat_natCast, iL_ins]
  · rfl
  · have h1 : ((6 + i : Nat) : Int) = 6 + (i : Int) := by omega
    have h2 : ((i + 1 : Nat) : Int) = (i : Int) + 1 := by omega
    rw [h1] at ec
    rw [h2] at ev
    simp [stW, ec]
    exact ev
theorem bW2_eq {ns : List Int} {mo n : Nat} {M : List (List Int)} {sp : List Int} {x7 x8 x9 : Option PV} {k : Nat} (hns : ns.length ≤ 63) (hn : n ≤ 7) (h1 : 1 ≤ k) (hk : k < n) (nk : NamesOk n sp) (ok : MatOk n M) (gr : Grown M sp k) :
    ∃ M' y7, MatOk n M' ∧ Grown M' sp (k + 1) ∧ bW2 (stW ns mo n M sp (some (.int (k : Int))) x7 x8 x9) = some (.nx (stW ns mo n M' sp (some (.int (k : Int))) y7 x8 x9)) := by
  obtain ⟨v, hv, ev⟩ := part_eq (cellF ns k) (t := 1) (m := k) (by omega) (by omega)
  obtain ⟨w, hw, ew⟩ := part_eq (cellF ns k) (t := 2) (m := 3) (by omega) (by omega)
  have ec := m_cell_eq hns (k := k) (by omega)
  have na := nk.at (x := k) hk
  have nb := nk.at (x := v) (by omega)
  have ne := nk.ne (x := k) (y := v) hk (by omega) (by omega)
  obtain ⟨a, ea⟩ : ∃ a : Nat, nth sp k = (a : Int) := ⟨(nth sp k).toNat, by omega⟩
  obtain ⟨b, eb⟩ : ∃ b : Nat, nth sp v = (b : Int) := ⟨(nth sp v).toNat, by omega⟩
  have ha : a < n := by omega
  have hb : b < n := by omega
  have et := l_tie_eq (k := 1 + (w : Int)) ok ha hb
  have lo := ok.lo a b ha hb
  generalize ht : (if ent M a b + (1 + (w : Int)) < 9 then ent M a b + (1 + (w : Int)) else 9) = t at et
  have t0 : 0 < t ∧ t ≤ 9 := by rw [← ht]; split <;> omega
  have ia := atI_iL (l := sp) (k := k) (by rw [nk.len]; exact hk)
  have ib := atI_iL (l := sp) (k := v) (by rw [nk.len]; omega)
  rw [ea] at ia
  rw [eb] at ib
  obtain ⟨g1, g2⟩ := tie_pos ok ha hb t0.1
  refine ⟨tieM M a b t, some (.int (cellF ns k)), tie_ok ok ha hb (by omega) (by omega) t0.2, fun j h1 h2 => ?_, ?_⟩
  · by_cases q : j < k
    · exact (gr.mono g1) j h1 q
    · have : j = k := by omega
      subst this
      exact ⟨v, hv, by rw [ea, eb]; exact g2⟩
  · have e1 : sSet 7 (eCall D_m_cell [(eVar 0), (eVar 6)]) (stW ns mo n M sp (some (.int (k : Int))) x7 x8 x9) = some (.nx (stW ns mo n M sp (some (.int (k : Int))) (some (.int (cellF ns k))) x8 x9)) := by
      simp [stW, ec]
    unfold bW2
    rw [seq2 e1, sChg_eq (i := 4) (l0 := .lst (rL M)) (ls := [.int (a : Int), .int (b : Int), .int (1 + (w : Int))]) rfl ?_ rfl et]
    · rfl
    · have ev' : D_l_part [PV.int (cellF ns k), PV.int 1, PV.int (k : Int)] = some (.int (v : Int)) := ev
      have ew' : D_l_part [PV.int (cellF ns k), PV.int 2, PV.int 3] = some (.int (w : Int)) := ew
      simp [stW, ia, ib, ev', ew']
theorem bW3_eq {ns : List Int} {mo n : Nat} {M : List (List Int)} {sp : List Int} {x7 x8 x9 : Option PV} {i : Nat} (hns : ns.length ≤ 63) (hn : n ≤ 7) (h2 : 2 ≤ n) (hi : i < 6) (ok : MatOk n M) :
    ∃ M' y7 y8 y9, MatOk n M' ∧ (∀ i j, 0 < ent M i j → 0 < ent M' i j) ∧ bW3 (stW ns mo n M sp (some (.int (i : Int))) x7 x8 x9) = some (.nx (stW ns mo n M' sp (some (.int (i : Int))) y7 y8 y9)) := by
  generalize hc : cellF ns (7 + i) = c
  obtain ⟨a, ha, ea⟩ := part_eq c (t := 4) (m := n) (by omega) (by omega)
  obtain ⟨d, hd, ed⟩ := part_eq c (t := 5) (m := n - 1) (by omega) (by omega)
  obtain ⟨w, hw, ew⟩ := part_eq c (t := 6) (m := 2) (by omega) (by omega)
  have ec := m_cell_eq hns (k := 7 + i) (by omega)
  rw [hc] at ec
  obtain ⟨b, hb, hab, eb⟩ : ∃ b : Nat, b < n ∧ a ≠ b ∧ ((a : Int) + 1 + (d : Int)) % (n : Int) = (b : Int) := by
    refine ⟨(a + 1 + d) % n, Nat.mod_lt _ (by omega), ?_, ?_⟩
    · by_cases q : a + 1 + d < n
      · rw [Nat.mod_eq_of_lt q]; omega
      · rw [Nat.mod_eq_sub_mod (by omega), Nat.mod_eq_of_lt (by omega)]; omega
    · have : ((a : Int) + 1 + (d : Int)) = ((a + 1 + d : Nat) : Int) := by omega
      rw [this]; exact (Int.natCast_emod _ _).symm
  have et := l_tie_eq (k := 1 + (w : Int)) ok ha hb
  have lo := ok.lo a b ha hb
  generalize ht : (if ent M a b + (1 + (w : Int)) < 9 then ent M a b + (1 + (w : Int)) else 9) = t at et
  have t0 : 0 < t ∧ t ≤ 9 := by rw [← ht]; split <;> omega
  obtain ⟨g1, g2⟩ := tie_pos ok ha hb t0.1
  refine ⟨tieM M a b t, some (.int c), some (.int (a : Int)), some (.int (b : Int)), tie_ok ok ha hb hab (by omega) t0.2, g1, ?_⟩
  have h1 : ((7 + i : Nat) : Int) = 7 + (i : Int) := by omega
  rw [h1] at ec
  have e1 : sSet 7 (eCall D_m_cell [(eVar 0), (eOp oAdd (eC (.int 7)) (eVar 6))]) (stW ns mo n M sp (some (.int (i : Int))) x7 x8 x9) = some (.nx (stW ns mo n M sp (some (.int (i : Int))) (some (.int c)) x8 x9)) := by
    simp [stW, ec]
  have ea' : D_l_part [PV.int c, PV.int 4, PV.int (n : Int)] = some (.int (a : Int)) := ea
  have e2 : sSet 8 (eCall D_l_part [(eVar 7), (eC (.int 4)), (eVar 3)]) (stW ns mo n M sp (some (.int (i : Int))) (some (.int c)) x8 x9) = some (.nx (stW ns mo n M sp (some (.int (i : Int))) (some (.int c)) (some (.int (a : Int))) x9)) := by
    simp [stW, ea']
  have hn1 : ((n - 1 : Nat) : Int) = (n : Int) - 1 := by omega
  rw [hn1] at ed
  have ed' : D_l_part [PV.int c, PV.int 5, PV.int ((n : Int) - 1)] = some (.int (d : Int)) := ed
  have n0 : 0 < n := by omega
  have e3 : sSet 9 (eP (eOp oMod (eOp oAdd (eOp oAdd (eVar 8) (eC (.int 1))) (eCall D_l_part [(eVar 7), (eC (.int 5)), (eOp oSub (eVar 3) (eC (.int 1)))])) (eVar 3))) (stW ns mo n M sp (some (.int (i : Int))) (some (.int c)) (some (.int (a : Int))) x9) = some (.nx (stW ns mo n M sp (some (.int (i : Int))) (some (.int c)) (some (.int (a : Int))) (some (.int (b : Int))))) := by
    simp [stW, ed', n0, eb]
  have ew' : D_l_part [PV.int c, PV.int 6, PV.int 2] = some (.int (w : Int)) := ew
  unfold bW3
  rw [seq2 e1, seq2 e2, seq2 e3, sChg_eq (i := 4) (l0 := .lst (rL M)) (ls := [.int (a : Int), .int (b : Int), .int (1 + (w : Int))]) rfl ?_ rfl et]
  · rfl
  · simp [stW, ew']
theorem l_web_eq {ns : List Int} (hns : ns.length ≤ 63) {mo : Nat} (h1 : 1 ≤ mo) (h7 : mo ≤ 7) : ∃ W, D_l_web [.cst (iL ns), .int (mo : Int)] = some (wP W) ∧ WebOk W ∧ Conn W ∧ W.length ≤ mo := by
  obtain ⟨p0, hp0, ep0⟩ := part_eq (cellF ns 0) (t := 0) (m := mo) (by omega) (by omega)
  have ep0' : D_l_part [PV.int (cellF ns 0), PV.int 0, PV.int (mo : Int)] = some (.int (p0 : Int)) := ep0
  have ec0 := m_cell_eq hns (k := 0) (by omega)
  have ec0' : D_m_cell [PV.cst (iL ns), PV.int 0] = some (.int (cellF ns 0)) := ec0
  obtain ⟨n, hn⟩ : ∃ n : Nat, n = 1 + p0 := ⟨_, rfl⟩
  have hn' : (1 : Int) + (p0 : Int) = (n : Int) := by omega
  let Z := List.replicate n (List.replicate n (0 : Int))
  have e1 : sSet 2 (eCall D_m_cell [(eVar 0), (eC (.int 0))]) [some (.cst (iL ns)), some (.int (mo : Int)), none, none, none, none, none, none, none, none] = some (.nx [some (.cst (iL ns)), some (.int (mo : Int)), some (.int (cellF ns 0)), none, none, none, none, none, none, none]) := by simp [ec0']
  have e2 : sSet 3 (eP (eOp oAdd (eC (.int 1)) (eCall D_l_part [(eVar 2), (eC (.int 0)), (eVar 1)]))) [some (.cst (iL ns)), some (.int (mo : Int)), some (.int (cellF ns 0)), none, none, none, none, none, none, none] = some (.nx [some (.cst (iL ns)), some (.int (mo : Int)), some (.int (cellF ns 0)), some (.int (n : Int)), none, none, none, none, none, none]) := by simp [ep0', hn']
  have e3 : sSet 4 (eComp 1 [3] (xRng1 [(eVar 3)]) (.one 0) xTrue (eOp gRep (eLst [(eC (.int 0))]) (eVar 1))) [some (.cst (iL ns)), some (.int (mo : Int)), some (.int (cellF ns 0)), some (.int (n : Int)), none, none, none, none, none, none] = some (.nx [some (.cst (iL ns)), some (.int (mo : Int)), some (.int (cellF ns 0)), some (.int (n : Int)), some (.lst (rL Z)), none, none, none, none, none]) := by
    rw [sSet_def, rows_comp (n := n) rfl (by omega)]; rfl
  have e4 : sSet 5 (eLst []) [some (.cst (iL ns)), some (.int (mo : Int)), some (.int (cellF ns 0)), some (.int (n : Int)), some (.lst (rL Z)), none, none, none, none, none] = some (.nx (stW ns mo n Z [] none none none none)) := by simp [stW]
  -- the houses' order
  obtain ⟨s5, f5, sp, x6, hs5, nk⟩ := forL_inv (T := .one 6) (fb := bW1) (ls := rng0 n) (s := stW ns mo n Z [] none none none none)
    (fun i st => ∃ sp x6, st = stW ns mo n Z sp x6 none none none ∧ NamesOk i sp) ⟨[], none, rfl, NamesOk.nil⟩ (by
      rintro i l st hl ⟨sp, x6, rfl, nk⟩
      obtain ⟨hi, rfl⟩ := rng0_get hl
      obtain ⟨sp', nk', e⟩ := bW1_eq (mo := mo) (n := n) (M := Z) (x7 := none) (x8 := none) (x9 := none) hns (by omega) nk
      exact ⟨_, _, rfl, e, sp', _, rfl, nk'⟩)
  subst hs5
  rw [rng0_len] at nk
  have e5 : sFor [4, 5] (xRng1 [(eVar 3)]) (.one 6) bW1 (stW ns mo n Z [] none none none none) = some (.nx (stW ns mo n Z sp x6 none none none)) := by
    show (xRng1 [eVar 3] (eraseO [4, 5] (stW ns mo n Z [] none none none none))).bind _ = _
    rw [xRng1_nat (n := n) (by simp [stW, eraseO]) (by omega)]; exact f5
  -- each to one ahead
  obtain ⟨s6, f6, M, y6, y7, hs6, okM, gr⟩ := forL_inv (T := .one 6) (fb := bW2) (ls := rngL 1 (n - 1)) (s := stW ns mo n Z sp x6 none none none)
    (fun i st => ∃ M y6 y7, st = stW ns mo n M sp y6 y7 none none ∧ MatOk n M ∧ Grown M sp (i + 1)) ⟨Z, x6, none, rfl, MatOk.zero n, fun j h1 h2 => by omega⟩ (by
      rintro i l st hl ⟨M, y6, y7, rfl, okM, gr⟩
      obtain ⟨hi, rfl⟩ := rngL_get hl
      have hk : (1 : Int) + (i : Int) = ((i + 1 : Nat) : Int) := by omega
      rw [hk]
      obtain ⟨M', z7, ok', gr', e⟩ := bW2_eq (mo := mo) (x7 := y7) (x8 := none) (x9 := none) (k := i + 1) hns (by omega) (by omega) (by omega) nk okM gr
      exact ⟨_, _, rfl, e, M', _, z7, rfl, ok', gr'⟩)
  subst hs6
  rw [rngL_len] at gr
  have e6 : sFor [4, 5] (xRng2 [(eC (.int 1)), (eVar 3)]) (.one 6) bW2 (stW ns mo n Z sp x6 none none none) = some (.nx (stW ns mo n M sp y6 y7 none none)) := by
    show (xRng2 [eC (.int 1), eVar 3] (eraseO [4, 5] (stW ns mo n Z sp x6 none none none))).bind _ = _
    rw [xRng2_int (i := 1) (j := (n : Int)) rfl (by simp [stW, eraseO]) (by omega) (by omega)]
    have : ((n : Int) - 1).toNat = n - 1 := by omega
    rw [this]; exact f6
  have gr0 : Grown M sp n := fun j h1 h2 => gr j h1 (by omega)
  -- more ties
  obtain ⟨p3, hp3, ep3⟩ := part_eq (cellF ns 0) (t := 3) (m := 6) (by omega) (by omega)
  have ep3' : D_l_part [PV.int (cellF ns 0), PV.int 3, PV.int 6] = some (.int (p3 : Int)) := ep3
  have e7 : ∃ M' z6 z7 z8 z9, MatOk n M' ∧ Grown M' sp n ∧ sIf (xB (eOp oGt (eVar 3) (eC (.int 1)))) (sFor [4, 5] (xRng1 [(eCall D_l_part [(eVar 2), (eC (.int 3)), (eC (.int 6))])]) (.one 6) bW3) sNext (stW ns mo n M sp y6 y7 none none) = some (.nx (stW ns mo n M' sp z6 z7 z8 z9)) := by
    by_cases q : 1 < n
    · obtain ⟨s7, f7, M', z6, z7, z8, z9, hs7, ok', gr'⟩ := forL_inv (T := .one 6) (fb := bW3) (ls := rng0 p3) (s := stW ns mo n M sp y6 y7 none none)
        (fun i st => ∃ M' z6 z7 z8 z9, st = stW ns mo n M' sp z6 z7 z8 z9 ∧ MatOk n M' ∧ Grown M' sp n) ⟨M, y6, y7, none, none, rfl, okM, gr0⟩ (by
          rintro i l st hl ⟨M', z6, z7, z8, z9, rfl, ok', gr'⟩
          obtain ⟨hi, rfl⟩ := rng0_get hl
          obtain ⟨M2, u7, u8, u9, ok2, g2, e⟩ := bW3_eq (mo := mo) (sp := sp) (x7 := z7) (x8 := z8) (x9 := z9) (i := i) hns (by omega) (by omega) (by omega) ok'
          exact ⟨_, _, rfl, e, M2, _, u7, u8, u9, rfl, ok2, gr'.mono g2⟩)
      subst hs7
      refine ⟨M', z6, z7, z8, z9, ok', gr', ?_⟩
      have c : xB (eOp oGt (eVar 3) (eC (.int 1))) (stW ns mo n M sp y6 y7 none none) = some true := by
        have q' : (1 : Int) < (n : Int) := by omega
        simp [stW, q, q']
      rw [sIf_def, c]
      simp only [Option.bind_some, if_true]
      show (xRng1 [eCall D_l_part [eVar 2, eC (.int 3), eC (.int 6)]] (eraseO [4, 5] (stW ns mo n M sp y6 y7 none none))).bind _ = _
      rw [xRng1_nat (n := p3) (by simp [stW, eraseO, ep3']) (by omega)]; exact f7
    · refine ⟨M, y6, y7, none, none, okM, gr0, ?_⟩
      have c : xB (eOp oGt (eVar 3) (eC (.int 1))) (stW ns mo n M sp y6 y7 none none) = some false := by
        have q' : ¬ (1 : Int) < (n : Int) := by omega
        simp [stW, q']
      rw [sIf_def, c]; rfl
  obtain ⟨M', z6, z7, z8, z9, ok', gr', e7⟩ := e7
  refine ⟨M', ?_, ok'.web (by omega) (by omega), gr'.conn ok'.len nk, by rw [ok'.len]; omega⟩
  have hc2 : eComp 1 [] (xLst (eVar 4)) (.one 0) xTrue (eCall gTuple [eVar 0]) (stW ns mo n M' sp z6 z7 z8 z9) = some (.lst (M'.map pP)) := by
    rw [eComp_map M' (fun r => .lst (iL r)) pP (by simp [stW, rL]) (by rw [ok'.len]; omega) (fun r _ => ⟨_, rfl, rfl, by simp [compEnv]⟩)]
  show fnD 10 F_l_web _ = _
  unfold F_l_web
  show (sSeq _ _ [some (.cst (iL ns)), some (.int (mo : Int)), none, none, none, none, none, none, none, none]).bind retO = _
  rw [seq2 e1, seq2 e2, seq2 e3, seq2 e4, seq2 e5, seq2 e6, seq2 e7, vRet (v := wP M')]
  · rfl
  · rw [eP_def, eCall_def, evs_cons', hc2]
    simp
end PW
set_option Elab.async false
set_option linter.all false
set_option maxRecDepth 100000
set_option maxHeartbeats 4000000
namespace PW
open L2 VL
theorem log_small {z : Int} (h : z.natAbs < 2 ^ 1000) : z.natAbs.log2 < 67108863 := by
  by_cases h0 : z.natAbs = 0
  · rw [h0]; decide +kernel
  · have := (Nat.log2_lt h0).mpr h
    omega
def nL (l : List Nat) : List Int := l.map fun (i : Nat) => (i : Int)
def tiesTo (W : List (List Int)) (h : Nat) (F : List Nat) : Int := (F.map fun o => ent W h o).sum
def nextB (W : List (List Int)) (D : List Int) (F : List Nat) : Option Nat := (List.range W.length).find? fun h => !decide (h ∈ F) && decide (nth D h < tiesTo W h F)
end PW
set_option Elab.async false
set_option linter.all false
set_option maxRecDepth 100000
set_option maxHeartbeats 4000000
namespace PW
open L2 VL
structure Burn (W : List (List Int)) (D : List Int) (b : Nat) (F : List Nat) : Prop where
  nd : F.Nodup
  lt : ∀ x ∈ F, x < W.length
  hd : F[0]? = some b
  st : ∀ k, 1 ≤ k → k < F.length → nextB W D (F.take k) = F[k]?
theorem Burn.len {W : List (List Int)} {D : List Int} {b : Nat} {F : List Nat} (h : Burn W D b F) : F.length ≤ W.length := by
  have nd : (nL F).Nodup := List.Pairwise.map _ (fun a b z => by omega) h.nd
  have := nodup_le (l := nL F) (m := nL (List.range W.length)) nd fun y hy => by
    obtain ⟨a, ha, rfl⟩ := List.mem_map.mp hy
    exact List.mem_map.mpr ⟨a, List.mem_range.mpr (h.lt a ha), rfl⟩
  simpa [nL] using this
theorem Burn.pos {W : List (List Int)} {D : List Int} {b : Nat} {F : List Nat} (h : Burn W D b F) : 1 ≤ F.length := (List.getElem?_eq_some_iff.mp h.hd).1
theorem Burn.one {W : List (List Int)} {D : List Int} {b : Nat} (hb : b < W.length) : Burn W D b [b] := ⟨by simp, fun x hx => by rw [List.mem_singleton.mp hx]; exact hb, rfl, fun k h1 h2 => by simp at h2; omega⟩
end PW
set_option Elab.async false
set_option linter.all false
set_option maxRecDepth 100000
set_option maxHeartbeats 4000000
set_option Elab.async false
set_option linter.all false
set_option maxRecDepth 100000
set_option maxHeartbeats 4000000
namespace PW
def sN : Nat → (Nat → Int) → Int
  | 0, _ => 0
  | n + 1, f => sN n f + f n
theorem sN_list (f : Nat → Int) (n : Nat) : ((List.range n).map f).sum = sN n f := by
  induction n with
  | zero => rfl
  | succ n ih => rw [List.range_succ, List.map_append, List.sum_append, ih]; simp [sN]
abbrev Mt := Nat → Nat → Int
end PW
set_option Elab.async false
set_option linter.all false
set_option maxRecDepth 100000
set_option maxHeartbeats 4000000
set_option Elab.async false
set_option linter.all false
set_option maxRecDepth 100000
set_option maxHeartbeats 4000000
namespace PW
open L2 VL
theorem log_k {z : Int} (h : z.natAbs < 2 ^ 1000) : z.natAbs.log2 < 1000 := by
  by_cases h0 : z.natAbs = 0
  · rw [h0]; decide +kernel
  · exact (Nat.log2_lt h0).mpr h
theorem CMulW_k {a b : Int} (h : a.natAbs < 2 ^ 1000) (h' : b.natAbs < 2 ^ 1000) : CMulW a b := ⟨by have := log_k h; omega, by have := log_k h'; omega⟩
def rw' (w : Nat) (f : Nat → Int) : List Int := (List.range w).map f
theorem rw_len (w : Nat) (f : Nat → Int) : (rw' w f).length = w := by simp [rw']
theorem nth_rw {w : Nat} {f : Nat → Int} {j : Nat} (h : j < w) : nth (rw' w f) j = f j := nth_map_range h
theorem tupP {l : List Int} : (Option.bind ((Option.bind (some (PV.lst (iL l))) fun x => (evs [] s).map (x :: ·)).bind gTuple) fun l => if pureV l = true then some l else none) = some (pP l) := by
  show (if pureV (pP l) = true then some (pP l) else none) = _
  rw [if_pos (by simp)]
def mtL (m w : Nat) (E : Mt) : List (List Int) := (List.range m).map fun i => rw' w (E i)
theorem mtL_len (m w : Nat) (E : Mt) : (mtL m w E).length = m := by simp [mtL]
def tL (M : List (List Int)) : List PV := M.map pP
theorem tL_mtL (m w : Nat) (E : Mt) : tL (mtL m w E) = (List.range m).map fun i => pP (rw' w (E i)) := by
  unfold tL mtL; rw [List.map_map]; rfl
theorem tL_len (m w : Nat) (E : Mt) : (tL (mtL m w E)).length = m := by simp [tL, mtL_len]
theorem tL_get {m w : Nat} {E : Mt} {i : Nat} (h : i < m) : (tL (mtL m w E))[i]? = some (pP (rw' w (E i))) := by
  rw [tL_mtL, List.getElem?_map, List.getElem?_range h]; rfl
end PW
set_option Elab.async false
set_option linter.all false
set_option maxRecDepth 100000
set_option maxHeartbeats 4000000
namespace PW
open L2 VL
def oth (b i : Nat) : Nat := if i < b then i else i + 1
theorem oth_lt {b i m : Nat} (h : i < m) : oth b i < m + 1 := by unfold oth; split <;> omega
theorem others_list {n b : Nat} (hn : n ≤ 7) (hb : b < n) : (List.range n).filter (fun h => !decide (h = b)) = (List.range (n - 1)).map (oth b) := by
  have : ∀ n, n < 8 → ∀ b, b < 8 → b < n → (List.range n).filter (fun h => !decide (h = b)) = (List.range (n - 1)).map (oth b) := by decide
  exact this n (by omega) b (by omega) hb
def lapA (W : List (List Int)) (b : Nat) : Mt := fun i j => if oth b j = oth b i then (rowOf W (oth b i)).sum else - ent W (oth b i) (oth b j)
def lapX (W : List (List Int)) (b : Nat) (c : Nat → Int) : Mt := fun i j => if j < W.length - 1 then lapA W b i j else c (oth b i)
end PW
set_option Elab.async false
set_option linter.all false
set_option maxRecDepth 100000
set_option maxHeartbeats 4000000
namespace PW
open L2 VL
theorem row_of_eq {W : List (List Int)} {h m : Nat} {f : Nat → Nat} (ok : WebOk W) (hh : h < W.length) (hm : m ≤ 6) (hf : ∀ i, i < m → f i < W.length) :
    D_row_of [wP W, .int (h : Int), .lst (iL (nL ((List.range m).map f)))] = some (pP (rw' m fun j => if f j = h then (rowOf W h).sum else - ent W h (f j))) := by
  have hc : eComp 1 [1, 0] (xLst (eVar 2)) (.one 0) xTrue (eIf (xB (eOp (gEq false) (eVar 0) (eVar 1))) (eCall D_ties_at [(eVar 2), (eVar 1)]) (eUn gNeg (eOp gIx (eOp gIx (eVar 2) (eVar 1)) (eVar 0)))) [some (wP W), some (.int (h : Int)), some (.lst (iL (nL ((List.range m).map f))))] = some (.lst (iL (rw' m fun j => if f j = h then (rowOf W h).sum else - ent W h (f j)))) := by
    rw [eComp_map (List.range m) (fun (j : Nat) => .int ((f j : Nat) : Int)) (fun j => .int (if f j = h then (rowOf W h).sum else - ent W h (f j))) (by simp [nL]) (by simp; omega) (fun j hj => ⟨[some (.int ((f j : Nat) : Int)), some (.int (h : Int)), some (wP W)], rfl, rfl, ?_⟩)]
    · simp [rw']
    · have hj := List.mem_range.mp hj
      have hfj := hf j hj
      by_cases q : f j = h
      · have t : xB (eOp (gEq false) (eVar 0) (eVar 1)) [some (.int ((f j : Nat) : Int)), some (.int (h : Int)), some (wP W)] = some true := by simp [q]
        rw [if_pos q]
        rw [eIf_def, t]
        exact ties_at_eq hh
      · have q' : ¬ ((f j : Nat) : Int) = (h : Int) := by omega
        have t : xB (eOp (gEq false) (eVar 0) (eVar 1)) [some (.int ((f j : Nat) : Int)), some (.int (h : Int)), some (wP W)] = some false := by simp [q']
        rw [if_neg q]
        rw [eIf_def, t]
        have := atI_iL (l := rowOf W h) (k := f j) (by rw [ok.sq h hh]; exact hfj)
        simp [atI_web hh, this, gNeg]
        rfl
  show fnD 3 F_row_of _ = _
  unfold F_row_of
  show (sRet _ [some (wP W), some (.int (h : Int)), some (.lst (iL (nL ((List.range m).map f))))]).bind retO = _
  rw [vRet (v := pP (rw' m fun j => if f j = h then (rowOf W h).sum else - ent W h (f j))) (by rw [eP_def, eCall_def, evs_cons', hc]; exact tupP)]
  rfl
theorem square_without_eq {W : List (List Int)} {b : Nat} (ok : WebOk W) (hb : b < W.length) :
    D_square_without [wP W, .int (b : Int)] = some (wP (mtL (W.length - 1) (W.length - 1) (lapA W b))) := by
  have hp := ok.pos
  have hf := ok.few
  obtain ⟨m, hm⟩ : ∃ m, W.length = m + 1 := ⟨W.length - 1, by omega⟩
  have hm1 : W.length - 1 = m := by omega
  rw [hm1]
  let os := (List.range m).map (oth b)
  have fo : ∀ i, i < m → oth b i < W.length := fun i hi => by rw [hm]; exact oth_lt hi
  have e1 : sSet 2 (eComp 1 [1] (xRng1 [(eCall gLen [(eVar 0)])]) (.one 0) (xB (eOp (gEq true) (eVar 0) (eVar 1))) (eP (eVar 0))) [some (wP W), some (.int (b : Int)), none] = some (.nx [some (wP W), some (.int (b : Int)), some (.lst (iL (nL os)))]) := by
    have hc : eComp 1 [1] (xRng1 [(eCall gLen [(eVar 0)])]) (.one 0) (xB (eOp (gEq true) (eVar 0) (eVar 1))) (eP (eVar 0)) [some (wP W), some (.int (b : Int)), none] = some (.lst (iL (nL os))) := by
      rw [eComp_filter (List.range W.length) (fun (i : Nat) => .int (i : Int)) (fun (i : Nat) => .int (i : Int)) (fun h => !decide (h = b)) (xRng1_nat (n := W.length) (by simp) (by omega)) (by simp; omega) fun y hy => ⟨[some (.int (y : Int)), some (.int (b : Int))], rfl, ?_, fun _ => by simp⟩]
      · rw [others_list hf hb, hm1]
        simp [nL, os]
      · by_cases q : y = b
        · simp [q]
        · have q' : ¬ (y : Int) = (b : Int) := by omega
          simp [q, q']
    rw [sSet_def, hc]; rfl
  have hc : eComp 1 [0, 2] (xLst (eVar 2)) (.one 0) xTrue (eCall D_row_of [(eVar 1), (eVar 0), (eVar 2)]) [some (wP W), some (.int (b : Int)), some (.lst (iL (nL os)))] = some (.lst (tL (mtL m m (lapA W b)))) := by
    rw [eComp_map (List.range m) (fun (i : Nat) => .int ((oth b i : Nat) : Int)) (fun i => pP (rw' m (lapA W b i))) (by simp [nL, os]) (by simp; omega) (fun i hi => ⟨[some (.int ((oth b i : Nat) : Int)), some (wP W), some (.lst (iL (nL os)))], rfl, rfl, ?_⟩), tL_mtL]
    exact row_of_eq (f := oth b) ok (fo i (List.mem_range.mp hi)) (by omega) fo
  show fnD 3 F_square_without _ = _
  unfold F_square_without
  show (sSeq _ _ [some (wP W), some (.int (b : Int)), none]).bind retO = _
  rw [seq2 e1, vRet (v := wP (mtL m m (lapA W b))) (by
    rw [eP_def, eCall_def, evs_cons', hc]
    show (if pureV (wP (mtL m m (lapA W b))) = true then some (wP (mtL m m (lapA W b))) else none) = _
    rw [if_pos (by rw [pureV_tup]; exact pureL_wP _)])]
  rfl
theorem sum_le9 {f : Nat → Int} : ∀ {n : Nat}, (∀ i, i < n → 0 ≤ f i ∧ f i ≤ 9) → 0 ≤ sN n f ∧ sN n f ≤ 9 * n
  | 0, _ => ⟨Int.le_refl _, by show (0 : Int) ≤ _; omega⟩
  | n + 1, h => by
    obtain ⟨a, b⟩ := sum_le9 (n := n) fun i hi => h i (by omega)
    have := h n (by omega)
    refine ⟨?_, ?_⟩
    · show 0 ≤ sN n f + f n; omega
    · show sN n f + f n ≤ _; omega
theorem lap_bound {W : List (List Int)} (ok : WebOk W) {b : Nat} {c : Nat → Int} {i j : Nat} (hi : i < W.length - 1) (hj : j < W.length - 1) : (lapX W b c i j).natAbs ≤ 2 ^ 7 := by
  have hp := ok.pos
  have hf := ok.few
  have h1 : oth b i < W.length := by have := oth_lt (b := b) hi; omega
  have h2 : oth b j < W.length := by have := oth_lt (b := b) hj; omega
  unfold lapX lapA
  rw [if_pos hj]
  split
  · rw [row_sum ok h1, sN_list]
    obtain ⟨a, b⟩ := sum_le9 (f := fun j => ent W (oth b i) j) (n := W.length) fun j hj => ⟨ok.lo _ j h1 hj, ok.hi _ j h1 hj⟩
    omega
  · have := ok.lo _ _ h1 h2
    have := ok.hi _ _ h1 h2
    omega
end PW
set_option Elab.async false
set_option linter.all false
set_option maxRecDepth 100000
set_option maxHeartbeats 4000000
set_option Elab.async false
set_option linter.all false
set_option maxRecDepth 100000
set_option maxHeartbeats 4000000
namespace PW
open L2 VL
theorem l_row_eq {l : List Int} {n : Nat} (h : l.length = n) (hl : n ≤ 1000) : D_l_row [pP l, .int (n : Int)] = some (.bl true) := by
  subst h; exact tuple_eq hl
end PW
set_option Elab.async false
set_option linter.all false
set_option maxRecDepth 100000
set_option maxHeartbeats 4000000
namespace PW
open PySem L2 VL
noncomputable def F_square_of : XS := (sRet (eCall D_square_without [(eVar 0), (eC (.int 0))]))
noncomputable def D_square_of : List PV → Option PV := fnD 1 F_square_of
noncomputable def F_row_by_column : XS := (sRet (eP (eCall gSum [(eComp 2 [2, 1] (xEnum false [(eVar 0)]) (.many [0, 1]) xTrue (eOp oMulW (eVar 1) (eOp gIx (eOp gIx (eVar 3) (eVar 0)) (eVar 2))))])))
noncomputable def D_row_by_column : List PV → Option PV := fnD 3 F_row_by_column
noncomputable def F_row_times : XS := (sRet (eP (eCall gTuple [(eComp 1 [0, 1] (xRng1 [(eCall gLen [(eVar 0)])]) (.one 0) xTrue (eCall D_row_by_column [(eVar 1), (eVar 2), (eVar 0)]))])))
noncomputable def D_row_times : List PV → Option PV := fnD 2 F_row_times
noncomputable def F_multiplied : XS := (sRet (eP (eCall gTuple [(eComp 1 [1] (xTup (eVar 0)) (.one 0) xTrue (eCall D_row_times [(eVar 0), (eVar 1)]))])))
noncomputable def D_multiplied : List PV → Option PV := fnD 2 F_multiplied
noncomputable def F_l_number : XS := (sSeq (sIf (xB (eOp (gEq false) (eOp oMod (eVar 0) (eC (.int 7))) (eC (.int 3)))) (sRet (eP (eOp oSub (eOp oMod (eOp oMulW (eVar 0) (eVar 0)) (eOp oAdd (eOp oMulW (eC (.int 2)) (eOp oPow (eC (.int 10)) (eC (.int 20)))) (eC (.int 1)))) (eOp oPow (eC (.int 10)) (eC (.int 20)))))) sNext)
    (sRet (eP (eOp oSub (eOp oMod (eOp oDivW (eVar 0) (eC (.int 7))) (eC (.int 19))) (eC (.int 9))))))
noncomputable def D_l_number : List PV → Option PV := fnD 1 F_l_number
noncomputable def F_l_drawn : XS := (sSeq (sSet 3 (eLst []))
    (sSeq (sFor [3] (xRng1 [(eVar 2)]) (.one 4) (sAppend 3 (eP (eCall gTuple [(eComp 1 [0, 1, 2, 4] (xRng1 [(eVar 2)]) (.one 0) xTrue (eCall D_l_number [(eCall D_m_cell [(eVar 1), (eOp oAdd (eOp oAdd (eVar 2) (eOp oMul (eVar 3) (eVar 4))) (eVar 0))])]))]))))
    (sRet (eP (eCall gTuple [(eVar 3)])))))
noncomputable def D_l_drawn : List PV → Option PV := fnD 5 F_l_drawn
noncomputable def F_q_square : XS := (sRet (eP (eAnd (eCall gInst [(eVar 0), (eC (.ty "tuple"))]) (eAnd (eOp (gEq false) (eCall gLen [(eVar 0)]) (eVar 1)) (eCall gAll [(eComp 1 [1] (xTup (eVar 0)) (.one 0) xTrue (eCall D_l_row [(eVar 0), (eVar 1)]))])))))
noncomputable def D_q_square : List PV → Option PV := fnD 2 F_q_square
noncomputable def F_l_web_square : XS := (sSeq (sSet 1 (eLst []))
    (sSeq (sFor [1, 3] (xRng2 [(eC (.int 1)), (eCall gLen [(eVar 0)])]) (.one 2) (sSeq (sSet 3 (eComp 1 [0, 2] (xRng2 [(eC (.int 1)), (eCall gLen [(eVar 0)])]) (.one 0) xTrue (eP (eOp oSub (eC (.int 0)) (eOp gIx (eOp gIx (eVar 1) (eVar 2)) (eVar 0))))))
    (sSeq (sSetIx 3 (eOp oSub (eVar 2) (eC (.int 1))) (eCall gSum [(eOp gIx (eVar 0) (eVar 2))]))
    (sAppend 1 (eP (eCall gTuple [(eVar 3)]))))))
    (sRet (eP (eCall gTuple [(eVar 1)])))))
noncomputable def D_l_web_square : List PV → Option PV := fnD 4 F_l_web_square
noncomputable def F_q_times : XS := (sSeq (sSet 2 (eP (eCall gLen [(eVar 0)])))
    (sSeq (sSet 3 (eLst []))
    (sSeq (sFor [3, 5] (xRng1 [(eVar 2)]) (.one 4) (sSeq (sSet 5 (eLst []))
    (sSeq (sFor [3, 5] (xRng1 [(eVar 2)]) (.one 6) (sAppend 5 (eP (eCall gSum [(eComp 1 [6, 0, 4, 1] (xRng1 [(eVar 2)]) (.one 0) xTrue (eOp oMulW (eOp gIx (eOp gIx (eVar 2) (eVar 3)) (eVar 0)) (eOp gIx (eOp gIx (eVar 4) (eVar 0)) (eVar 1))))]))))
    (sAppend 3 (eP (eCall gTuple [(eVar 5)]))))))
    (sRet (eP (eCall gTuple [(eVar 3)]))))))
noncomputable def D_q_times : List PV → Option PV := fnD 7 F_q_times
noncomputable def F_law : XS := (sSeq (sSet 1 (eCall D_l_web [(eVar 0), (eC (.int 7))]))
    (sSeq (sSet 2 (eCall D_square_of [(eVar 1)]))
    (sSeq (sIf (xOr (xNot (xB (eCall D_q_square [(eVar 2), (eOp oSub (eCall gLen [(eVar 1)]) (eC (.int 1)))]))) (xB (eOp (gEq true) (eVar 2) (eCall D_l_web_square [(eVar 1)])))) (sRet (eP (eC (.bl false)))) sNext)
    (sSeq (sSet 3 (eCall D_multiplied [(eVar 2), (eVar 2)]))
    (sSeq (sIf (xOr (xNot (xB (eCall D_q_square [(eVar 3), (eOp oSub (eCall gLen [(eVar 1)]) (eC (.int 1)))]))) (xB (eOp (gEq true) (eVar 3) (eCall D_q_times [(eVar 2), (eVar 2)])))) (sRet (eP (eC (.bl false)))) sNext)
    (sSeq (sSet 4 (eCall D_l_part [(eCall D_m_cell [(eVar 0), (eC (.int 12))]), (eC (.int 7)), (eC (.int 6))]))
    (sSeq (sSet 5 (eCall D_l_drawn [(eVar 0), (eC (.int 13)), (eVar 4)]))
    (sSeq (sSet 6 (eCall D_l_drawn [(eVar 0), (eOp oAdd (eC (.int 13)) (eOp oMul (eVar 4) (eVar 4))), (eVar 4)]))
    (sSeq (sSet 3 (eCall D_multiplied [(eVar 5), (eVar 6)]))
    (sRet (eP (eAnd (eCall D_q_square [(eVar 3), (eVar 4)]) (eOp (gEq false) (eVar 3) (eCall D_q_times [(eVar 5), (eVar 6)]))))))))))))))
noncomputable def D_law : List PV → Option PV := fnD 7 F_law
end PW
set_option Elab.async false
set_option linter.all false
set_option maxRecDepth 100000
set_option maxHeartbeats 4000000
namespace PW
open L2 VL
theorem gEq_same {v : PV} (neg : Bool) (h : cmpb 8 v v = true) : gEq neg v v = some (.bl (!neg)) := by
  unfold gEq
  rw [if_pos h]
  cases neg <;> simp
theorem gEq_ww (neg : Bool) (M : List (List Int)) : gEq neg (wP M) (wP M) = some (.bl (!neg)) := gEq_same neg (cmpb_ww 5 M M)
def mulM (m : Nat) (A B : Mt) : Mt := fun i j => sN m fun k => A i k * B k j
theorem ix_sq {m i j : Nat} {B : Mt} (hi : i < m) (hj : j < m) {f g h : XE} {s : PSt} (h1 : f s = some (wP (mtL m m B))) (h2 : g s = some (.int (i : Int))) (h3 : h s = some (.int (j : Int))) : eOp gIx (eOp gIx f g) h s = some (.int (B i j)) := by
  have a1 : atI ((mtL m m B).map pP) (i : Int) = some (pP (rw' m (B i))) := atI_nat (tL_get hi)
  have a2 := atI_iL (l := rw' m (B i)) (k := j) (by rw [rw_len]; exact hj)
  rw [nth_rw hj] at a2
  have b1 : eOp gIx f g s = some (pP (rw' m (B i))) := by
    rw [eOp_def, h1, h2]; exact a1
  rw [eOp_def, b1, h3]; exact a2
theorem rw_sum (m : Nat) (f : Nat → Int) : (rw' m f).sum = sN m f := sN_list f m
theorem rw_succ (m : Nat) (f : Nat → Int) : rw' (m + 1) f = rw' m f ++ [f m] := by
  unfold rw'; rw [List.range_succ, List.map_append]; rfl
theorem iL_succ (m : Nat) (f : Nat → Int) : iL (rw' (m + 1) f) = iL (rw' m f) ++ [.int (f m)] := by
  rw [rw_succ]; exact List.map_append ..
theorem row_by_column_eq {m j : Nat} {a : Nat → Int} {B : Mt} (hm : m ≤ 6) (hj : j < m) (ha : ∀ k, k < m → (a k).natAbs < 2 ^ 1000) (hB : ∀ k, k < m → (B k j).natAbs < 2 ^ 1000) : D_row_by_column [pP (rw' m a), wP (mtL m m B), .int (j : Int)] = some (.int (sN m fun k => a k * B k j)) := by
  have hx : xEnum false [eVar 0] [some (pP (rw' m a)), some (wP (mtL m m B)), some (.int (j : Int))] = some ((List.range m).map fun (i : Nat) => .tup [.int (i : Int), .int (a i)]) := by
    show some (enumL (iL (rw' m a))) = _
    rw [enumL_range, List.length_map, rw_len]
    congr 1
    apply List.map_congr_left
    intro i hi
    have hi := List.mem_range.mp hi
    rw [iL_getD _ i (by rw [rw_len]; exact hi), nth_rw hi]
  have hc : eComp 2 [2, 1] (xEnum false [(eVar 0)]) (.many [0, 1]) xTrue (eOp oMulW (eVar 1) (eOp gIx (eOp gIx (eVar 3) (eVar 0)) (eVar 2))) [some (pP (rw' m a)), some (wP (mtL m m B)), some (.int (j : Int))] = some (.lst (iL (rw' m fun k => a k * B k j))) := by
    rw [eComp_map (List.range m) (fun (i : Nat) => .tup [.int (i : Int), .int (a i)]) (fun i => .int (a i * B i j)) hx (by simp; omega) (fun i hi => ⟨[some (.int (i : Int)), some (.int (a i)), some (.int (j : Int)), some (wP (mtL m m B))], rfl, rfl, ?_⟩)]
    · simp [rw']
    · have hi := List.mem_range.mp hi
      exact vC (C := CMulW) (op := (· * ·)) (a := a i) (b := B i j) rfl (ix_sq hi hj rfl rfl rfl) (CMulW_k (ha i hi) (hB i hi))
  show fnD 3 F_row_by_column _ = _
  unfold F_row_by_column
  show (sRet _ [some (pP (rw' m a)), some (wP (mtL m m B)), some (.int (j : Int))]).bind retO = _
  rw [vRet (v := .int (sN m fun k => a k * B k j)) (vP (by
    rw [eCall_def, evs_cons', hc]
    show gSum [.lst (iL (rw' m fun k => a k * B k j))] = _
    rw [gSum_l, rw_sum]))]
  rfl
theorem row_times_eq {m : Nat} {a : Nat → Int} {B : Mt} (hm : m ≤ 6) (ha : ∀ k, k < m → (a k).natAbs < 2 ^ 1000) (hB : ∀ k j, k < m → j < m → (B k j).natAbs < 2 ^ 1000) : D_row_times [pP (rw' m a), wP (mtL m m B)] = some (pP (rw' m fun j => sN m fun k => a k * B k j)) := by
  have hc : eComp 1 [0, 1] (xRng1 [(eCall gLen [(eVar 0)])]) (.one 0) xTrue (eCall D_row_by_column [(eVar 1), (eVar 2), (eVar 0)]) [some (pP (rw' m a)), some (wP (mtL m m B))] = some (.lst (iL (rw' m fun j => sN m fun k => a k * B k j))) :=
    comp_ints (fun j => sN m fun k => a k * B k j) (xRng1_nat (n := m) (by simp [rw_len]) (by omega)) (by omega) fun j hj => ⟨[some (.int (j : Int)), some (pP (rw' m a)), some (wP (mtL m m B))], rfl, rfl, row_by_column_eq hm hj ha fun k hk => hB k j hk hj⟩
  show fnD 2 F_row_times _ = _
  unfold F_row_times
  show (sRet _ [some (pP (rw' m a)), some (wP (mtL m m B))]).bind retO = _
  rw [vRet (v := pP (rw' m fun j => sN m fun k => a k * B k j)) (by rw [eP_def, eCall_def, evs_cons', hc]; exact tupP)]
  rfl
theorem tupW {M : List (List Int)} {s : PSt} : (Option.bind ((Option.bind (some (PV.lst (tL M))) fun x => (evs [] s).map (x :: ·)).bind gTuple) fun l => if pureV l = true then some l else none) = some (wP M) := by
  show (if pureV (wP M) = true then some (wP M) else none) = _
  rw [if_pos (by rw [pureV_tup]; exact pureL_wP _)]
theorem multiplied_eq {m : Nat} {A B : Mt} (hm : m ≤ 6) (ha : ∀ i k, i < m → k < m → (A i k).natAbs < 2 ^ 1000) (hB : ∀ k j, k < m → j < m → (B k j).natAbs < 2 ^ 1000) : D_multiplied [wP (mtL m m A), wP (mtL m m B)] = some (wP (mtL m m (mulM m A B))) := by
  have hc : eComp 1 [1] (xTup (eVar 0)) (.one 0) xTrue (eCall D_row_times [(eVar 0), (eVar 1)]) [some (wP (mtL m m A)), some (wP (mtL m m B))] = some (.lst (tL (mtL m m (mulM m A B)))) := by
    have hx : xTup (eVar 0) [some (wP (mtL m m A)), some (wP (mtL m m B))] = some ((List.range m).map fun i => pP (rw' m (A i))) := by
      show some (tL (mtL m m A)) = _
      rw [tL_mtL]
    rw [eComp_map (List.range m) (fun i => pP (rw' m (A i))) (fun i => pP (rw' m (mulM m A B i))) hx (by simp; omega) (fun i hi => ⟨[some (pP (rw' m (A i))), some (wP (mtL m m B))], rfl, rfl, ?_⟩), tL_mtL]
    have hi := List.mem_range.mp hi
    exact row_times_eq hm (fun k hk => ha i k hi hk) hB
  show fnD 2 F_multiplied _ = _
  unfold F_multiplied
  show (sRet _ [some (wP (mtL m m A)), some (wP (mtL m m B))]).bind retO = _
  rw [vRet (v := wP (mtL m m (mulM m A B))) (by rw [eP_def, eCall_def, evs_cons', hc]; exact tupW)]
  rfl
theorem q_times_eq {m : Nat} {A B : Mt} (hm : m ≤ 6) (ha : ∀ i k, i < m → k < m → (A i k).natAbs < 2 ^ 1000) (hB : ∀ k j, k < m → j < m → (B k j).natAbs < 2 ^ 1000) : D_q_times [wP (mtL m m A), wP (mtL m m B)] = some (wP (mtL m m (mulM m A B))) := by
  let a0 : Option PV := some (wP (mtL m m A))
  let b0 : Option PV := some (wP (mtL m m B))
  let M := mulM m A B
  let rows : Nat → Option PV := fun i => some (.lst ((List.range i).map fun i => pP (rw' m (M i))))
  have e1 : sSet 2 (eP (eCall gLen [(eVar 0)])) [a0, b0, none, none, none, none, none] = some (.nx [a0, b0, some (.int (m : Int)), none, none, none, none]) := by
    have : eCall gLen [(eVar 0)] [a0, b0, none, none, none, none, none] = some (.int (m : Int)) := by
      show some (PV.int ((tL (mtL m m A)).length : Int)) = _
      rw [tL_len]
    rw [sSet_def, vP this]; rfl
  let st : Nat → Option PV → Option PV → Option PV → PSt := fun i x4 x5 x6 => [a0, b0, some (.int (m : Int)), rows i, x4, x5, x6]
  let fi : XS := (sAppend 5 (eP (eCall gSum [(eComp 1 [6, 0, 4, 1] (xRng1 [(eVar 2)]) (.one 0) xTrue (eOp oMulW (eOp gIx (eOp gIx (eVar 2) (eVar 3)) (eVar 0)) (eOp gIx (eOp gIx (eVar 4) (eVar 0)) (eVar 1))))])))
  let fb : XS := (sSeq (sSet 5 (eLst []))
    (sSeq (sFor [3, 5] (xRng1 [(eVar 2)]) (.one 6) fi)
    (sAppend 3 (eP (eCall gTuple [(eVar 5)])))))
  obtain ⟨s', f1, x4, x5, x6, hs⟩ := forL_inv (T := .one 4) (fb := fb) (ls := rng0 m) (s := st 0 none none none) (fun i s => ∃ x4 x5 x6, s = st i x4 x5 x6) ⟨none, none, none, rfl⟩ (by
    rintro i l s hl ⟨x4, x5, x6, rfl⟩
    obtain ⟨hi, rfl⟩ := rng0_get hl
    obtain ⟨s2, g1, y6, hs2⟩ := forL_inv (T := .one 6) (fb := fi) (ls := rng0 m) (s := st i (some (.int (i : Int))) (some (.lst (iL (rw' 0 (M i))))) x6) (fun j s => ∃ y6, s = st i (some (.int (i : Int))) (some (.lst (iL (rw' j (M i))))) y6) ⟨x6, rfl⟩ (by
      rintro j l s hl ⟨y6, rfl⟩
      obtain ⟨hj, rfl⟩ := rng0_get hl
      refine ⟨st i (some (.int (i : Int))) (some (.lst (iL (rw' j (M i))))) (some (.int (j : Int))), _, rfl, ?_, some (.int (j : Int)), rfl⟩
      have hc : eComp 1 [6, 0, 4, 1] (xRng1 [(eVar 2)]) (.one 0) xTrue (eOp oMulW (eOp gIx (eOp gIx (eVar 2) (eVar 3)) (eVar 0)) (eOp gIx (eOp gIx (eVar 4) (eVar 0)) (eVar 1))) (st i (some (.int (i : Int))) (some (.lst (iL (rw' j (M i))))) (some (.int (j : Int)))) = some (.lst (iL (rw' m fun k => A i k * B k j))) :=
        comp_ints (fun k => A i k * B k j) (xRng1_nat (n := m) rfl (by omega)) (by omega) fun k hk => ⟨[some (.int (k : Int)), some (.int (j : Int)), a0, some (.int (i : Int)), b0], rfl, rfl,
          vC (C := CMulW) (op := (· * ·)) (a := A i k) (b := B k j) (ix_sq hi hk rfl rfl rfl) (ix_sq hk hj rfl rfl rfl) (CMulW_k (ha i k hi hk) (hB k j hk hj))⟩
      show sAppend 5 _ _ = _
      rw [sAppend_eq (l := .int (M i j)) (m := iL (rw' j (M i))) (vP (by
        rw [eCall_def, evs_cons', hc]
        show gSum [.lst (iL (rw' m fun k => A i k * B k j))] = _
        rw [gSum_l, rw_sum]; rfl)) rfl (by rw [List.length_map, rw_len]; omega), iL_succ]
      rfl)
    subst hs2
    rw [rng0_len] at g1
    refine ⟨st i (some (.int (i : Int))) x5 x6, st (i + 1) (some (.int (i : Int))) (some (.lst (iL (rw' m (M i))))) y6, rfl, ?_, _, _, _, rfl⟩
    have q1 : sSet 5 (eLst []) (st i (some (.int (i : Int))) x5 x6) = some (.nx (st i (some (.int (i : Int))) (some (.lst (iL (rw' 0 (M i))))) x6)) := rfl
    have q2 : sFor [3, 5] (xRng1 [(eVar 2)]) (.one 6) fi (st i (some (.int (i : Int))) (some (.lst (iL (rw' 0 (M i))))) x6) = some (.nx (st i (some (.int (i : Int))) (some (.lst (iL (rw' m (M i))))) y6)) := by
      show (xRng1 [(eVar 2)] (eraseO [3, 5] (st i (some (.int (i : Int))) (some (.lst (iL (rw' 0 (M i))))) x6))).bind _ = _
      rw [xRng1_nat (n := m) rfl (by omega)]; exact g1
    show sSeq _ _ _ = _
    rw [seq2 q1, seq2 q2]
    rw [sAppend_eq (l := pP (rw' m (M i))) (m := (List.range i).map fun i => pP (rw' m (M i))) (by rw [eP_def]; exact tupP) rfl (by simp; omega)]
    show some (Out.nx [a0, b0, some (.int (m : Int)), some (.lst (((List.range i).map fun i => pP (rw' m (M i))) ++ [pP (rw' m (M i))])), _, _, _]) = some (Out.nx [a0, b0, some (.int (m : Int)), some (.lst ((List.range (i + 1)).map fun i => pP (rw' m (M i)))), _, _, _])
    rw [List.range_succ, List.map_append]; rfl)
  subst hs
  rw [rng0_len] at f1
  have e2 : sSet 3 (eLst []) [a0, b0, some (.int (m : Int)), none, none, none, none] = some (.nx (st 0 none none none)) := rfl
  have e3 : sFor [3, 5] (xRng1 [(eVar 2)]) (.one 4) fb (st 0 none none none) = some (.nx (st m x4 x5 x6)) := by
    show (xRng1 [(eVar 2)] (eraseO [3, 5] (st 0 none none none))).bind _ = _
    rw [xRng1_nat (n := m) rfl (by omega)]; exact f1
  show fnD 7 F_q_times _ = _
  unfold F_q_times
  show (sSeq _ _ [a0, b0, none, none, none, none, none]).bind retO = _
  rw [seq2 e1, seq2 e2, seq2 e3]
  rw [vRet (v := wP (mtL m m M)) (by
    rw [eP_def]
    show (Option.bind (gTuple [.lst ((List.range m).map fun i => pP (rw' m (M i)))]) fun l => if pureV l = true then some l else none) = _
    rw [← tL_mtL]
    exact tupW (s := []))]
  rfl
theorem q_square_eq {m : Nat} {E : Mt} (hm : m ≤ 6) : D_q_square [wP (mtL m m E), .int (m : Int)] = some (.bl true) := by
  have hc : eComp 1 [1] (xTup (eVar 0)) (.one 0) xTrue (eCall D_l_row [(eVar 0), (eVar 1)]) [some (wP (mtL m m E)), some (.int (m : Int))] = some (.lst (((List.range m).map fun _ => true).map PV.bl)) := by
    have hx : xTup (eVar 0) [some (wP (mtL m m E)), some (.int (m : Int))] = some ((List.range m).map fun i => pP (rw' m (E i))) := by
      show some (tL (mtL m m E)) = _
      rw [tL_mtL]
    rw [eComp_map (List.range m) (fun i => pP (rw' m (E i))) (fun _ => .bl true) hx (by simp; omega) (fun i hi => ⟨[some (pP (rw' m (E i))), some (.int (m : Int))], rfl, rfl, l_row_eq (rw_len _ _) (by omega)⟩), List.map_map]
    rfl
  have ha : eCall gAll [(eComp 1 [1] (xTup (eVar 0)) (.one 0) xTrue (eCall D_l_row [(eVar 0), (eVar 1)]))] [some (wP (mtL m m E)), some (.int (m : Int))] = some (.bl true) := by
    rw [eCall_def, evs_cons', hc]
    show gAll [.lst (((List.range m).map fun _ => true).map PV.bl)] = _
    rw [gAll_l]
    simp
  have hl : eCall gLen [(eVar 0)] [some (wP (mtL m m E)), some (.int (m : Int))] = some (.int (m : Int)) := by
    show some (PV.int ((tL (mtL m m E)).length : Int)) = _
    rw [tL_len]
  have hq : eOp (gEq false) (eCall gLen [(eVar 0)]) (eVar 1) [some (wP (mtL m m E)), some (.int (m : Int))] = some (.bl true) := by
    rw [eOp_def, hl]
    show gEq false (.int (m : Int)) (.int (m : Int)) = _
    simp
  have hi : eCall gInst [(eVar 0), (eC (.ty "tuple"))] [some (wP (mtL m m E)), some (.int (m : Int))] = some (.bl true) := by
    generalize mtL m m E = M
    simp
  show fnD 2 F_q_square _ = _
  unfold F_q_square
  show (sRet _ [some (wP (mtL m m E)), some (.int (m : Int))]).bind retO = _
  rw [vRet (v := .bl true) (by
    have hi' : xB (eCall gInst [(eVar 0), (eC (.ty "tuple"))]) [some (wP (mtL m m E)), some (.int (m : Int))] = some true := by rw [xB_def, hi]; rfl
    have hq' : xB (eOp (gEq false) (eCall gLen [(eVar 0)]) (eVar 1)) [some (wP (mtL m m E)), some (.int (m : Int))] = some true := by rw [xB_def, hq]; rfl
    rw [eP_def, eAnd_def, hi']
    simp only [Option.bind_some, if_true]
    rw [eAnd_def, hq']
    simp only [Option.bind_some, if_true]
    rw [ha]
    rfl)]
  rfl
theorem l_web_square_eq {W : List (List Int)} (ok : WebOk W) : D_l_web_square [wP W] = some (wP (mtL (W.length - 1) (W.length - 1) (lapA W 0))) := by
  have hp := ok.pos
  have hf := ok.few
  obtain ⟨m, hm⟩ : ∃ m, W.length = m + 1 := ⟨W.length - 1, by omega⟩
  have hm1 : W.length - 1 = m := by omega
  rw [hm1]
  let M := lapA W 0
  let rows : Nat → Option PV := fun i => some (.lst ((List.range i).map fun i => pP (rw' m (M i))))
  let st : Nat → Option PV → Option PV → PSt := fun i x2 x3 => [some (wP W), rows i, x2, x3]
  have len : ∀ s : PSt, s[0]? = some (some (wP W)) → eCall gLen [(eVar 0)] s = some (.int (W.length : Int)) := fun s h => by
    have : eVar 0 s = some (wP W) := by
      show s[0]?.bind id = _
      rw [h]; rfl
    rw [eCall_def, evs_cons', this]
    show some (PV.int ((W.map pP).length : Int)) = _
    rw [List.length_map]
  have rg : ∀ s : PSt, s[0]? = some (some (wP W)) → xRng2 [(eC (.int 1)), (eCall gLen [(eVar 0)])] s = some (rngL 1 m) := fun s h => by
    rw [xRng2_int (i := 1) (j := (W.length : Int)) rfl (len s h) ⟨by omega, by omega⟩ ⟨by omega, by omega⟩, hm]
    congr 2
    omega
  let fb : XS := (sSeq (sSet 3 (eComp 1 [0, 2] (xRng2 [(eC (.int 1)), (eCall gLen [(eVar 0)])]) (.one 0) xTrue (eP (eOp oSub (eC (.int 0)) (eOp gIx (eOp gIx (eVar 1) (eVar 2)) (eVar 0))))))
    (sSeq (sSetIx 3 (eOp oSub (eVar 2) (eC (.int 1))) (eCall gSum [(eOp gIx (eVar 0) (eVar 2))]))
    (sAppend 1 (eP (eCall gTuple [(eVar 3)])))))
  obtain ⟨s', f1, x2, x3, hs⟩ := forL_inv (T := .one 2) (fb := fb) (ls := rngL 1 m) (s := st 0 none none) (fun i s => ∃ x2 x3, s = st i x2 x3) ⟨none, none, rfl⟩ (by
    rintro i l s hl ⟨x2, x3, rfl⟩
    obtain ⟨hi, rfl⟩ := rngL_get hl
    have hh : i + 1 < W.length := by omega
    have ci : (1 : Int) + (i : Int) = ((i + 1 : Nat) : Int) := by omega
    rw [ci]
    let r0 : Nat → Int := fun j => 0 - ent W (i + 1) (j + 1)
    have hc : eComp 1 [0, 2] (xRng2 [(eC (.int 1)), (eCall gLen [(eVar 0)])]) (.one 0) xTrue (eP (eOp oSub (eC (.int 0)) (eOp gIx (eOp gIx (eVar 1) (eVar 2)) (eVar 0)))) (st i (some (.int ((i + 1 : Nat) : Int))) x3) = some (.lst (iL (rw' m r0))) := by
      rw [eComp_map (List.range m) (fun (j : Nat) => .int (1 + (j : Int))) (fun j => .int (r0 j)) (rg _ rfl) (by simp; omega) (fun j hj => ⟨[some (.int (1 + (j : Int))), some (wP W), some (.int ((i + 1 : Nat) : Int))], rfl, rfl, ?_⟩)]
      · simp [rw']
      · have hj := List.mem_range.mp hj
        have cj : (1 : Int) + (j : Int) = ((j + 1 : Nat) : Int) := by omega
        have a1 : atI (W.map pP) ((i + 1 : Nat) : Int) = some (pP (rowOf W (i + 1))) := atI_web hh
        have a2 := atI_iL (l := rowOf W (i + 1)) (k := j + 1) (by rw [ok.sq _ hh]; omega)
        have a3 : eOp gIx (eVar 1) (eVar 2) [some (.int (1 + (j : Int))), some (wP W), some (.int ((i + 1 : Nat) : Int))] = some (pP (rowOf W (i + 1))) := a1
        have a4 : eOp gIx (eOp gIx (eVar 1) (eVar 2)) (eVar 0) [some (.int (1 + (j : Int))), some (wP W), some (.int ((i + 1 : Nat) : Int))] = some (.int (ent W (i + 1) (j + 1))) := by
          rw [eOp_def, a3]
          show atI (iL (rowOf W (i + 1))) (1 + (j : Int)) = _
          rw [cj]; exact a2
        exact vP (vI (op := (· - ·)) (a := 0) rfl a4)
    have q1 : sSet 3 (eComp 1 [0, 2] (xRng2 [(eC (.int 1)), (eCall gLen [(eVar 0)])]) (.one 0) xTrue (eP (eOp oSub (eC (.int 0)) (eOp gIx (eOp gIx (eVar 1) (eVar 2)) (eVar 0))))) (st i (some (.int ((i + 1 : Nat) : Int))) x3) = some (.nx (st i (some (.int ((i + 1 : Nat) : Int))) (some (.lst (iL (rw' m r0)))))) := by
      rw [sSet_def, hc]; rfl
    have hset : (rw' m r0).set i (rowOf W (i + 1)).sum = rw' m (M i) := by
      refine ext_nth (by rw [List.length_set, rw_len, rw_len]) fun j hj => ?_
      rw [List.length_set, rw_len] at hj
      rw [PW.nth_set (by rw [rw_len]; exact hj), nth_rw hj, nth_rw hj]
      show _ = lapA W 0 i j
      have o0 : ∀ k, oth 0 k = k + 1 := fun k => by unfold oth; rw [if_neg (by omega)]
      unfold lapA
      rw [o0, o0]
      by_cases q : j = i
      · rw [if_pos q, if_pos (by omega)]
      · rw [if_neg q, if_neg (by omega)]
        show 0 - ent W (i + 1) (j + 1) = _
        omega
    have q2 : sSetIx 3 (eOp oSub (eVar 2) (eC (.int 1))) (eCall gSum [(eOp gIx (eVar 0) (eVar 2))]) (st i (some (.int ((i + 1 : Nat) : Int))) (some (.lst (iL (rw' m r0))))) = some (.nx (st i (some (.int ((i + 1 : Nat) : Int))) (some (.lst (iL (rw' m (M i))))))) := by
      have hk : eOp oSub (eVar 2) (eC (.int 1)) (st i (some (.int ((i + 1 : Nat) : Int))) (some (.lst (iL (rw' m r0))))) = some (.int (i : Int)) := by
        rw [vI (op := (· - ·)) (a := ((i + 1 : Nat) : Int)) (b := 1) rfl rfl]
        congr 2
        show ((i + 1 : Nat) : Int) - 1 = _
        omega
      have hv : eCall gSum [(eOp gIx (eVar 0) (eVar 2))] (st i (some (.int ((i + 1 : Nat) : Int))) (some (.lst (iL (rw' m r0))))) = some (.int (rowOf W (i + 1)).sum) := by
        have a1 : atI (W.map pP) ((i + 1 : Nat) : Int) = some (pP (rowOf W (i + 1))) := atI_web hh
        have a2 : eOp gIx (eVar 0) (eVar 2) (st i (some (.int ((i + 1 : Nat) : Int))) (some (.lst (iL (rw' m r0))))) = some (pP (rowOf W (i + 1))) := a1
        rw [eCall_def, evs_cons', a2]
        show gSum [.tup (iL (rowOf W (i + 1)))] = _
        rw [gSum_t]
      rw [sSetIx_eq (m := iL (rw' m r0)) (j := i) hv hk rfl (pure_ints _) rfl (ixN_nat (by rw [List.length_map, rw_len]; exact hi))]
      rw [show (iL (rw' m r0)).set i (.int (rowOf W (i + 1)).sum) = iL (rw' m (M i)) by rw [← hset]; exact (List.map_set ..).symm]
      rfl
    refine ⟨st i (some (.int ((i + 1 : Nat) : Int))) x3, st (i + 1) (some (.int ((i + 1 : Nat) : Int))) (some (.lst (iL (rw' m (M i))))), rfl, ?_, _, _, rfl⟩
    show sSeq _ _ _ = _
    rw [seq2 q1, seq2 q2]
    rw [sAppend_eq (l := pP (rw' m (M i))) (m := (List.range i).map fun i => pP (rw' m (M i))) (by rw [eP_def]; exact tupP) rfl (by simp; omega)]
    show some (Out.nx [some (wP W), some (.lst (((List.range i).map fun i => pP (rw' m (M i))) ++ [pP (rw' m (M i))])), _, _]) = some (Out.nx [some (wP W), some (.lst ((List.range (i + 1)).map fun i => pP (rw' m (M i)))), _, _])
    rw [List.range_succ, List.map_append]; rfl)
  subst hs
  rw [show (rngL 1 m).length = m by simp [rngL]] at f1
  have e1 : sSet 1 (eLst []) [some (wP W), none, none, none] = some (.nx (st 0 none none)) := rfl
  have e3 : sFor [1, 3] (xRng2 [(eC (.int 1)), (eCall gLen [(eVar 0)])]) (.one 2) fb (st 0 none none) = some (.nx (st m x2 x3)) := by
    show (xRng2 [(eC (.int 1)), (eCall gLen [(eVar 0)])] (eraseO [1, 3] (st 0 none none))).bind _ = _
    rw [rg _ rfl]; exact f1
  show fnD 4 F_l_web_square _ = _
  unfold F_l_web_square
  show (sSeq _ _ [some (wP W), none, none, none]).bind retO = _
  rw [seq2 e1, seq2 e3]
  rw [vRet (v := wP (mtL m m M)) (by
    rw [eP_def]
    show (Option.bind (gTuple [.lst ((List.range m).map fun i => pP (rw' m (M i)))]) fun l => if pureV l = true then some l else none) = _
    rw [← tL_mtL]
    exact tupW (s := []))]
  rfl
def numF (c : Int) : Int := if c % 7 = 3 then c * c % (2 * 10 ^ 20 + 1) - 10 ^ 20 else c.fdiv 7 % 19 - 9
theorem l_number_eq {c : Int} (h : c.natAbs.log2 ≤ 1048576) : D_l_number [.int c] = some (.int (numF c)) := by
  have c1 : CMulW c c := ⟨by omega, by omega⟩
  have c2 : CMulW 2 (10 ^ 20) := ⟨log_small (by decide), log_small (by decide)⟩
  have c3 : CDivW c 7 := ⟨by decide, by decide +kernel⟩
  have p : ∀ s : PSt, eOp oPow (eC (.int 10)) (eC (.int 20)) s = some (.int (10 ^ 20)) := fun s => vC (a := 10) (b := 20) (C := CPow) (op := fun i j => i ^ j.toNat) rfl rfl (by decide)
  show fnD 1 F_l_number _ = _
  unfold F_l_number numF
  show (sSeq _ _ [some (.int c)]).bind retO = _
  by_cases h4 : c % 7 = 3
  · rw [if_pos h4, seqR (v := .int (c * c % (2 * 10 ^ 20 + 1) - 10 ^ 20))]
    · rfl
    · have t : xB (eOp (gEq false) (eOp oMod (eVar 0) (eC (.int 7))) (eC (.int 3))) [some (.int c)] = some true := by simp [h4]
      rw [sIf_def, t]
      simp only [Option.bind_some, if_true]
      exact vRet (vP (vI (vC (vC rfl rfl c1) (vI (vC rfl (p _) c2) rfl) (by decide)) (p _)))
  · have t : xB (eOp (gEq false) (eOp oMod (eVar 0) (eC (.int 7))) (eC (.int 3))) [some (.int c)] = some false := by simp [h4]
    rw [if_neg h4, seq2 (s1 := [some (.int c)]) (by rw [sIf_def, t]; rfl), vRet (vP (vI (vC (vC rfl rfl c3) rfl (by decide)) rfl))]
    rfl
theorem num_bound (c : Int) : (numF c).natAbs < 2 ^ 1000 := by
  have hb : (10 ^ 21 : Nat) < 2 ^ 1000 := by decide +kernel
  have : (numF c).natAbs ≤ 10 ^ 21 := by
    unfold numF
    split
    · have h0 := Int.emod_nonneg (c * c) (show (2 * 10 ^ 20 + 1 : Int) ≠ 0 by decide)
      have h1 := Int.emod_lt_of_pos (c * c) (show (0 : Int) < 2 * 10 ^ 20 + 1 by decide)
      omega
    · have h0 := Int.emod_nonneg (c.fdiv 7) (show (19 : Int) ≠ 0 by decide)
      have h1 := Int.emod_lt_of_pos (c.fdiv 7) (show (0 : Int) < 19 by decide)
      omega
  exact Nat.lt_of_le_of_lt this hb
theorem l_drawn_eq {ns : List Int} (hns : ns.length ≤ 63) (hb : ∀ n ∈ ns, n.natAbs.log2 ≤ 1048576) {a m : Nat} (ha : a ≤ 60) (hm : m ≤ 5) : D_l_drawn [.cst (iL ns), .int (a : Int), .int (m : Int)] = some (wP (mtL m m fun k j => numF (cellF ns (a + m * k + j)))) := by
  let M : Mt := fun k j => numF (cellF ns (a + m * k + j))
  let rows : Nat → Option PV := fun i => some (.lst ((List.range i).map fun i => pP (rw' m (M i))))
  let st : Nat → Option PV → PSt := fun i x4 => [some (.cst (iL ns)), some (.int (a : Int)), some (.int (m : Int)), rows i, x4]
  let fb : XS := (sAppend 3 (eP (eCall gTuple [(eComp 1 [0, 1, 2, 4] (xRng1 [(eVar 2)]) (.one 0) xTrue (eCall D_l_number [(eCall D_m_cell [(eVar 1), (eOp oAdd (eOp oAdd (eVar 2) (eOp oMul (eVar 3) (eVar 4))) (eVar 0))])]))])))
  obtain ⟨s', f1, x4, hs⟩ := forL_inv (T := .one 4) (fb := fb) (ls := rng0 m) (s := st 0 none) (fun i s => ∃ x4, s = st i x4) ⟨none, rfl⟩ (by
    rintro k l s hl ⟨x4, rfl⟩
    obtain ⟨hk, rfl⟩ := rng0_get hl
    have cm : CMul (m : Int) (k : Int) := by
      have : m = 0 ∨ m = 1 ∨ m = 2 ∨ m = 3 ∨ m = 4 ∨ m = 5 := by omega
      have : k = 0 ∨ k = 1 ∨ k = 2 ∨ k = 3 ∨ k = 4 := by omega
      rcases ‹m = 0 ∨ _› with rfl | rfl | rfl | rfl | rfl | rfl <;> rcases ‹k = 0 ∨ _› with rfl | rfl | rfl | rfl | rfl <;> decide
    have hmk : m * k ≤ 20 := Nat.le_trans (Nat.mul_le_mul hm (show k ≤ 4 by omega)) (by omega)
    have hc : eComp 1 [0, 1, 2, 4] (xRng1 [(eVar 2)]) (.one 0) xTrue (eCall D_l_number [(eCall D_m_cell [(eVar 1), (eOp oAdd (eOp oAdd (eVar 2) (eOp oMul (eVar 3) (eVar 4))) (eVar 0))])]) (st k (some (.int (k : Int)))) = some (.lst (iL (rw' m (M k)))) :=
      comp_ints (M k) (xRng1_nat (n := m) rfl (by omega)) (by omega) fun j hj => ⟨[some (.int (j : Int)), some (.cst (iL ns)), some (.int (a : Int)), some (.int (m : Int)), some (.int (k : Int))], rfl, rfl, by
        have e1 := m_cell_eq hns (k := a + m * k + j) (by omega)
        have i1 : eOp oAdd (eOp oAdd (eVar 2) (eOp oMul (eVar 3) (eVar 4))) (eVar 0) [some (.int (j : Int)), some (.cst (iL ns)), some (.int (a : Int)), some (.int (m : Int)), some (.int (k : Int))] = some (.int ((a + m * k + j : Nat) : Int)) := by
          rw [vI (op := (· + ·)) (a := (a : Int) + (m : Int) * (k : Int)) (b := (j : Int)) (vI (op := (· + ·)) (a := (a : Int)) rfl (vC (C := CMul) (op := (· * ·)) rfl rfl cm)) rfl]
          congr 2
        have i2 : eCall D_m_cell [(eVar 1), (eOp oAdd (eOp oAdd (eVar 2) (eOp oMul (eVar 3) (eVar 4))) (eVar 0))] [some (.int (j : Int)), some (.cst (iL ns)), some (.int (a : Int)), some (.int (m : Int)), some (.int (k : Int))] = some (.int (cellF ns (a + m * k + j))) := by
          rw [eCall_def, evs_cons', evs_cons', i1]; exact e1
        rw [eCall_def, evs_cons', i2]
        exact l_number_eq (cell_log hb _)⟩
    refine ⟨st k (some (.int (k : Int))), st (k + 1) (some (.int (k : Int))), rfl, ?_, _, rfl⟩
    show sAppend 3 _ _ = _
    rw [sAppend_eq (l := pP (rw' m (M k))) (m := (List.range k).map fun i => pP (rw' m (M i))) (by rw [eP_def, eCall_def, evs_cons', hc]; exact tupP) rfl (by simp; omega)]
    show some (Out.nx [_, _, _, some (.lst (((List.range k).map fun i => pP (rw' m (M i))) ++ [pP (rw' m (M k))])), _]) = some (Out.nx [_, _, _, some (.lst ((List.range (k + 1)).map fun i => pP (rw' m (M i)))), _])
    rw [List.range_succ, List.map_append]; rfl)
  subst hs
  rw [rng0_len] at f1
  have e1 : sSet 3 (eLst []) [some (.cst (iL ns)), some (.int (a : Int)), some (.int (m : Int)), none, none] = some (.nx (st 0 none)) := rfl
  have e3 : sFor [3] (xRng1 [(eVar 2)]) (.one 4) fb (st 0 none) = some (.nx (st m x4)) := by
    show (xRng1 [(eVar 2)] (eraseO [3] (st 0 none))).bind _ = _
    rw [xRng1_nat (n := m) rfl (by omega)]; exact f1
  show fnD 5 F_l_drawn _ = _
  unfold F_l_drawn
  show (sSeq _ _ [some (.cst (iL ns)), some (.int (a : Int)), some (.int (m : Int)), none, none]).bind retO = _
  rw [seq2 e1, seq2 e3]
  rw [vRet (v := wP (mtL m m M)) (by
    rw [eP_def]
    show (Option.bind (gTuple [.lst ((List.range m).map fun i => pP (rw' m (M i)))]) fun l => if pureV l = true then some l else none) = _
    rw [← tL_mtL]
    exact tupW (s := []))]
  rfl
theorem square_of_eq {W : List (List Int)} (ok : WebOk W) : D_square_of [wP W] = some (wP (mtL (W.length - 1) (W.length - 1) (lapA W 0))) := by
  have h := square_without_eq ok (b := 0) ok.pos
  show fnD 1 F_square_of _ = _
  unfold F_square_of
  show (sRet _ [some (wP W)]).bind retO = _
  rw [vRet (v := wP (mtL (W.length - 1) (W.length - 1) (lapA W 0))) h]
  rfl
theorem lapA_big {W : List (List Int)} (ok : WebOk W) (i j : Nat) (hi : i < W.length - 1) (hj : j < W.length - 1) : (lapA W 0 i j).natAbs < 2 ^ 1000 := by
  have := lap_bound ok (b := 0) (c := fun _ => 0) hi hj
  unfold lapX at this
  rw [if_pos hj] at this
  exact Nat.lt_of_le_of_lt this (by decide +kernel)
theorem law_true (ns : List Int) (hns : ns.length ≤ 63) (hbd : ∀ n ∈ ns, n.natAbs.log2 ≤ 1048576) : D_law [.cst (iL ns)] = some (.bl true) := by
  obtain ⟨W, eW, ok, cn, hm⟩ := l_web_eq hns (mo := 7) (by omega) (by omega)
  have eW' : D_l_web [PV.cst (iL ns), PV.int 7] = some (wP W) := eW
  have hf := ok.few
  have hp := ok.pos
  obtain ⟨m, hW⟩ : ∃ m, W.length = m + 1 := ⟨W.length - 1, by omega⟩
  have hm1 : W.length - 1 = m := by omega
  have eq := square_of_eq ok
  have ews := l_web_square_eq ok
  have big := lapA_big ok
  rw [hm1] at eq ews big
  generalize lapA W 0 = A at eq ews big
  have em := multiplied_eq (A := A) (B := A) (by omega) big big
  have et := q_times_eq (A := A) (B := A) (by omega) big big
  have es := q_square_eq (m := m) (E := A) (by omega)
  have es2 := q_square_eq (m := m) (E := mulM m A A) (by omega)
  have ec : D_m_cell [PV.cst (iL ns), PV.int 12] = some (.int (cellF ns 12)) := m_cell_eq hns (k := 12) (by omega)
  obtain ⟨v, hv, ev⟩ := part_eq (cellF ns 12) (t := 7) (m := 6) (by omega) (by omega)
  have ev' : D_l_part [PV.int (cellF ns 12), PV.int 7, PV.int 6] = some (.int (v : Int)) := ev
  have hvv : v * v ≤ 25 := Nat.le_trans (Nat.mul_le_mul (show v ≤ 5 by omega) (show v ≤ 5 by omega)) (by omega)
  have d1 := l_drawn_eq hns hbd (a := 13) (m := v) (by omega) (by omega)
  have d2 := l_drawn_eq hns hbd (a := 13 + v * v) (m := v) (by omega) (by omega)
  have b1 : ∀ k j, k < v → j < v → (numF (cellF ns (13 + v * k + j))).natAbs < 2 ^ 1000 := fun k j _ _ => num_bound _
  have b2 : ∀ k j, k < v → j < v → (numF (cellF ns (13 + v * v + v * k + j))).natAbs < 2 ^ 1000 := fun k j _ _ => num_bound _
  have fm := multiplied_eq (m := v) (A := fun k j => numF (cellF ns (13 + v * k + j))) (B := fun k j => numF (cellF ns (13 + v * v + v * k + j))) (by omega) b1 b2
  have ft := q_times_eq (m := v) (A := fun k j => numF (cellF ns (13 + v * k + j))) (B := fun k j => numF (cellF ns (13 + v * v + v * k + j))) (by omega) b1 b2
  generalize hX : mtL v v (fun k j => numF (cellF ns (13 + v * k + j))) = X at d1 fm ft
  generalize hY : mtL v v (fun k j => numF (cellF ns (13 + v * v + v * k + j))) = Y at d2 fm ft
  have fs := q_square_eq (m := v) (E := mulM v (fun k j => numF (cellF ns (13 + v * k + j))) (fun k j => numF (cellF ns (13 + v * v + v * k + j)))) (by omega)
  generalize hZ : mtL v v (mulM v (fun k j => numF (cellF ns (13 + v * k + j))) (fun k j => numF (cellF ns (13 + v * v + v * k + j)))) = Z at fm ft fs
  generalize hQ : mtL m m A = Q at eq ews em et es
  generalize hR : mtL m m (mulM m A A) = R at em et es2
  let N0 : Option PV := some (.cst (iL ns))
  let W0 : Option PV := some (wP W)
  have e1 : sSet 1 (eCall D_l_web [(eVar 0), (eC (.int 7))]) [N0, none, none, none, none, none, none] = some (.nx [N0, W0, none, none, none, none, none]) := by
    have : eCall D_l_web [(eVar 0), (eC (.int 7))] [N0, none, none, none, none, none, none] = some (wP W) := eW'
    rw [sSet_def, this]; rfl
  have e2 : sSet 2 (eCall D_square_of [(eVar 1)]) [N0, W0, none, none, none, none, none] = some (.nx [N0, W0, some (wP Q), none, none, none, none]) := by
    have : eCall D_square_of [(eVar 1)] [N0, W0, none, none, none, none, none] = some (wP Q) := eq
    rw [sSet_def, this]; rfl
  have lm : ∀ (x : PV) (s : PSt), s[1]? = some (some (wP W)) → eOp oSub (eCall gLen [(eVar 1)]) (eC (.int 1)) s = some (.int (m : Int)) := fun x s h => by
    have a : eVar 1 s = some (wP W) := by
      show s[1]?.bind id = _
      rw [h]; rfl
    have b : eCall gLen [(eVar 1)] s = some (.int (W.length : Int)) := by
      rw [eCall_def, evs_cons', a]
      show some (PV.int ((W.map pP).length : Int)) = _
      rw [List.length_map]
    rw [vI (op := (· - ·)) b rfl]
    congr 2
    show (W.length : Int) - 1 = _
    omega
  have e3 : sIf (xOr (xNot (xB (eCall D_q_square [(eVar 2), (eOp oSub (eCall gLen [(eVar 1)]) (eC (.int 1)))]))) (xB (eOp (gEq true) (eVar 2) (eCall D_l_web_square [(eVar 1)])))) (sRet (eP (eC (.bl false)))) sNext [N0, W0, some (wP Q), none, none, none, none] = some (.nx [N0, W0, some (wP Q), none, none, none, none]) := by
    have c1 : eCall D_q_square [(eVar 2), (eOp oSub (eCall gLen [(eVar 1)]) (eC (.int 1)))] [N0, W0, some (wP Q), none, none, none, none] = some (.bl true) := by
      rw [eCall_def, evs_cons', evs_cons', lm .non _ rfl]; exact es
    have c2 : eOp (gEq true) (eVar 2) (eCall D_l_web_square [(eVar 1)]) [N0, W0, some (wP Q), none, none, none, none] = some (.bl false) := by
      have : eCall D_l_web_square [(eVar 1)] [N0, W0, some (wP Q), none, none, none, none] = some (wP Q) := ews
      rw [eOp_def, this]
      exact gEq_ww true Q
    rw [sIf_def, xOr_def, xNot_def, xB_def, c1]
    simp only [Option.bind_some, blO_bl, Option.map_some, Bool.not_true, Bool.false_eq_true, if_false]
    rw [xB_def, c2]
    rfl
  have e4 : sSet 3 (eCall D_multiplied [(eVar 2), (eVar 2)]) [N0, W0, some (wP Q), none, none, none, none] = some (.nx [N0, W0, some (wP Q), some (wP R), none, none, none]) := by
    have : eCall D_multiplied [(eVar 2), (eVar 2)] [N0, W0, some (wP Q), none, none, none, none] = some (wP R) := em
    rw [sSet_def, this]; rfl
  have e5 : sIf (xOr (xNot (xB (eCall D_q_square [(eVar 3), (eOp oSub (eCall gLen [(eVar 1)]) (eC (.int 1)))]))) (xB (eOp (gEq true) (eVar 3) (eCall D_q_times [(eVar 2), (eVar 2)])))) (sRet (eP (eC (.bl false)))) sNext [N0, W0, some (wP Q), some (wP R), none, none, none] = some (.nx [N0, W0, some (wP Q), some (wP R), none, none, none]) := by
    have c1 : eCall D_q_square [(eVar 3), (eOp oSub (eCall gLen [(eVar 1)]) (eC (.int 1)))] [N0, W0, some (wP Q), some (wP R), none, none, none] = some (.bl true) := by
      rw [eCall_def, evs_cons', evs_cons', lm .non _ rfl]; exact es2
    have c2 : eOp (gEq true) (eVar 3) (eCall D_q_times [(eVar 2), (eVar 2)]) [N0, W0, some (wP Q), some (wP R), none, none, none] = some (.bl false) := by
      have : eCall D_q_times [(eVar 2), (eVar 2)] [N0, W0, some (wP Q), some (wP R), none, none, none] = some (wP R) := et
      rw [eOp_def, this]
      exact gEq_ww true R
    rw [sIf_def, xOr_def, xNot_def, xB_def, c1]
    simp only [Option.bind_some, blO_bl, Option.map_some, Bool.not_true, Bool.false_eq_true, if_false]
    rw [xB_def, c2]
    rfl
  have e6 : sSet 4 (eCall D_l_part [(eCall D_m_cell [(eVar 0), (eC (.int 12))]), (eC (.int 7)), (eC (.int 6))]) [N0, W0, some (wP Q), some (wP R), none, none, none] = some (.nx [N0, W0, some (wP Q), some (wP R), some (.int (v : Int)), none, none]) := by
    have c : eCall D_m_cell [(eVar 0), (eC (.int 12))] [N0, W0, some (wP Q), some (wP R), none, none, none] = some (.int (cellF ns 12)) := ec
    have : eCall D_l_part [(eCall D_m_cell [(eVar 0), (eC (.int 12))]), (eC (.int 7)), (eC (.int 6))] [N0, W0, some (wP Q), some (wP R), none, none, none] = some (.int (v : Int)) := by
      rw [eCall_def, evs_cons', c]; exact ev'
    rw [sSet_def, this]; rfl
  have e7 : sSet 5 (eCall D_l_drawn [(eVar 0), (eC (.int 13)), (eVar 4)]) [N0, W0, some (wP Q), some (wP R), some (.int (v : Int)), none, none] = some (.nx [N0, W0, some (wP Q), some (wP R), some (.int (v : Int)), some (wP X), none]) := by
    have : eCall D_l_drawn [(eVar 0), (eC (.int 13)), (eVar 4)] [N0, W0, some (wP Q), some (wP R), some (.int (v : Int)), none, none] = some (wP X) := d1
    rw [sSet_def, this]; rfl
  have e8 : sSet 6 (eCall D_l_drawn [(eVar 0), (eOp oAdd (eC (.int 13)) (eOp oMul (eVar 4) (eVar 4))), (eVar 4)]) [N0, W0, some (wP Q), some (wP R), some (.int (v : Int)), some (wP X), none] = some (.nx [N0, W0, some (wP Q), some (wP R), some (.int (v : Int)), some (wP X), some (wP Y)]) := by
    have cm : CMul (v : Int) (v : Int) := by
      have : v = 0 ∨ v = 1 ∨ v = 2 ∨ v = 3 ∨ v = 4 ∨ v = 5 := by omega
      rcases this with rfl | rfl | rfl | rfl | rfl | rfl <;> decide
    have i1 : eOp oAdd (eC (.int 13)) (eOp oMul (eVar 4) (eVar 4)) [N0, W0, some (wP Q), some (wP R), some (.int (v : Int)), some (wP X), none] = some (.int ((13 + v * v : Nat) : Int)) := by
      rw [vI (op := (· + ·)) (a := 13) rfl (vC (C := CMul) (op := (· * ·)) (a := (v : Int)) (b := (v : Int)) rfl rfl cm)]
      congr 2
    have : eCall D_l_drawn [(eVar 0), (eOp oAdd (eC (.int 13)) (eOp oMul (eVar 4) (eVar 4))), (eVar 4)] [N0, W0, some (wP Q), some (wP R), some (.int (v : Int)), some (wP X), none] = some (wP Y) := by
      rw [eCall_def, evs_cons', evs_cons', i1]; exact d2
    rw [sSet_def, this]; rfl
  have e9 : sSet 3 (eCall D_multiplied [(eVar 5), (eVar 6)]) [N0, W0, some (wP Q), some (wP R), some (.int (v : Int)), some (wP X), some (wP Y)] = some (.nx [N0, W0, some (wP Q), some (wP Z), some (.int (v : Int)), some (wP X), some (wP Y)]) := by
    have : eCall D_multiplied [(eVar 5), (eVar 6)] [N0, W0, some (wP Q), some (wP R), some (.int (v : Int)), some (wP X), some (wP Y)] = some (wP Z) := fm
    rw [sSet_def, this]; rfl
  show fnD 7 F_law _ = _
  unfold F_law
  show (sSeq _ _ [N0, none, none, none, none, none, none]).bind retO = _
  rw [seq2 e1, seq2 e2, seq2 e3, seq2 e4, seq2 e5, seq2 e6, seq2 e7, seq2 e8, seq2 e9]
  have g1 : eCall D_q_square [(eVar 3), (eVar 4)] [N0, W0, some (wP Q), some (wP Z), some (.int (v : Int)), some (wP X), some (wP Y)] = some (.bl true) := fs
  have g2 : eOp (gEq false) (eVar 3) (eCall D_q_times [(eVar 5), (eVar 6)]) [N0, W0, some (wP Q), some (wP Z), some (.int (v : Int)), some (wP X), some (wP Y)] = some (.bl true) := by
    have : eCall D_q_times [(eVar 5), (eVar 6)] [N0, W0, some (wP Q), some (wP Z), some (.int (v : Int)), some (wP X), some (wP Y)] = some (wP Z) := ft
    rw [eOp_def, this]
    exact gEq_ww false Z
  rw [vRet (v := .bl true) (by
    have g1' : xB (eCall D_q_square [(eVar 3), (eVar 4)]) [N0, W0, some (wP Q), some (wP Z), some (.int (v : Int)), some (wP X), some (wP Y)] = some true := by rw [xB_def, g1]; rfl
    rw [eP_def, eAnd_def, g1']
    simp only [Option.bind_some, if_true]
    rw [g2]
    rfl)]
  rfl
end PW
set_option Elab.async false
set_option linter.all false
set_option maxRecDepth 100000
set_option maxHeartbeats 4000000
namespace PW
open PySem L2 VL
def top (i : Nat) : Stmt := PySem.Challenge.pw_purseweb_k61_squares.main.body.getD i (.Pass ⟨0, 0, 0, 0⟩)
section
variable {P : Program} {w : World} {K : PySem.W.Frag} {mg : Str → Option Value} {base : Heap}
abbrev s_m_cell : Stmt := top 10
theorem sc_m_cell : FnScope (["_law_script", "_law_k"] : List Str) (["_law_script", "_law_k"] : List Str) (defScope s_m_cell) := ⟨rfl, rfl, rfl, by decide +kernel, rfl, by decide +kernel, by decide +kernel⟩
theorem ok_m_cell (Df : Def K mg "_law_cell" s_m_cell) (B : Blt mg) : Cal P w K mg base "_law_cell" (["_law_script", "_law_k"] : List Str) (spF K D_m_cell 2) 1 :=
  def_ok (O := []) (k := 0) 2 F_m_cell Df sc_m_cell (fun _ _ _ _ _ _ us hl => match us, hl with | [_, _], _ => rfl) rfl rfl (by decide) (fun fa cdv A outer s H E hr =>
    (vss_cons (vs_if (vt_lt (ve_of (pv 1)) (ve_callB call_len rc_len rfl B.len (by decide +kernel) (va_cons (ve_of (pv 0)) va_nil))) (vss_one (vs_ret (VE.pure (ve_item (ve_of (pv 0)) (ve_of (pv 1)))))) vss_nil)
    (vss_one (vs_ret (VE.pure (ve_mod (ve_mul (ve_add (ve_add (ve_mul (ve_of (pv 1)) (ve_of (pv 1))) (ve_mul ve_int (ve_of (pv 1)))) ve_int) ve_int) ve_int))))))
abbrev s_l_part : Stmt := top 11
theorem sc_l_part : FnScope (["_law_cell_here", "_law_turn", "_law_many", "_law_x", "_law_k"] : List Str) (["_law_cell_here", "_law_turn", "_law_many"] : List Str) (defScope s_l_part) := ⟨rfl, rfl, rfl, by decide +kernel, rfl, by decide +kernel, by decide +kernel⟩
theorem ok_l_part (Df : Def K mg "_law_part" s_l_part) (B : Blt mg) : Cal P w K mg base "_law_part" (["_law_cell_here", "_law_turn", "_law_many"] : List Str) (spF K D_l_part 3) 1 :=
  def_ok (O := []) (k := 0) 5 F_l_part Df sc_l_part (fun _ _ _ _ _ _ us hl => match us, hl with | [_, _, _], _ => rfl) rfl rfl (by decide) (fun fa cdv A outer s H E hr =>
    (vss_cons (vs_set (i := 3) sc_l_part.nd rfl (Or.inl rfl) (VE.pure (ve_fdiv (ve_of (pv 0)) ve_int)))
    (vss_cons (vs_if (VW.vt (vw_and (vt_eq hr.units (ve_mod (ve_of (pv 0)) ve_int) ve_int) (vw_and1 (vt_gt (ve_of (pv 0)) (ve_pow ve_int ve_int))))) (vss_cons (vs_for PassesOwn.never rfl (vi_range1 rfl B.range (va_cons (ve_of (pv 1)) va_nil)) (pg_name (i := 4) sc_l_part.nd rfl (Or.inl rfl)) (vss_one (vs_set (i := 3) sc_l_part.nd rfl (Or.inl rfl) (VE.pure (ve_fdiv (ve_of (pv 3)) ve_int)))))
    (vss_one (vs_ret (VE.pure (ve_mod (ve_of (pv 3)) (ve_of (pv 2))))))) vss_nil)
    (vss_cons (vs_set (i := 3) sc_l_part.nd rfl (Or.inl rfl) (VE.pure (ve_add (ve_mod (ve_of (pv 3)) ve_int) (ve_mul ve_int (ve_of (pv 1))))))
    (vss_cons (vs_set (i := 3) sc_l_part.nd rfl (Or.inl rfl) (VE.pure (ve_mod (ve_add (ve_mul (ve_of (pv 3)) (ve_of (pv 3))) (ve_mul ve_int (ve_of (pv 3)))) ve_int)))
    (vss_one (vs_ret (VE.pure (ve_mod (ve_fdiv (ve_mod (ve_add (ve_mul (ve_of (pv 3)) (ve_of (pv 3))) (ve_mul ve_int (ve_of (pv 1)))) ve_int) ve_int) (ve_of (pv 2)))))))))))
abbrev s_l_tie : Stmt := top 12
theorem sc_l_tie : FnScope (["_law_times_here", "_law_one", "_law_other", "_law_more", "_law_many"] : List Str) (["_law_times_here", "_law_one", "_law_other", "_law_more"] : List Str) (defScope s_l_tie) := ⟨rfl, rfl, rfl, by decide +kernel, rfl, by decide +kernel, by decide +kernel⟩
theorem ok_l_tie (Df : Def K mg "_law_tie" s_l_tie) (B : Blt mg) : Cal P w K mg base "_law_tie" (["_law_times_here", "_law_one", "_law_other", "_law_more"] : List Str) (spC K D_l_tie 4) 1 :=
  def_okC (k := 0) 5 F_l_tie Df sc_l_tie (fun _ _ _ _ _ _ us hl => match us, hl with | [_, _, _, _], _ => rfl) rfl rfl (fun fa cdv A outer s H E hr =>
    (vss0_cons (VS.vs0 (vs_set (i := 4) sc_l_tie.nd rfl (Or.inl rfl) (VE.pure (ve_callB (call_min2 rfl) rc_min2 rfl B.min (by decide +kernel) (va_cons ve_int (va_cons (ve_add (ve_item (ve_item (ve_of (pv 0)) (ve_of (pv 1))) (ve_of (pv 2))) (ve_of (pv 3))) va_nil))))))
    (vss0_cons (vs0_setix2 (ps_asg (ve_of (pv 4)) (pg_sub (pe_ix ix_list (pv 0) (ve_of (pv 1)) (fun _ _ => rfl)) (ve_of (pv 2)) set_list)))
    (vss0_one (vs0_setix2 (ps_asg (ve_of (pv 4)) (pg_sub (pe_ix ix_list (pv 0) (ve_of (pv 2)) (fun _ _ => rfl)) (ve_of (pv 1)) set_list)))))))
abbrev s_l_web : Stmt := top 13
theorem sc_l_web : FnScope (["_law_script", "_law_most", "_law_first", "_law_houses", "_law_times_here", "_law_spots", "_law_k", "_law_cell_here", "_law_one", "_law_other"] : List Str) (["_law_script", "_law_most"] : List Str) (defScope s_l_web) := ⟨rfl, rfl, rfl, by decide +kernel, rfl, by decide +kernel, by decide +kernel⟩
theorem ok_l_web (Df : Def K mg "_law_web" s_l_web) (B : Blt mg) (C_m_cell : Cal P w K mg base "_law_cell" (["_law_script", "_law_k"] : List Str) (spF K D_m_cell 2) 1) (C_l_part : Cal P w K mg base "_law_part" (["_law_cell_here", "_law_turn", "_law_many"] : List Str) (spF K D_l_part 3) 1) (C_l_tie : Cal P w K mg base "_law_tie" (["_law_times_here", "_law_one", "_law_other", "_law_more"] : List Str) (spC K D_l_tie 4) 1) : Cal P w K mg base "_law_web" (["_law_script", "_law_most"] : List Str) (spF K D_l_web 2) 2 :=
  def_ok (O := [4, 5]) (k := 1) 10 F_l_web Df sc_l_web (fun _ _ _ _ _ _ us hl => match us, hl with | [_, _], _ => rfl) rfl rfl (by decide) (fun fa cdv A outer s H E hr =>
    (vss_cons (vs_set (i := 2) sc_l_web.nd rfl (Or.inl rfl) (vm_call C_m_cell (hr.mono (by decide)) rfl (va_cons (ve_of (pv 0)) (va_cons ve_int va_nil))))
    (vss_cons (vs_set (i := 3) sc_l_web.nd rfl (Or.inr rfl) (VE.pure (ve_add ve_int (VM.ve (vm_call C_l_part (hr.mono (by decide)) rfl (va_cons (ve_of (pv 2)) (va_cons ve_int (va_cons (ve_of (pv 1)) va_nil))))))))
    (vss_cons (vs_setC (["_law_k"] : List Str) (["_law_houses"] : List Str) [3] (i := 4) sc_l_web.nd rfl rfl rfl (vi_range1 rfl B.range (va_cons (ve_of (pv 3)) va_nil)) (by kernel_rfl) (fun _ _ _ _ _ => (pg_name (i := 0) (show ((["_law_k"] : List Str) ++ (["_law_houses"] : List Str)).Nodup by decide +kernel) rfl (Or.inl rfl) (.inr rfl))) (fun _ _ _ _ _ => vts_nil) (fun _ _ _ _ _ => (vm_rep (ve_lst (va_cons ve_int va_nil)) (ve_of (pv 1)))))
    (vss_cons (vs_set (i := 5) sc_l_web.nd rfl (Or.inl rfl) (vm_lst vma_nil))
    (vss_cons (vs_for PassesOwn.never rfl (vi_range1 rfl B.range (va_cons (ve_of (pv 3)) va_nil)) (pg_name (i := 6) sc_l_web.nd rfl (Or.inl rfl)) (vss_one (vs_insert (ps_expr (pe_bm PySem.F.plainAttrs_list PySem.F.slot_list_insert PySem.F.type_list_insert mt_insert (pv 5) (pa_cons (VM.ve (vm_call C_l_part (hr.mono (by decide)) rfl (va_cons (VM.ve (vm_call C_m_cell (hr.mono (by decide)) rfl (va_cons (ve_of (pv 0)) (va_cons (ve_add ve_int (ve_of (pv 6))) va_nil)))) (va_cons ve_int (va_cons (ve_add (ve_of (pv 6)) ve_int) va_nil))))) (pa_cons (ve_of (pv 6)) pa_nil)))))))
    (vss_cons (vs_for PassesOwn.never rfl (vi_range2 rfl B.range (va_cons ve_int (va_cons (ve_of (pv 3)) va_nil))) (pg_name (i := 6) sc_l_web.nd rfl (Or.inl rfl)) (vss_cons (vs_set (i := 7) sc_l_web.nd rfl (Or.inl rfl) (vm_call C_m_cell (hr.mono (by decide)) rfl (va_cons (ve_of (pv 0)) (va_cons (ve_of (pv 6)) va_nil))))
    (vss_one (vs_chg (ps_expr (pe_cal C_l_tie (hr.mono (by decide)) rfl (pa_cons (pv 4) (va_cons (ve_item (ve_of (pv 5)) (ve_of (pv 6))) (va_cons (ve_item (ve_of (pv 5)) (VM.ve (vm_call C_l_part (hr.mono (by decide)) rfl (va_cons (ve_of (pv 7)) (va_cons ve_int (va_cons (ve_of (pv 6)) va_nil)))))) (va_cons (ve_add ve_int (VM.ve (vm_call C_l_part (hr.mono (by decide)) rfl (va_cons (ve_of (pv 7)) (va_cons ve_int (va_cons ve_int va_nil)))))) va_nil))))))))))
    (vss_cons (vs_if (vt_gt (ve_of (pv 3)) ve_int) (vss_one (vs_for PassesOwn.never rfl (vi_range1 rfl B.range (va_cons (VM.ve (vm_call C_l_part (hr.mono (by decide)) rfl (va_cons (ve_of (pv 2)) (va_cons ve_int (va_cons ve_int va_nil))))) va_nil)) (pg_name (i := 6) sc_l_web.nd rfl (Or.inl rfl)) (vss_cons (vs_set (i := 7) sc_l_web.nd rfl (Or.inl rfl) (vm_call C_m_cell (hr.mono (by decide)) rfl (va_cons (ve_of (pv 0)) (va_cons (ve_add ve_int (ve_of (pv 6))) va_nil))))
    (vss_cons (vs_set (i := 8) sc_l_web.nd rfl (Or.inl rfl) (vm_call C_l_part (hr.mono (by decide)) rfl (va_cons (ve_of (pv 7)) (va_cons ve_int (va_cons (ve_of (pv 3)) va_nil)))))
    (vss_cons (vs_set (i := 9) sc_l_web.nd rfl (Or.inl rfl) (VE.pure (ve_mod (ve_add (ve_add (ve_of (pv 8)) ve_int) (VM.ve (vm_call C_l_part (hr.mono (by decide)) rfl (va_cons (ve_of (pv 7)) (va_cons ve_int (va_cons (ve_sub (ve_of (pv 3)) ve_int) va_nil)))))) (ve_of (pv 3)))))
    (vss_one (vs_chg (ps_expr (pe_cal C_l_tie (hr.mono (by decide)) rfl (pa_cons (pv 4) (va_cons (ve_of (pv 8)) (va_cons (ve_of (pv 9)) (va_cons (ve_add ve_int (VM.ve (vm_call C_l_part (hr.mono (by decide)) rfl (va_cons (ve_of (pv 7)) (va_cons ve_int (va_cons ve_int va_nil)))))) va_nil))))))))))))) vss_nil)
    (vss_one (vs_ret (VE.pure (ve_callTy call_tuple_of rc_tuple rfl B.tuple (by decide +kernel) (va_cons (ve_comp (["_law_row_here"] : List Str) ([] : List Str) [] rfl (vi_list (ve_of (pv 4))) (by kernel_rfl) (fun _ _ _ _ _ => (pg_name (i := 0) (show ((["_law_row_here"] : List Str) ++ ([] : List Str)).Nodup by decide +kernel) rfl (Or.inl rfl) (.inr rfl))) (fun _ _ _ _ _ => vts_nil) (fun _ _ _ _ _ => (ve_callTy call_tuple_of rc_tuple rfl B.tuple (by decide +kernel) (va_cons (ve_of (pv 0)) va_nil)))) va_nil)))))))))))))
abbrev s_ties_at : Stmt := top 1
theorem sc_ties_at : FnScope (["web", "house"] : List Str) (["web", "house"] : List Str) (defScope s_ties_at) := ⟨rfl, rfl, rfl, by decide +kernel, rfl, by decide +kernel, by decide +kernel⟩
theorem ok_ties_at (Df : Def K mg "ties_at" s_ties_at) (B : Blt mg) : Cal P w K mg base "ties_at" (["web", "house"] : List Str) (spF K D_ties_at 2) 1 :=
  def_ok (O := []) (k := 0) 2 F_ties_at Df sc_ties_at (fun _ _ _ _ _ _ us hl => match us, hl with | [_, _], _ => rfl) rfl rfl (by decide) (fun fa cdv A outer s H E hr =>
    (vss_one (vs_ret (VE.pure (ve_callB (call_sumR rfl) rc_sum rfl B.sum (by decide +kernel) (va_cons (ve_item (ve_of (pv 0)) (ve_of (pv 1))) va_nil))))))
abbrev s_row_of : Stmt := top 5
theorem sc_row_of : FnScope (["web", "house", "others"] : List Str) (["web", "house", "others"] : List Str) (defScope s_row_of) := ⟨rfl, rfl, rfl, by decide +kernel, rfl, by decide +kernel, by decide +kernel⟩
theorem ok_row_of (Df : Def K mg "row_of" s_row_of) (B : Blt mg) (C_ties_at : Cal P w K mg base "ties_at" (["web", "house"] : List Str) (spF K D_ties_at 2) 1) : Cal P w K mg base "row_of" (["web", "house", "others"] : List Str) (spF K D_row_of 3) 2 :=
  def_ok (O := []) (k := 1) 3 F_row_of Df sc_row_of (fun _ _ _ _ _ _ us hl => match us, hl with | [_, _, _], _ => rfl) rfl rfl (by decide) (fun fa cdv A outer s H E hr =>
    (vss_one (vs_ret (VE.pure (ve_callTy call_tuple_of rc_tuple rfl B.tuple (by decide +kernel) (va_cons (ve_comp (["other"] : List Str) (["house", "web"] : List Str) [1, 0] rfl (vi_list (ve_of (pv 2))) (by kernel_rfl) (fun _ _ _ _ _ => (pg_name (i := 0) (show ((["other"] : List Str) ++ (["house", "web"] : List Str)).Nodup by decide +kernel) rfl (Or.inl rfl) (.inr rfl))) (fun _ _ _ _ _ => vts_nil) (fun _ _ _ _ _ => (ve_if (vt_eq hr.units (ve_of (pv 0)) (ve_of (pv 1))) (VM.ve (vm_call C_ties_at (hr.mono (by decide)) rfl (va_cons (ve_of (pv 2)) (va_cons (ve_of (pv 1)) va_nil)))) (ve_neg (ve_item (ve_item (ve_of (pv 2)) (ve_of (pv 1))) (ve_of (pv 0))))))) va_nil))))))
abbrev s_square_without : Stmt := top 4
theorem sc_square_without : FnScope (["web", "base", "others"] : List Str) (["web", "base"] : List Str) (defScope s_square_without) := ⟨rfl, rfl, rfl, by decide +kernel, rfl, by decide +kernel, by decide +kernel⟩
theorem ok_square_without (Df : Def K mg "square_without" s_square_without) (B : Blt mg) (C_row_of : Cal P w K mg base "row_of" (["web", "house", "others"] : List Str) (spF K D_row_of 3) 2) : Cal P w K mg base "square_without" (["web", "base"] : List Str) (spF K D_square_without 2) 3 :=
  def_ok (O := []) (k := 2) 3 F_square_without Df sc_square_without (fun _ _ _ _ _ _ us hl => match us, hl with | [_, _], _ => rfl) rfl rfl (by decide) (fun fa cdv A outer s H E hr =>
    (vss_cons (vs_set (i := 2) sc_square_without.nd rfl (Or.inr rfl) (vm_comp (["house"] : List Str) (["base"] : List Str) [1] rfl (vi_range1 rfl B.range (va_cons (ve_callB call_len rc_len rfl B.len (by decide +kernel) (va_cons (ve_of (pv 0)) va_nil)) va_nil)) (by kernel_rfl) (fun _ _ _ _ _ => (pg_name (i := 0) (show ((["house"] : List Str) ++ (["base"] : List Str)).Nodup by decide +kernel) rfl (Or.inl rfl) (.inr rfl))) (fun _ _ _ _ _ => (vts_one (vt_ne hr.units (ve_of (pv 0)) (ve_of (pv 1))))) (fun _ _ _ _ _ => (VE.pure (ve_of (pv 0))))))
    (vss_one (vs_ret (VE.pure (ve_callTy call_tuple_of rc_tuple rfl B.tuple (by decide +kernel) (va_cons (ve_comp (["house"] : List Str) (["web", "others"] : List Str) [0, 2] rfl (vi_list (ve_of (pv 2))) (by kernel_rfl) (fun _ _ _ _ _ => (pg_name (i := 0) (show ((["house"] : List Str) ++ (["web", "others"] : List Str)).Nodup by decide +kernel) rfl (Or.inl rfl) (.inr rfl))) (fun _ _ _ _ _ => vts_nil) (fun _ _ _ _ _ => (VM.ve (vm_call C_row_of (hr.mono (by decide)) rfl (va_cons (ve_of (pv 1)) (va_cons (ve_of (pv 0)) (va_cons (ve_of (pv 2)) va_nil))))))) va_nil)))))))
abbrev s_square_of : Stmt := top 3
theorem sc_square_of : FnScope (["web"] : List Str) (["web"] : List Str) (defScope s_square_of) := ⟨rfl, rfl, rfl, by decide +kernel, rfl, by decide +kernel, by decide +kernel⟩
theorem ok_square_of (Df : Def K mg "square_of" s_square_of) (B : Blt mg) (C_square_without : Cal P w K mg base "square_without" (["web", "base"] : List Str) (spF K D_square_without 2) 3) : Cal P w K mg base "square_of" (["web"] : List Str) (spF K D_square_of 1) 4 :=
  def_ok (O := []) (k := 3) 1 F_square_of Df sc_square_of (fun _ _ _ _ _ _ us hl => match us, hl with | [_], _ => rfl) rfl rfl (by decide) (fun fa cdv A outer s H E hr =>
    (vss_one (vs_ret (vm_call C_square_without (hr.mono (by decide)) rfl (va_cons (ve_of (pv 0)) (va_cons ve_int va_nil))))))
abbrev s_row_by_column : Stmt := top 8
theorem sc_row_by_column : FnScope (["row", "square", "column"] : List Str) (["row", "square", "column"] : List Str) (defScope s_row_by_column) := ⟨rfl, rfl, rfl, by decide +kernel, rfl, by decide +kernel, by decide +kernel⟩
theorem ok_row_by_column (Df : Def K mg "row_by_column" s_row_by_column) (B : Blt mg) : Cal P w K mg base "row_by_column" (["row", "square", "column"] : List Str) (spF K D_row_by_column 3) 1 :=
  def_ok (O := []) (k := 0) 3 F_row_by_column Df sc_row_by_column (fun _ _ _ _ _ _ us hl => match us, hl with | [_, _, _], _ => rfl) rfl rfl (by decide) (fun fa cdv A outer s H E hr =>
    (vss_one (vs_ret (VE.pure (ve_callB (call_sumR rfl) rc_sum rfl B.sum (by decide +kernel) (va_cons (ve_comp (["at", "number"] : List Str) (["column", "square"] : List Str) [2, 1] rfl (vi_enum false rfl B.enumerate (va_cons (ve_of (pv 0)) va_nil)) (by kernel_rfl) (fun _ _ _ _ _ => (pg_tup (n := 2) rfl (pgs_cons (pg_name (i := 0) (show ((["at", "number"] : List Str) ++ (["column", "square"] : List Str)).Nodup by decide +kernel) rfl (Or.inl rfl) (.inr rfl)) (pgs_cons (pg_name (i := 1) (show ((["at", "number"] : List Str) ++ (["column", "square"] : List Str)).Nodup by decide +kernel) rfl (Or.inl rfl) (.inr rfl)) pgs_nil)))) (fun _ _ _ _ _ => vts_nil) (fun _ _ _ _ _ => (ve_mulW (ve_of (pv 1)) (ve_item (ve_item (ve_of (pv 3)) (ve_of (pv 0))) (ve_of (pv 2)))))) va_nil))))))
abbrev s_row_times : Stmt := top 7
theorem sc_row_times : FnScope (["row", "square"] : List Str) (["row", "square"] : List Str) (defScope s_row_times) := ⟨rfl, rfl, rfl, by decide +kernel, rfl, by decide +kernel, by decide +kernel⟩
theorem ok_row_times (Df : Def K mg "row_times" s_row_times) (B : Blt mg) (C_row_by_column : Cal P w K mg base "row_by_column" (["row", "square", "column"] : List Str) (spF K D_row_by_column 3) 1) : Cal P w K mg base "row_times" (["row", "square"] : List Str) (spF K D_row_times 2) 2 :=
  def_ok (O := []) (k := 1) 2 F_row_times Df sc_row_times (fun _ _ _ _ _ _ us hl => match us, hl with | [_, _], _ => rfl) rfl rfl (by decide) (fun fa cdv A outer s H E hr =>
    (vss_one (vs_ret (VE.pure (ve_callTy call_tuple_of rc_tuple rfl B.tuple (by decide +kernel) (va_cons (ve_comp (["column"] : List Str) (["row", "square"] : List Str) [0, 1] rfl (vi_range1 rfl B.range (va_cons (ve_callB call_len rc_len rfl B.len (by decide +kernel) (va_cons (ve_of (pv 0)) va_nil)) va_nil)) (by kernel_rfl) (fun _ _ _ _ _ => (pg_name (i := 0) (show ((["column"] : List Str) ++ (["row", "square"] : List Str)).Nodup by decide +kernel) rfl (Or.inl rfl) (.inr rfl))) (fun _ _ _ _ _ => vts_nil) (fun _ _ _ _ _ => (VM.ve (vm_call C_row_by_column (hr.mono (by decide)) rfl (va_cons (ve_of (pv 1)) (va_cons (ve_of (pv 2)) (va_cons (ve_of (pv 0)) va_nil))))))) va_nil))))))
abbrev s_multiplied : Stmt := top 6
theorem sc_multiplied : FnScope (["one", "other"] : List Str) (["one", "other"] : List Str) (defScope s_multiplied) := ⟨rfl, rfl, rfl, by decide +kernel, rfl, by decide +kernel, by decide +kernel⟩
theorem ok_multiplied (Df : Def K mg "multiplied" s_multiplied) (B : Blt mg) (C_row_times : Cal P w K mg base "row_times" (["row", "square"] : List Str) (spF K D_row_times 2) 2) : Cal P w K mg base "multiplied" (["one", "other"] : List Str) (spF K D_multiplied 2) 3 :=
  def_ok (O := []) (k := 2) 2 F_multiplied Df sc_multiplied (fun _ _ _ _ _ _ us hl => match us, hl with | [_, _], _ => rfl) rfl rfl (by decide) (fun fa cdv A outer s H E hr =>
    (vss_one (vs_ret (VE.pure (ve_callTy call_tuple_of rc_tuple rfl B.tuple (by decide +kernel) (va_cons (ve_comp (["row"] : List Str) (["other"] : List Str) [1] rfl (vi_tup (ve_of (pv 0))) (by kernel_rfl) (fun _ _ _ _ _ => (pg_name (i := 0) (show ((["row"] : List Str) ++ (["other"] : List Str)).Nodup by decide +kernel) rfl (Or.inl rfl) (.inr rfl))) (fun _ _ _ _ _ => vts_nil) (fun _ _ _ _ _ => (VM.ve (vm_call C_row_times (hr.mono (by decide)) rfl (va_cons (ve_of (pv 0)) (va_cons (ve_of (pv 1)) va_nil)))))) va_nil))))))
abbrev s_l_number : Stmt := top 20
theorem sc_l_number : FnScope (["_law_cell_here"] : List Str) (["_law_cell_here"] : List Str) (defScope s_l_number) := ⟨rfl, rfl, rfl, by decide +kernel, rfl, by decide +kernel, by decide +kernel⟩
theorem ok_l_number (Df : Def K mg "_law_number" s_l_number) (B : Blt mg) : Cal P w K mg base "_law_number" (["_law_cell_here"] : List Str) (spF K D_l_number 1) 1 :=
  def_ok (O := []) (k := 0) 1 F_l_number Df sc_l_number (fun _ _ _ _ _ _ us hl => match us, hl with | [_], _ => rfl) rfl rfl (by decide) (fun fa cdv A outer s H E hr =>
    (vss_cons (vs_if (vt_eq hr.units (ve_mod (ve_of (pv 0)) ve_int) ve_int) (vss_one (vs_ret (VE.pure (ve_sub (ve_mod (ve_mulW (ve_of (pv 0)) (ve_of (pv 0))) (ve_add (ve_mulW ve_int (ve_pow ve_int ve_int)) ve_int)) (ve_pow ve_int ve_int))))) vss_nil)
    (vss_one (vs_ret (VE.pure (ve_sub (ve_mod (ve_fdivW (ve_of (pv 0)) ve_int) ve_int) ve_int))))))
abbrev s_l_drawn : Stmt := top 21
theorem sc_l_drawn : FnScope (["_law_script", "_law_at", "_law_size", "_law_rows", "_law_k"] : List Str) (["_law_script", "_law_at", "_law_size"] : List Str) (defScope s_l_drawn) := ⟨rfl, rfl, rfl, by decide +kernel, rfl, by decide +kernel, by decide +kernel⟩
theorem ok_l_drawn (Df : Def K mg "_law_drawn" s_l_drawn) (B : Blt mg) (C_l_number : Cal P w K mg base "_law_number" (["_law_cell_here"] : List Str) (spF K D_l_number 1) 1) (C_m_cell : Cal P w K mg base "_law_cell" (["_law_script", "_law_k"] : List Str) (spF K D_m_cell 2) 1) : Cal P w K mg base "_law_drawn" (["_law_script", "_law_at", "_law_size"] : List Str) (spF K D_l_drawn 3) 2 :=
  def_ok (O := [3]) (k := 1) 5 F_l_drawn Df sc_l_drawn (fun _ _ _ _ _ _ us hl => match us, hl with | [_, _, _], _ => rfl) rfl rfl (by decide) (fun fa cdv A outer s H E hr =>
    (vss_cons (vs_set (i := 3) sc_l_drawn.nd rfl (Or.inl rfl) (vm_lst vma_nil))
    (vss_cons (vs_for PassesOwn.never rfl (vi_range1 rfl B.range (va_cons (ve_of (pv 2)) va_nil)) (pg_name (i := 4) sc_l_drawn.nd rfl (Or.inr rfl)) (vss_one (vs_append (ps_expr (pe_bm PySem.F.plainAttrs_list PySem.F.slot_list_append PySem.F.type_list_append mt_append (pv 3) (pa_cons (VE.pure (ve_callTy call_tuple_of rc_tuple rfl B.tuple (by decide +kernel) (va_cons (ve_comp (["_law_j"] : List Str) (["_law_script", "_law_at", "_law_size", "_law_k"] : List Str) [0, 1, 2, 4] rfl (vi_range1 rfl B.range (va_cons (ve_of (pv 2)) va_nil)) (by kernel_rfl) (fun _ _ _ _ _ => (pg_name (i := 0) (show ((["_law_j"] : List Str) ++ (["_law_script", "_law_at", "_law_size", "_law_k"] : List Str)).Nodup by decide +kernel) rfl (Or.inl rfl) (.inr rfl))) (fun _ _ _ _ _ => vts_nil) (fun _ _ _ _ _ => (VM.ve (vm_call C_l_number (hr.mono (by decide)) rfl (va_cons (VM.ve (vm_call C_m_cell (hr.mono (by decide)) rfl (va_cons (ve_of (pv 1)) (va_cons (ve_add (ve_add (ve_of (pv 2)) (ve_mul (ve_of (pv 3)) (ve_of (pv 4)))) (ve_of (pv 0))) va_nil)))) va_nil))))) va_nil))) pa_nil))))))
    (vss_one (vs_ret (VE.pure (ve_callTy call_tuple_of rc_tuple rfl B.tuple (by decide +kernel) (va_cons (ve_of (pv 3)) va_nil))))))))
abbrev s_l_whole : Stmt := top 14
theorem sc_l_whole : FnScope (["_law_number_here"] : List Str) (["_law_number_here"] : List Str) (defScope s_l_whole) := ⟨rfl, rfl, rfl, by decide +kernel, rfl, by decide +kernel, by decide +kernel⟩
theorem ok_l_whole (Df : Def K mg "_law_whole" s_l_whole) (B : Blt mg) : Cal P w K mg base "_law_whole" (["_law_number_here"] : List Str) (spF K D_l_whole 1) 1 :=
  def_ok (O := []) (k := 0) 1 F_l_whole Df sc_l_whole (fun _ _ _ _ _ _ us hl => match us, hl with | [_], _ => rfl) rfl rfl (by decide) (fun fa cdv A outer s H E hr =>
    (vss_one (vs_ret (VE.pure (ve_and (ve_callB call_isinst rc_inst rfl B.isinstance (by decide +kernel) (va_cons (ve_of (pv 0)) (va_cons (ve_ty rfl B.int (by decide +kernel)) va_nil))) (ve_one (ve_not (ve_callB call_isinst rc_inst rfl B.isinstance (by decide +kernel) (va_cons (ve_of (pv 0)) (va_cons (ve_ty rfl B.bool (by decide +kernel)) va_nil))))))))))
abbrev s_l_row : Stmt := top 15
theorem sc_l_row : FnScope (["_law_found", "_law_houses"] : List Str) (["_law_found", "_law_houses"] : List Str) (defScope s_l_row) := ⟨rfl, rfl, rfl, by decide +kernel, rfl, by decide +kernel, by decide +kernel⟩
theorem ok_l_row (Df : Def K mg "_law_row" s_l_row) (B : Blt mg) (C_l_whole : Cal P w K mg base "_law_whole" (["_law_number_here"] : List Str) (spF K D_l_whole 1) 1) : Cal P w K mg base "_law_row" (["_law_found", "_law_houses"] : List Str) (spF K D_l_row 2) 2 :=
  def_ok (O := []) (k := 1) 2 F_l_row Df sc_l_row (fun _ _ _ _ _ _ us hl => match us, hl with | [_, _], _ => rfl) rfl rfl (by decide) (fun fa cdv A outer s H E hr =>
    (vss_one (vs_ret (VE.pure (ve_and (ve_callB call_isinst rc_inst rfl B.isinstance (by decide +kernel) (va_cons (ve_of (pv 0)) (va_cons (ve_ty rfl B.tuple (by decide +kernel)) va_nil))) (ve_and (ve_eq hr.units (ve_callB call_len rc_len rfl B.len (by decide +kernel) (va_cons (ve_of (pv 0)) va_nil)) (ve_of (pv 1))) (ve_one (ve_callB (call_allR rfl) rc_all rfl B.all (by decide +kernel) (va_cons (ve_comp (["_law_one"] : List Str) ([] : List Str) [] rfl (vi_tup (ve_of (pv 0))) (by kernel_rfl) (fun _ _ _ _ _ => (pg_name (i := 0) (show ((["_law_one"] : List Str) ++ ([] : List Str)).Nodup by decide +kernel) rfl (Or.inl rfl) (.inr rfl))) (fun _ _ _ _ _ => vts_nil) (fun _ _ _ _ _ => (VM.ve (vm_call C_l_whole (hr.mono (by decide)) rfl (va_cons (ve_of (pv 0)) va_nil))))) va_nil)))))))))
abbrev s_q_square : Stmt := top 18
theorem sc_q_square : FnScope (["_law_found", "_law_size"] : List Str) (["_law_found", "_law_size"] : List Str) (defScope s_q_square) := ⟨rfl, rfl, rfl, by decide +kernel, rfl, by decide +kernel, by decide +kernel⟩
theorem ok_q_square (Df : Def K mg "_law_square" s_q_square) (B : Blt mg) (C_l_row : Cal P w K mg base "_law_row" (["_law_found", "_law_houses"] : List Str) (spF K D_l_row 2) 2) : Cal P w K mg base "_law_square" (["_law_found", "_law_size"] : List Str) (spF K D_q_square 2) 3 :=
  def_ok (O := []) (k := 2) 2 F_q_square Df sc_q_square (fun _ _ _ _ _ _ us hl => match us, hl with | [_, _], _ => rfl) rfl rfl (by decide) (fun fa cdv A outer s H E hr =>
    (vss_one (vs_ret (VE.pure (ve_and (ve_callB call_isinst rc_inst rfl B.isinstance (by decide +kernel) (va_cons (ve_of (pv 0)) (va_cons (ve_ty rfl B.tuple (by decide +kernel)) va_nil))) (ve_and (ve_eq hr.units (ve_callB call_len rc_len rfl B.len (by decide +kernel) (va_cons (ve_of (pv 0)) va_nil)) (ve_of (pv 1))) (ve_one (ve_callB (call_allR rfl) rc_all rfl B.all (by decide +kernel) (va_cons (ve_comp (["_law_row_here"] : List Str) (["_law_size"] : List Str) [1] rfl (vi_tup (ve_of (pv 0))) (by kernel_rfl) (fun _ _ _ _ _ => (pg_name (i := 0) (show ((["_law_row_here"] : List Str) ++ (["_law_size"] : List Str)).Nodup by decide +kernel) rfl (Or.inl rfl) (.inr rfl))) (fun _ _ _ _ _ => vts_nil) (fun _ _ _ _ _ => (VM.ve (vm_call C_l_row (hr.mono (by decide)) rfl (va_cons (ve_of (pv 0)) (va_cons (ve_of (pv 1)) va_nil)))))) va_nil)))))))))
abbrev s_l_web_square : Stmt := top 19
theorem sc_l_web_square : FnScope (["_law_web_here", "_law_rows", "_law_house", "_law_row_here"] : List Str) (["_law_web_here"] : List Str) (defScope s_l_web_square) := ⟨rfl, rfl, rfl, by decide +kernel, rfl, by decide +kernel, by decide +kernel⟩
theorem ok_l_web_square (Df : Def K mg "_law_web_square" s_l_web_square) (B : Blt mg) : Cal P w K mg base "_law_web_square" (["_law_web_here"] : List Str) (spF K D_l_web_square 1) 1 :=
  def_ok (O := [1, 3]) (k := 0) 4 F_l_web_square Df sc_l_web_square (fun _ _ _ _ _ _ us hl => match us, hl with | [_], _ => rfl) rfl rfl (by decide) (fun fa cdv A outer s H E hr =>
    (vss_cons (vs_set (i := 1) sc_l_web_square.nd rfl (Or.inl rfl) (vm_lst vma_nil))
    (vss_cons (vs_for PassesOwn.never rfl (vi_range2 rfl B.range (va_cons ve_int (va_cons (ve_callB call_len rc_len rfl B.len (by decide +kernel) (va_cons (ve_of (pv 0)) va_nil)) va_nil))) (pg_name (i := 2) sc_l_web_square.nd rfl (Or.inr rfl)) (vss_cons (vs_setC (["_law_other"] : List Str) (["_law_web_here", "_law_house"] : List Str) [0, 2] (i := 3) sc_l_web_square.nd rfl rfl rfl (vi_range2 rfl B.range (va_cons ve_int (va_cons (ve_callB call_len rc_len rfl B.len (by decide +kernel) (va_cons (ve_of (pv 0)) va_nil)) va_nil))) (by kernel_rfl) (fun _ _ _ _ _ => (pg_name (i := 0) (show ((["_law_other"] : List Str) ++ (["_law_web_here", "_law_house"] : List Str)).Nodup by decide +kernel) rfl (Or.inl rfl) (.inr rfl))) (fun _ _ _ _ _ => vts_nil) (fun _ _ _ _ _ => (VE.pure (ve_sub ve_int (ve_item (ve_item (ve_of (pv 1)) (ve_of (pv 2))) (ve_of (pv 0)))))))
    (vss_cons (vs_setix (ps_asg (ve_callB (call_sumR rfl) rc_sum rfl B.sum (by decide +kernel) (va_cons (ve_item (ve_of (pv 0)) (ve_of (pv 2))) va_nil)) (pg_sub (pv 3) (ve_sub (ve_of (pv 2)) ve_int) set_list)))
    (vss_one (vs_append (ps_expr (pe_bm PySem.F.plainAttrs_list PySem.F.slot_list_append PySem.F.type_list_append mt_append (pv 1) (pa_cons (VE.pure (ve_callTy call_tuple_of rc_tuple rfl B.tuple (by decide +kernel) (va_cons (ve_of (pv 3)) va_nil))) pa_nil))))))))
    (vss_one (vs_ret (VE.pure (ve_callTy call_tuple_of rc_tuple rfl B.tuple (by decide +kernel) (va_cons (ve_of (pv 1)) va_nil))))))))
abbrev s_q_times : Stmt := top 17
theorem sc_q_times : FnScope (["_law_one", "_law_other", "_law_size", "_law_rows", "_law_i", "_law_row_here", "_law_j"] : List Str) (["_law_one", "_law_other"] : List Str) (defScope s_q_times) := ⟨rfl, rfl, rfl, by decide +kernel, rfl, by decide +kernel, by decide +kernel⟩
theorem ok_q_times (Df : Def K mg "_law_times" s_q_times) (B : Blt mg) : Cal P w K mg base "_law_times" (["_law_one", "_law_other"] : List Str) (spF K D_q_times 2) 1 :=
  def_ok (O := [3, 5]) (k := 0) 7 F_q_times Df sc_q_times (fun _ _ _ _ _ _ us hl => match us, hl with | [_, _], _ => rfl) rfl rfl (by decide) (fun fa cdv A outer s H E hr =>
    (vss_cons (vs_set (i := 2) sc_q_times.nd rfl (Or.inl rfl) (VE.pure (ve_callB call_len rc_len rfl B.len (by decide +kernel) (va_cons (ve_of (pv 0)) va_nil))))
    (vss_cons (vs_set (i := 3) sc_q_times.nd rfl (Or.inl rfl) (vm_lst vma_nil))
    (vss_cons (vs_for PassesOwn.never rfl (vi_range1 rfl B.range (va_cons (ve_of (pv 2)) va_nil)) (pg_name (i := 4) sc_q_times.nd rfl (Or.inr rfl)) (vss_cons (vs_set (i := 5) sc_q_times.nd rfl (Or.inl rfl) (vm_lst vma_nil))
    (vss_cons (vs_for PassesOwn.never rfl (vi_range1 rfl B.range (va_cons (ve_of (pv 2)) va_nil)) (pg_name (i := 6) sc_q_times.nd rfl (Or.inr rfl)) (vss_one (vs_append (ps_expr (pe_bm PySem.F.plainAttrs_list PySem.F.slot_list_append PySem.F.type_list_append mt_append (pv 5) (pa_cons (VE.pure (ve_callB (call_sumR rfl) rc_sum rfl B.sum (by decide +kernel) (va_cons (ve_comp (["_law_k"] : List Str) (["_law_j", "_law_one", "_law_i", "_law_other"] : List Str) [6, 0, 4, 1] rfl (vi_range1 rfl B.range (va_cons (ve_of (pv 2)) va_nil)) (by kernel_rfl) (fun _ _ _ _ _ => (pg_name (i := 0) (show ((["_law_k"] : List Str) ++ (["_law_j", "_law_one", "_law_i", "_law_other"] : List Str)).Nodup by decide +kernel) rfl (Or.inl rfl) (.inr rfl))) (fun _ _ _ _ _ => vts_nil) (fun _ _ _ _ _ => (ve_mulW (ve_item (ve_item (ve_of (pv 2)) (ve_of (pv 3))) (ve_of (pv 0))) (ve_item (ve_item (ve_of (pv 4)) (ve_of (pv 0))) (ve_of (pv 1)))))) va_nil))) pa_nil))))))
    (vss_one (vs_append (ps_expr (pe_bm PySem.F.plainAttrs_list PySem.F.slot_list_append PySem.F.type_list_append mt_append (pv 3) (pa_cons (VE.pure (ve_callTy call_tuple_of rc_tuple rfl B.tuple (by decide +kernel) (va_cons (ve_of (pv 5)) va_nil))) pa_nil))))))))
    (vss_one (vs_ret (VE.pure (ve_callTy call_tuple_of rc_tuple rfl B.tuple (by decide +kernel) (va_cons (ve_of (pv 3)) va_nil)))))))))
abbrev s_law : Stmt := top 22
theorem sc_law : FnScope (["_law_script", "_law_web_here", "_law_found", "_law_both", "_law_size", "_law_one", "_law_other"] : List Str) (["_law_script"] : List Str) (defScope s_law) := ⟨rfl, rfl, rfl, by decide +kernel, rfl, by decide +kernel, by decide +kernel⟩
theorem fn_law {ff : Addr} {fd : FuncData} (Fn : Fun K "law" "law" s_law ff fd) (B : Blt mg) (C_l_web : Cal P w K mg base "_law_web" (["_law_script", "_law_most"] : List Str) (spF K D_l_web 2) 2) (C_square_of : Cal P w K mg base "square_of" (["web"] : List Str) (spF K D_square_of 1) 4) (C_l_web_square : Cal P w K mg base "_law_web_square" (["_law_web_here"] : List Str) (spF K D_l_web_square 1) 1) (C_q_square : Cal P w K mg base "_law_square" (["_law_found", "_law_size"] : List Str) (spF K D_q_square 2) 3) (C_multiplied : Cal P w K mg base "multiplied" (["one", "other"] : List Str) (spF K D_multiplied 2) 3) (C_q_times : Cal P w K mg base "_law_times" (["_law_one", "_law_other"] : List Str) (spF K D_q_times 2) 1) (C_l_part : Cal P w K mg base "_law_part" (["_law_cell_here", "_law_turn", "_law_many"] : List Str) (spF K D_l_part 3) 1) (C_m_cell : Cal P w K mg base "_law_cell" (["_law_script", "_law_k"] : List Str) (spF K D_m_cell 2) 1) (C_l_drawn : Cal P w K mg base "_law_drawn" (["_law_script", "_law_at", "_law_size"] : List Str) (spF K D_l_drawn 3) 2) : FnOk P w K mg base CX0 5 ff fd (["_law_script"] : List Str) (spF K D_law 1) :=
  def_fn (O := []) (k := 4) 7 F_law Fn sc_law rfl rfl (by decide) (fun fa cdv A outer s H E hr =>
    (vss_cons (vs_set (i := 1) sc_law.nd rfl (Or.inl rfl) (vm_call C_l_web (hr.mono (by decide)) rfl (va_cons (ve_of (pv 0)) (va_cons ve_int va_nil))))
    (vss_cons (vs_set (i := 2) sc_law.nd rfl (Or.inl rfl) (vm_call C_square_of (hr.mono (by decide)) rfl (va_cons (ve_of (pv 1)) va_nil)))
    (vss_cons (vs_if (VW.vt (vw_or (vt_not (vt_val (VM.ve (vm_call C_q_square (hr.mono (by decide)) rfl (va_cons (ve_of (pv 2)) (va_cons (ve_sub (ve_callB call_len rc_len rfl B.len (by decide +kernel) (va_cons (ve_of (pv 1)) va_nil)) ve_int) va_nil)))))) (vw_or1 (vt_ne hr.units (ve_of (pv 2)) (VM.ve (vm_call C_l_web_square (hr.mono (by decide)) rfl (va_cons (ve_of (pv 1)) va_nil))))))) (vss_one (vs_ret (VE.pure ve_bl))) vss_nil)
    (vss_cons (vs_set (i := 3) sc_law.nd rfl (Or.inl rfl) (vm_call C_multiplied (hr.mono (by decide)) rfl (va_cons (ve_of (pv 2)) (va_cons (ve_of (pv 2)) va_nil))))
    (vss_cons (vs_if (VW.vt (vw_or (vt_not (vt_val (VM.ve (vm_call C_q_square (hr.mono (by decide)) rfl (va_cons (ve_of (pv 3)) (va_cons (ve_sub (ve_callB call_len rc_len rfl B.len (by decide +kernel) (va_cons (ve_of (pv 1)) va_nil)) ve_int) va_nil)))))) (vw_or1 (vt_ne hr.units (ve_of (pv 3)) (VM.ve (vm_call C_q_times (hr.mono (by decide)) rfl (va_cons (ve_of (pv 2)) (va_cons (ve_of (pv 2)) va_nil)))))))) (vss_one (vs_ret (VE.pure ve_bl))) vss_nil)
    (vss_cons (vs_set (i := 4) sc_law.nd rfl (Or.inl rfl) (vm_call C_l_part (hr.mono (by decide)) rfl (va_cons (VM.ve (vm_call C_m_cell (hr.mono (by decide)) rfl (va_cons (ve_of (pv 0)) (va_cons ve_int va_nil)))) (va_cons ve_int (va_cons ve_int va_nil)))))
    (vss_cons (vs_set (i := 5) sc_law.nd rfl (Or.inl rfl) (vm_call C_l_drawn (hr.mono (by decide)) rfl (va_cons (ve_of (pv 0)) (va_cons ve_int (va_cons (ve_of (pv 4)) va_nil)))))
    (vss_cons (vs_set (i := 6) sc_law.nd rfl (Or.inl rfl) (vm_call C_l_drawn (hr.mono (by decide)) rfl (va_cons (ve_of (pv 0)) (va_cons (ve_add ve_int (ve_mul (ve_of (pv 4)) (ve_of (pv 4)))) (va_cons (ve_of (pv 4)) va_nil)))))
    (vss_cons (vs_set (i := 3) sc_law.nd rfl (Or.inl rfl) (vm_call C_multiplied (hr.mono (by decide)) rfl (va_cons (ve_of (pv 5)) (va_cons (ve_of (pv 6)) va_nil))))
    (vss_one (vs_ret (VE.pure (ve_and (VM.ve (vm_call C_q_square (hr.mono (by decide)) rfl (va_cons (ve_of (pv 3)) (va_cons (ve_of (pv 4)) va_nil)))) (ve_one (ve_eq hr.units (ve_of (pv 3)) (VM.ve (vm_call C_q_times (hr.mono (by decide)) rfl (va_cons (ve_of (pv 5)) (va_cons (ve_of (pv 6)) va_nil))))))))))))))))))))
end
end PW
set_option Elab.async false
set_option linter.all false
set_option maxRecDepth 100000
set_option maxHeartbeats 4000000
namespace PW
open PySem L2 VL
theorem all_mk {P : Program} {w : World} {K : PySem.W.Frag} {h : Heap} {mg : Str → Option Value} {fa f0 f1 f2 f3 f4 f5 f6 f7 f8 f9 f10 f11 f12 f13 f14 f15 f16 f17 f18 : Addr} (X : K.In h) (G : h.Ns mainGlobals mg) (hfa : mg "law" = some (.ref fa))
    {od0 an0 od1 an1 od2 an2 od3 an3 od4 an4 od5 an5 od6 an6 od7 an7 od8 an8 od9 an9 od10 an10 od11 an11 od12 an12 od13 an13 od14 an14 od15 an15 od16 an16 od17 an17 od18 an18 : Option Addr} {sl0 sl1 sl2 sl3 sl4 sl5 sl6 sl7 sl8 sl9 sl10 sl11 sl12 sl13 sl14 sl15 sl16 sl17 sl18 : Array (Option Value)} {oc0 kV0 dc0 pm0 cd0 ct0 oc1 kV1 dc1 pm1 cd1 ct1 oc2 kV2 dc2 pm2 cd2 ct2 oc3 kV3 dc3 pm3 cd3 ct3 oc4 kV4 dc4 pm4 cd4 ct4 oc5 kV5 dc5 pm5 cd5 ct5 oc6 kV6 dc6 pm6 cd6 ct6 oc7 kV7 dc7 pm7 cd7 ct7 oc8 kV8 dc8 pm8 cd8 ct8 oc9 kV9 dc9 pm9 cd9 ct9 oc10 kV10 dc10 pm10 cd10 ct10 oc11 kV11 dc11 pm11 cd11 ct11 oc12 kV12 dc12 pm12 cd12 ct12 oc13 kV13 dc13 pm13 cd13 ct13 oc14 kV14 dc14 pm14 cd14 ct14 oc15 kV15 dc15 pm15 cd15 ct15 oc16 kV16 dc16 pm16 cd16 ct16 oc17 kV17 dc17 pm17 cd17 ct17 oc18 kV18 dc18 pm18 cd18 ct18 : Value}
    (a0 : PySem.W.nsIn K mainGlobals "_law_cell" = some (some (.ref f0))) (l0 : K.lookup f0 = some ⟨oc0, od0, .func (PySem.W.fnOf "_law_cell" "_law_cell" (defArgs s_m_cell) (defBody s_m_cell) (defScope s_m_cell) .none kV0 dc0 pm0 an0 cd0 ct0), sl0⟩) (c0 : PySem.W.codeIn K cd0 "_law_cell" = true) (k0 : PySem.W.keepIn K (.ref f0) = true)
    (a1 : PySem.W.nsIn K mainGlobals "_law_part" = some (some (.ref f1))) (l1 : K.lookup f1 = some ⟨oc1, od1, .func (PySem.W.fnOf "_law_part" "_law_part" (defArgs s_l_part) (defBody s_l_part) (defScope s_l_part) .none kV1 dc1 pm1 an1 cd1 ct1), sl1⟩) (c1 : PySem.W.codeIn K cd1 "_law_part" = true) (k1 : PySem.W.keepIn K (.ref f1) = true)
    (a2 : PySem.W.nsIn K mainGlobals "_law_tie" = some (some (.ref f2))) (l2 : K.lookup f2 = some ⟨oc2, od2, .func (PySem.W.fnOf "_law_tie" "_law_tie" (defArgs s_l_tie) (defBody s_l_tie) (defScope s_l_tie) .none kV2 dc2 pm2 an2 cd2 ct2), sl2⟩) (c2 : PySem.W.codeIn K cd2 "_law_tie" = true) (k2 : PySem.W.keepIn K (.ref f2) = true)
    (a3 : PySem.W.nsIn K mainGlobals "_law_web" = some (some (.ref f3))) (l3 : K.lookup f3 = some ⟨oc3, od3, .func (PySem.W.fnOf "_law_web" "_law_web" (defArgs s_l_web) (defBody s_l_web) (defScope s_l_web) .none kV3 dc3 pm3 an3 cd3 ct3), sl3⟩) (c3 : PySem.W.codeIn K cd3 "_law_web" = true) (k3 : PySem.W.keepIn K (.ref f3) = true)
    (a4 : PySem.W.nsIn K mainGlobals "ties_at" = some (some (.ref f4))) (l4 : K.lookup f4 = some ⟨oc4, od4, .func (PySem.W.fnOf "ties_at" "ties_at" (defArgs s_ties_at) (defBody s_ties_at) (defScope s_ties_at) .none kV4 dc4 pm4 an4 cd4 ct4), sl4⟩) (c4 : PySem.W.codeIn K cd4 "ties_at" = true) (k4 : PySem.W.keepIn K (.ref f4) = true)
    (a5 : PySem.W.nsIn K mainGlobals "row_of" = some (some (.ref f5))) (l5 : K.lookup f5 = some ⟨oc5, od5, .func (PySem.W.fnOf "row_of" "row_of" (defArgs s_row_of) (defBody s_row_of) (defScope s_row_of) .none kV5 dc5 pm5 an5 cd5 ct5), sl5⟩) (c5 : PySem.W.codeIn K cd5 "row_of" = true) (k5 : PySem.W.keepIn K (.ref f5) = true)
    (a6 : PySem.W.nsIn K mainGlobals "square_without" = some (some (.ref f6))) (l6 : K.lookup f6 = some ⟨oc6, od6, .func (PySem.W.fnOf "square_without" "square_without" (defArgs s_square_without) (defBody s_square_without) (defScope s_square_without) .none kV6 dc6 pm6 an6 cd6 ct6), sl6⟩) (c6 : PySem.W.codeIn K cd6 "square_without" = true) (k6 : PySem.W.keepIn K (.ref f6) = true)
    (a7 : PySem.W.nsIn K mainGlobals "square_of" = some (some (.ref f7))) (l7 : K.lookup f7 = some ⟨oc7, od7, .func (PySem.W.fnOf "square_of" "square_of" (defArgs s_square_of) (defBody s_square_of) (defScope s_square_of) .none kV7 dc7 pm7 an7 cd7 ct7), sl7⟩) (c7 : PySem.W.codeIn K cd7 "square_of" = true) (k7 : PySem.W.keepIn K (.ref f7) = true)
    (a8 : PySem.W.nsIn K mainGlobals "row_by_column" = some (some (.ref f8))) (l8 : K.lookup f8 = some ⟨oc8, od8, .func (PySem.W.fnOf "row_by_column" "row_by_column" (defArgs s_row_by_column) (defBody s_row_by_column) (defScope s_row_by_column) .none kV8 dc8 pm8 an8 cd8 ct8), sl8⟩) (c8 : PySem.W.codeIn K cd8 "row_by_column" = true) (k8 : PySem.W.keepIn K (.ref f8) = true)
    (a9 : PySem.W.nsIn K mainGlobals "row_times" = some (some (.ref f9))) (l9 : K.lookup f9 = some ⟨oc9, od9, .func (PySem.W.fnOf "row_times" "row_times" (defArgs s_row_times) (defBody s_row_times) (defScope s_row_times) .none kV9 dc9 pm9 an9 cd9 ct9), sl9⟩) (c9 : PySem.W.codeIn K cd9 "row_times" = true) (k9 : PySem.W.keepIn K (.ref f9) = true)
    (a10 : PySem.W.nsIn K mainGlobals "multiplied" = some (some (.ref f10))) (l10 : K.lookup f10 = some ⟨oc10, od10, .func (PySem.W.fnOf "multiplied" "multiplied" (defArgs s_multiplied) (defBody s_multiplied) (defScope s_multiplied) .none kV10 dc10 pm10 an10 cd10 ct10), sl10⟩) (c10 : PySem.W.codeIn K cd10 "multiplied" = true) (k10 : PySem.W.keepIn K (.ref f10) = true)
    (a11 : PySem.W.nsIn K mainGlobals "_law_number" = some (some (.ref f11))) (l11 : K.lookup f11 = some ⟨oc11, od11, .func (PySem.W.fnOf "_law_number" "_law_number" (defArgs s_l_number) (defBody s_l_number) (defScope s_l_number) .none kV11 dc11 pm11 an11 cd11 ct11), sl11⟩) (c11 : PySem.W.codeIn K cd11 "_law_number" = true) (k11 : PySem.W.keepIn K (.ref f11) = true)
    (a12 : PySem.W.nsIn K mainGlobals "_law_drawn" = some (some (.ref f12))) (l12 : K.lookup f12 = some ⟨oc12, od12, .func (PySem.W.fnOf "_law_drawn" "_law_drawn" (defArgs s_l_drawn) (defBody s_l_drawn) (defScope s_l_drawn) .none kV12 dc12 pm12 an12 cd12 ct12), sl12⟩) (c12 : PySem.W.codeIn K cd12 "_law_drawn" = true) (k12 : PySem.W.keepIn K (.ref f12) = true)
    (a13 : PySem.W.nsIn K mainGlobals "_law_whole" = some (some (.ref f13))) (l13 : K.lookup f13 = some ⟨oc13, od13, .func (PySem.W.fnOf "_law_whole" "_law_whole" (defArgs s_l_whole) (defBody s_l_whole) (defScope s_l_whole) .none kV13 dc13 pm13 an13 cd13 ct13), sl13⟩) (c13 : PySem.W.codeIn K cd13 "_law_whole" = true) (k13 : PySem.W.keepIn K (.ref f13) = true)
    (a14 : PySem.W.nsIn K mainGlobals "_law_row" = some (some (.ref f14))) (l14 : K.lookup f14 = some ⟨oc14, od14, .func (PySem.W.fnOf "_law_row" "_law_row" (defArgs s_l_row) (defBody s_l_row) (defScope s_l_row) .none kV14 dc14 pm14 an14 cd14 ct14), sl14⟩) (c14 : PySem.W.codeIn K cd14 "_law_row" = true) (k14 : PySem.W.keepIn K (.ref f14) = true)
    (a15 : PySem.W.nsIn K mainGlobals "_law_square" = some (some (.ref f15))) (l15 : K.lookup f15 = some ⟨oc15, od15, .func (PySem.W.fnOf "_law_square" "_law_square" (defArgs s_q_square) (defBody s_q_square) (defScope s_q_square) .none kV15 dc15 pm15 an15 cd15 ct15), sl15⟩) (c15 : PySem.W.codeIn K cd15 "_law_square" = true) (k15 : PySem.W.keepIn K (.ref f15) = true)
    (a16 : PySem.W.nsIn K mainGlobals "_law_web_square" = some (some (.ref f16))) (l16 : K.lookup f16 = some ⟨oc16, od16, .func (PySem.W.fnOf "_law_web_square" "_law_web_square" (defArgs s_l_web_square) (defBody s_l_web_square) (defScope s_l_web_square) .none kV16 dc16 pm16 an16 cd16 ct16), sl16⟩) (c16 : PySem.W.codeIn K cd16 "_law_web_square" = true) (k16 : PySem.W.keepIn K (.ref f16) = true)
    (a17 : PySem.W.nsIn K mainGlobals "_law_times" = some (some (.ref f17))) (l17 : K.lookup f17 = some ⟨oc17, od17, .func (PySem.W.fnOf "_law_times" "_law_times" (defArgs s_q_times) (defBody s_q_times) (defScope s_q_times) .none kV17 dc17 pm17 an17 cd17 ct17), sl17⟩) (c17 : PySem.W.codeIn K cd17 "_law_times" = true) (k17 : PySem.W.keepIn K (.ref f17) = true)
    (a18 : PySem.W.nsIn K mainGlobals "law" = some (some (.ref f18))) (l18 : K.lookup f18 = some ⟨oc18, od18, .func (PySem.W.fnOf "law" "law" (defArgs s_law) (defBody s_law) (defScope s_law) .none kV18 dc18 pm18 an18 cd18 ct18), sl18⟩) (c18 : PySem.W.codeIn K cd18 "law" = true) (k18 : PySem.W.keepIn K (.ref f18) = true)
    (z0 : PySem.W.nsIn K mainGlobals "len" = some none)
    (z1 : PySem.W.nsIn K mainGlobals "sum" = some none)
    (z2 : PySem.W.nsIn K mainGlobals "range" = some none)
    (z3 : PySem.W.nsIn K mainGlobals "enumerate" = some none)
    (z4 : PySem.W.nsIn K mainGlobals "zip" = some none)
    (z5 : PySem.W.nsIn K mainGlobals "tuple" = some none)
    (z6 : PySem.W.nsIn K mainGlobals "list" = some none)
    (z7 : PySem.W.nsIn K mainGlobals "all" = some none)
    (z8 : PySem.W.nsIn K mainGlobals "any" = some none)
    (z9 : PySem.W.nsIn K mainGlobals "isinstance" = some none)
    (z10 : PySem.W.nsIn K mainGlobals "int" = some none)
    (z11 : PySem.W.nsIn K mainGlobals "bool" = some none)
    (z12 : PySem.W.nsIn K mainGlobals "str" = some none)
    (z13 : PySem.W.nsIn K mainGlobals "min" = some none)
    (z14 : PySem.W.nsIn K mainGlobals "max" = some none)
    (z15 : PySem.W.nsIn K mainGlobals "sorted" = some none)
    (z16 : PySem.W.nsIn K mainGlobals "abs" = some none)
    (z17 : PySem.W.nsIn K mainGlobals "ValueError" = some none)
    (z18 : PySem.W.nsIn K mainGlobals "reversed" = some none)
    : ∃ fd : FuncData, (∀ (s : Shared) (u : Value), BindsTo s fd ⟨[u], []⟩ [("_law_script", u)]) ∧ ∀ base : Heap, K.In base → base.Ns mainGlobals mg → FnOk P w K mg base CX0 5 fa fd ["_law_script"] (spF K D_law 1) := by
  have B : Blt mg := ⟨PySem.W.mg_none_of X G z0, PySem.W.mg_none_of X G z1, PySem.W.mg_none_of X G z2, PySem.W.mg_none_of X G z3, PySem.W.mg_none_of X G z4, PySem.W.mg_none_of X G z5, PySem.W.mg_none_of X G z6, PySem.W.mg_none_of X G z7, PySem.W.mg_none_of X G z8, PySem.W.mg_none_of X G z9, PySem.W.mg_none_of X G z10, PySem.W.mg_none_of X G z11, PySem.W.mg_none_of X G z12, PySem.W.mg_none_of X G z13, PySem.W.mg_none_of X G z14, PySem.W.mg_none_of X G z15, PySem.W.mg_none_of X G z16, PySem.W.mg_none_of X G z17, PySem.W.mg_none_of X G z18⟩
  have d0 : Def K mg "_law_cell" s_m_cell := def_mk X G a0 l0 c0 k0
  have d1 : Def K mg "_law_part" s_l_part := def_mk X G a1 l1 c1 k1
  have d2 : Def K mg "_law_tie" s_l_tie := def_mk X G a2 l2 c2 k2
  have d3 : Def K mg "_law_web" s_l_web := def_mk X G a3 l3 c3 k3
  have d4 : Def K mg "ties_at" s_ties_at := def_mk X G a4 l4 c4 k4
  have d5 : Def K mg "row_of" s_row_of := def_mk X G a5 l5 c5 k5
  have d6 : Def K mg "square_without" s_square_without := def_mk X G a6 l6 c6 k6
  have d7 : Def K mg "square_of" s_square_of := def_mk X G a7 l7 c7 k7
  have d8 : Def K mg "row_by_column" s_row_by_column := def_mk X G a8 l8 c8 k8
  have d9 : Def K mg "row_times" s_row_times := def_mk X G a9 l9 c9 k9
  have d10 : Def K mg "multiplied" s_multiplied := def_mk X G a10 l10 c10 k10
  have d11 : Def K mg "_law_number" s_l_number := def_mk X G a11 l11 c11 k11
  have d12 : Def K mg "_law_drawn" s_l_drawn := def_mk X G a12 l12 c12 k12
  have d13 : Def K mg "_law_whole" s_l_whole := def_mk X G a13 l13 c13 k13
  have d14 : Def K mg "_law_row" s_l_row := def_mk X G a14 l14 c14 k14
  have d15 : Def K mg "_law_square" s_q_square := def_mk X G a15 l15 c15 k15
  have d16 : Def K mg "_law_web_square" s_l_web_square := def_mk X G a16 l16 c16 k16
  have d17 : Def K mg "_law_times" s_q_times := def_mk X G a17 l17 c17 k17
  have d18 : Def K mg "law" s_law := def_mk X G a18 l18 c18 k18
  refine law_head d18 hfa (fun _ _ _ _ _ _ _ => rfl) fun base f fd _ _ F => ?_
  have C_m_cell := ok_m_cell (P := P) (w := w) (base := base) d0 B 
  have C_l_part := ok_l_part (P := P) (w := w) (base := base) d1 B 
  have C_l_tie := ok_l_tie (P := P) (w := w) (base := base) d2 B 
  have C_l_web := ok_l_web (P := P) (w := w) (base := base) d3 B C_m_cell C_l_part C_l_tie
  have C_ties_at := ok_ties_at (P := P) (w := w) (base := base) d4 B 
  have C_row_of := ok_row_of (P := P) (w := w) (base := base) d5 B C_ties_at
  have C_square_without := ok_square_without (P := P) (w := w) (base := base) d6 B C_row_of
  have C_square_of := ok_square_of (P := P) (w := w) (base := base) d7 B C_square_without
  have C_row_by_column := ok_row_by_column (P := P) (w := w) (base := base) d8 B 
  have C_row_times := ok_row_times (P := P) (w := w) (base := base) d9 B C_row_by_column
  have C_multiplied := ok_multiplied (P := P) (w := w) (base := base) d10 B C_row_times
  have C_l_number := ok_l_number (P := P) (w := w) (base := base) d11 B 
  have C_l_drawn := ok_l_drawn (P := P) (w := w) (base := base) d12 B C_l_number C_m_cell
  have C_l_whole := ok_l_whole (P := P) (w := w) (base := base) d13 B 
  have C_l_row := ok_l_row (P := P) (w := w) (base := base) d14 B C_l_whole
  have C_q_square := ok_q_square (P := P) (w := w) (base := base) d15 B C_l_row
  have C_l_web_square := ok_l_web_square (P := P) (w := w) (base := base) d16 B 
  have C_q_times := ok_q_times (P := P) (w := w) (base := base) d17 B 
  exact fn_law F B C_l_web C_square_of C_l_web_square C_q_square C_multiplied C_q_times C_l_part C_m_cell C_l_drawn
end PW
open PySem PySem.W PyProof.Rows
set_option maxRecDepth 100000 in
set_option maxHeartbeats 0 in
theorem PySem.Challenge.cw_purseweb_k61_squares_holds : PySem.Challenge.rw_purseweb_k61_squares.Holds := by
  w_on; o_law; k_head; (case hw => w_witness2)
  k_fill
  refine VL.law_walkB (l := PySem.Challenge.rw_purseweb_k61_squares) (D := PW.D_law) (x := "_law_script") 5 rfl rfl ⟨rfl, by decide, by decide, rfl⟩ PW.law_true (fun w h Y => PySem.W.kIn_of Y) ?F
  case F =>
    intro w mg fa h KX G hmg
    refine' PW.all_mk KX G hmg ?a0 ?l0 ?c0 ?k0 ?a1 ?l1 ?c1 ?k1 ?a2 ?l2 ?c2 ?k2 ?a3 ?l3 ?c3 ?k3 ?a4 ?l4 ?c4 ?k4 ?a5 ?l5 ?c5 ?k5 ?a6 ?l6 ?c6 ?k6 ?a7 ?l7 ?c7 ?k7 ?a8 ?l8 ?c8 ?k8 ?a9 ?l9 ?c9 ?k9 ?a10 ?l10 ?c10 ?k10 ?a11 ?l11 ?c11 ?k11 ?a12 ?l12 ?c12 ?k12 ?a13 ?l13 ?c13 ?k13 ?a14 ?l14 ?c14 ?k14 ?a15 ?l15 ?c15 ?k15 ?a16 ?l16 ?c16 ?k16 ?a17 ?l17 ?c17 ?k17 ?a18 ?l18 ?c18 ?k18 ?z0 ?z1 ?z2 ?z3 ?z4 ?z5 ?z6 ?z7 ?z8 ?z9 ?z10 ?z11 ?z12 ?z13 ?z14 ?z15 ?z16 ?z17 ?z18
    (case a0 => k_is)
    (case l0 => k_is)
    (case c0 => k_is)
    (case k0 => k_is)
    (case a1 => k_is)
    (case l1 => k_is)
    (case c1 => k_is)
    (case k1 => k_is)
    (case a2 => k_is)
    (case l2 => k_is)
    (case c2 => k_is)
    (case k2 => k_is)
    (case a3 => k_is)
    (case l3 => k_is)
    (case c3 => k_is)
    (case k3 => k_is)
    (case a4 => k_is)
    (case l4 => k_is)
    (case c4 => k_is)
    (case k4 => k_is)
    (case a5 => k_is)
    (case l5 => k_is)
    (case c5 => k_is)
    (case k5 => k_is)
    (case a6 => k_is)
    (case l6 => k_is)
    (case c6 => k_is)
    (case k6 => k_is)
    (case a7 => k_is)
    (case l7 => k_is)
    (case c7 => k_is)
    (case k7 => k_is)
    (case a8 => k_is)
    (case l8 => k_is)
    (case c8 => k_is)
    (case k8 => k_is)
    (case a9 => k_is)
    (case l9 => k_is)
    (case c9 => k_is)
    (case k9 => k_is)
    (case a10 => k_is)
    (case l10 => k_is)
    (case c10 => k_is)
    (case k10 => k_is)
    (case a11 => k_is)
    (case l11 => k_is)
    (case c11 => k_is)
    (case k11 => k_is)
    (case a12 => k_is)
    (case l12 => k_is)
    (case c12 => k_is)
    (case k12 => k_is)
    (case a13 => k_is)
    (case l13 => k_is)
    (case c13 => k_is)
    (case k13 => k_is)
    (case a14 => k_is)
    (case l14 => k_is)
    (case c14 => k_is)
    (case k14 => k_is)
    (case a15 => k_is)
    (case l15 => k_is)
    (case c15 => k_is)
    (case k15 => k_is)
    (case a16 => k_is)
    (case l16 => k_is)
    (case c16 => k_is)
    (case k16 => k_is)
    (case a17 => k_is)
    (case l17 => k_is)
    (case c17 => k_is)
    (case k17 => k_is)
    (case a18 => k_is)
    (case l18 => k_is)
    (case c18 => k_is)
    (case k18 => k_is)
    (case z0 => k_is)
    (case z1 => k_is)
    (case z2 => k_is)
    (case z3 => k_is)
    (case z4 => k_is)
    (case z5 => k_is)
    (case z6 => k_is)
    (case z7 => k_is)
    (case z8 => k_is)
    (case z9 => k_is)
    (case z10 => k_is)
    (case z11 => k_is)
    (case z12 => k_is)
    (case z13 => k_is)
    (case z14 => k_is)
    (case z15 => k_is)
    (case z16 => k_is)
    (case z17 => k_is)
    (case z18 => k_is)
