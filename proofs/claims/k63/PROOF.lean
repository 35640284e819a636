import PyProof.Rows.All
import Wide.All
import OpenK.AllK
import Wide.FinOn
import Lean
import PyProof.EqAt
import PyProof.EqKinds
import PyProof.TupleCall
import PySem.Challenge.RW_feastwheel_k63_rules_as_wheels
set_option Elab.async false
set_option linter.all false
set_option maxRecDepth 100000
namespace L2
open PySem PySem.Spec PyProof.Rows

/-- a key: an int or a str -/
abbrev Key := Sum Int Str
def keyIs : Key → Value → Bool
  | .inl k, v => Value.isInt k v
  | .inr x, v => Value.isStrOf x v
def keyH (w : World) : Key → Int
  | .inl k => hashInt k
  | .inr x => hashStr w x
theorem keyIs_shape : ∀ {k : Key} {v : Value}, keyIs k v = true → (∃ i t, k = Sum.inl i ∧ v = Value.int i t) ∨ (∃ x t, k = Sum.inr x ∧ v = Value.str x t)
  | .inl i, v, h => by
    obtain ⟨t, e⟩ := Value.isInt_shape (k := i) (v := v) h
    exact .inl ⟨i, t, rfl, e⟩
  | .inr x, v, h => by
    obtain ⟨t, e⟩ := Value.isStrOf_shape (x := x) (v := v) h
    exact .inr ⟨x, t, rfl, e⟩
theorem key_ll (a b : Int) : decide ((Sum.inl a : Key) = Sum.inl b) = (a == b) := by
  by_cases e : a = b
  · subst e; simp
  · have h : ¬ (Sum.inl a : Key) = Sum.inl b := fun q => e (Sum.inl.inj q)
    rw [decide_eq_false h]
    exact (beq_eq_false_iff_ne.mpr e).symm
theorem key_rr (a b : Str) : decide ((Sum.inr a : Key) = Sum.inr b) = decide (a = b) := by
  by_cases e : a = b
  · subst e; simp
  · have h : ¬ (Sum.inr a : Key) = Sum.inr b := fun q => e (Sum.inr.inj q)
    rw [decide_eq_false h, decide_eq_false e]
theorem key_lr (a : Int) (b : Str) : decide ((Sum.inl a : Key) = Sum.inr b) = false := decide_eq_false (fun q => nomatch q)
theorem key_rl (a : Str) (b : Int) : decide ((Sum.inr a : Key) = Sum.inl b) = false := decide_eq_false (fun q => nomatch q)

def mixKind (prog : Program) (w : World) : PySem.KeyKind prog w Key where
  is := keyIs
  hash := keyH w
  inj := fun v a b ha hb => by
    rcases keyIs_shape ha with ⟨i, t, rfl, rfl⟩ | ⟨x, t, rfl, rfl⟩
    · rcases keyIs_shape hb with ⟨j, u, rfl, e⟩ | ⟨y, u, rfl, e⟩
      · injection e with e1 _; rw [e1]
      · exact nomatch e
    · rcases keyIs_shape hb with ⟨j, u, rfl, e⟩ | ⟨y, u, rfl, e⟩
      · exact nomatch e
      · injection e with e1 _; rw [e1]
  byValue := fun k v h => by
    rcases keyIs_shape h with ⟨i, t, rfl, rfl⟩ | ⟨x, t, rfl, rfl⟩ <;> rfl
  pyHash := fun hv h => by
    rcases keyIs_shape hv with ⟨i, t, rfl, rfl⟩ | ⟨x, t, rfl, rfl⟩
    · exact wpAny_pyHash_int h
    · exact wpAny_pyHash_str h
  eqBool := fun hu hv h => by
    rcases keyIs_shape hu with ⟨i, t, rfl, rfl⟩ | ⟨x, t, rfl, rfl⟩
    · rcases keyIs_shape hv with ⟨j, u, rfl, rfl⟩ | ⟨y, u, rfl, rfl⟩
      · rw [key_ll] at h; exact wpAny_eqBool_int h
      · rw [key_lr] at h; exact SeqAt.EqAt.int_str i t y u _ _ _ _ h
    · rcases keyIs_shape hv with ⟨j, u, rfl, rfl⟩ | ⟨y, u, rfl, rfl⟩
      · rw [key_rl] at h; exact SeqAt.EqAt.str_int x t j u _ _ _ _ h
      · rw [key_rr] at h; exact wpAny_eqBool_str h
  «strs» := fun k x t v h => by
    rcases keyIs_shape h with ⟨i, u, rfl, e⟩ | ⟨y, u, rfl, e⟩
    · exact nomatch e
    · injection e with e1 _
      subst e1
      cases v <;> rfl

end L2

namespace L2
open PySem PySem.Spec PyProof.Rows

/-- a value, without the heap -/
inductive V where
  | non | bl (b : Bool) | int (i : Int) | str (x : Str) | byt (b : Array UInt8) | flt (b : UInt64) | ref (a : Addr) | ty (n : String)
  deriving DecidableEq

def RelV : V → Value → Prop
  | .non, u => u = Value.none
  | .bl b, u => u = Value.bool b
  | .int i, u => ∃ t, u = Value.int i t
  | .str x, u => ∃ t, u = Value.str x t
  | .byt b, u => ∃ t, u = Value.bytes b t
  | .flt b, u => ∃ t, u = Value.float b t
  | .ref a, u => u = Value.ref a
  | .ty n, u => u = Value.type n

abbrev Vals : List V → List Value → Prop := Paired RelV
theorem Vals.length {xs : List V} {us : List Value} (r : Vals xs us) : xs.length = us.length := Paired.length r
theorem Vals.get : ∀ {xs : List V} {us : List Value} {i : Nat} {x : V}, Vals xs us → xs[i]? = some x → ∃ u, us[i]? = some u ∧ RelV x u
  | _, _, _, _, .nil, e => by simp at e
  | _, _, 0, _, .cons r _, e => by simp at e; subst e; exact ⟨_, rfl, r⟩
  | _, _, i + 1, x, .cons _ t, e => by
    obtain ⟨u, h1, h2⟩ := Vals.get (i := i) (x := x) t (by simpa using e)
    exact ⟨u, by simpa using h1, h2⟩
theorem Vals.set {x : V} {u : Value} (r : RelV x u) : ∀ {xs : List V} {us : List Value} (i : Nat), Vals xs us → Vals (xs.set i x) (us.set i u)
  | _, _, _, .nil => .nil
  | _, _, 0, .cons _ t => .cons r t
  | _, _, i + 1, .cons q t => .cons q (Vals.set r i t)
theorem Vals.append : ∀ {xs ys : List V} {us ws : List Value}, Vals xs us → Vals ys ws → Vals (xs ++ ys) (us ++ ws)
  | _, _, _, _, .nil, s => s
  | _, _, _, _, .cons r t, s => .cons r (Vals.append t s)
theorem Vals.take : ∀ {xs : List V} {us : List Value} (n : Nat), Vals xs us → Vals (xs.take n) (us.take n)
  | _, _, 0, _ => .nil
  | _, _, _ + 1, .nil => .nil
  | _, _, n + 1, .cons r t => .cons r (Vals.take n t)
theorem Vals.drop : ∀ {xs : List V} {us : List Value} (n : Nat), Vals xs us → Vals (xs.drop n) (us.drop n)
  | _, _, 0, r => r
  | _, _, _ + 1, .nil => .nil
  | _, _, n + 1, .cons _ t => Vals.drop n t
theorem Vals.none_of : ∀ {xs : List V} {us : List Value} {i : Nat}, Vals xs us → xs[i]? = none → us[i]? = none := fun {xs us i} r e => by
  have h1 := r.length
  have h2 : xs.length ≤ i := List.getElem?_eq_none_iff.mp e
  exact List.getElem?_eq_none_iff.mpr (by omega)

def RelO : Option V → Option Value → Prop
  | some v, some u => RelV v u
  | none, none => True
  | _, _ => False
def KV {κ : Type} : List (κ × V) → List (κ × Value) → Prop := Paired fun (p : κ × V) (q : κ × Value) => p.1 = q.1 ∧ RelV p.2 q.2

/-- a key of a dict (00_mix): an int or a text -/
def kV : Key → V
  | .inl i => .int i
  | .inr x => .str x

/-- what stands at a tracked address -/
inductive HO where
  /-- a list -/
  | lst (xs : List V)
  /-- a tuple (never changes) -/
  | tup (xs : List V)
  /-- a dict whose keys are ints and texts; one whose keys are tuples of ints and texts (the empty one is both) -/
  | dK (kvs : List (Key × V)) | dT (kvs : List (List Key × V))
  /-- a set of ints: its members, its size -/
  | set (S : Int → Bool) (n : Nat)
  /-- an instance of the class at C, its dict at dx, its attributes -/
  | ins (C dx : Addr) (fs : List (Str × V))
  /-- the dict of the instance at x -/
  | own (x : Addr)
  /-- the dict of an exception -/
  | xd (fs : List (Str × V))
  /-- a bound method, f of x -/
  | met (f x : Addr)
  /-- a range object lo, lo + 1, .. below hi -/
  | rng (lo hi : Int)
  /-- a thing that is known to the object (the script; a dict while a loop walks it): read, never written while it is so -/
  | frz (o : Obj) (u : HO)
  /-- a code object's table -/
  | tbl (ps : Array Value)
  /-- any other thing, by what is true of its one object (a def of one's own: SetO a S n := HO.ext fun h => ..) -/
  | ext (φ : Heap → Prop)

abbrev Hp := Addr → Option HO
def upd (H : Hp) (a : Addr) (o : HO) : Hp := fun b => if b = a then some o else H b
theorem upd_same {H : Hp} {a : Addr} {o : HO} : upd H a o a = some o := by unfold upd; rw [if_pos rfl]
theorem upd_ne {H : Hp} {a b : Addr} {o : HO} (h : b ≠ a) : upd H a o b = H b := by unfold upd; rw [if_neg h]
theorem upd_upd {H : Hp} {a : Addr} {o u : HO} : upd (upd H a o) a u = upd H a u := by
  funext b; unfold upd; split <;> rfl
/-- two objects of different content stand apart -/
theorem ne_of {H : Hp} {a b : Addr} {o u : HO} (h : H a = some o) (h' : H b = some u) (d : o ≠ u) : a ≠ b := by
  intro e; subst e; rw [h] at h'; exact d (Option.some.inj h')
theorem ne_of_none {H : Hp} {a b : Addr} {o : HO} (h : H a = some o) (h' : H b = none) : a ≠ b := by
  intro e; subst e; rw [h] at h'; cases h'

section
variable (P : Program) (w : World)
def ObjOk (H : Hp) (h : Heap) (a : Addr) : HO → Prop
  | .lst xs => xs.length ≤ sizeLine ∧ ∃ (its : List Value) (n : Nat), Vals xs its ∧ h.get? a = some { cls := .type "list", data := .seq its.toArray n }
  | .tup xs => xs.length ≤ sizeLine ∧ ∃ its : List Value, Vals xs its ∧ IsTup h a its.toArray
  | .dK kvs => kvs.length ≤ sizeLine ∧ (a == sysModules) = false ∧ ∃ vs, KV kvs vs ∧ h.DictOf (mixKind P w) a vs
  | .dT kvs => kvs.length ≤ sizeLine ∧ (a == sysModules) = false ∧ ∃ xs : List (List Key × Addr × Value),
      Paired (fun (p : List Key × V) (q : List Key × Addr × Value) => p.1 = q.1 ∧ H q.2.1 = some (.tup (p.1.map kV)) ∧ RelV p.2 q.2.2) kvs xs ∧
      ∃ o es ep, h.get? a = some o ∧ o.ExactDict ∧ o.data = .dict es ep ∧ es.toList = xs.map (entryOfKey (tupleKind (mixKind P w))) ∧ (xs.map (·.1)).Nodup
  | .set S n => h.SetOf (intKind P w) a S n
  | .ins C dx fs => H dx = some (.own a) ∧ fs.length ≤ 1000 ∧ dx ≠ a ∧ h.get? a = some (PySem.W.instObj C dx) ∧
      ∃ mA, h.Ns1 dx mA ∧ (∀ f, RelO (fs.lookup f) (mA f)) ∧ PySem.Within mA (fs.map (·.1))
  | .own _ => ∃ o, h.get? a = some o
  | .xd fs => ∃ mA, h.Ns1 a mA ∧ ∀ f, RelO (fs.lookup f) (mA f)
  | .rng lo hi => ∃ t u v, h.get? a = some { cls := .type "range", data := .fields #[.int lo t, .int hi u, .int 1 v] }
  | .frz o u => h.get? a = some o ∧ ObjOk H h a u
  | .tbl ps => h.get? a = some { cls := .none, data := .fields ps }
  | .met f x => h.get? a = some (PySem.W.methodObj (.ref f) (.ref x))
  | .ext φ => φ h ∧ (∃ o, h.get? a = some o) ∧ ∀ h1 h2 : Heap, φ h1 → (∀ o, h1.get? a = some o → h2.get? a = some o) → φ h2
/-- the abstract heap is held -/
def HOk (H : Hp) (h : Heap) : Prop := ∀ a o, H a = some o → ObjOk P w H h a o
end

section
variable {P : Program} {w : World} {H H' : Hp} {h h' : Heap} {a : Addr} {o : HO}
theorem ObjOk.lt (x : ObjOk P w H h a o) : a < h.objs.size := by
  cases o with
  | lst xs => obtain ⟨_, _, _, _, e⟩ := x; exact Heap.lt_size e
  | tup xs => obtain ⟨_, _, _, p⟩ := x; exact p.lt
  | dK kvs => obtain ⟨_, _, _, _, o, _, _, e, _⟩ := x; exact Heap.lt_size e
  | dT kvs => obtain ⟨_, _, _, _, o, _, _, e, _⟩ := x; exact Heap.lt_size e
  | set S n => obtain ⟨o, _, _, _, e, _⟩ := x; exact Heap.lt_size e
  | ins C dx fs => obtain ⟨_, _, _, e, _⟩ := x; exact Heap.lt_size e
  | own y => obtain ⟨_, e⟩ := x; exact Heap.lt_size e
  | xd fs => obtain ⟨_, ⟨_, _, _, e, _⟩, _⟩ := x; exact Heap.lt_size e
  | rng lo hi => obtain ⟨_, _, _, e⟩ := x; exact Heap.lt_size e
  | frz ob u => obtain ⟨e, _⟩ := x; exact Heap.lt_size e
  | tbl ps => exact Heap.lt_size (show h.get? a = some _ from x)
  | met f y => exact Heap.lt_size (show h.get? a = some _ from x)
  | ext φ => obtain ⟨_, ⟨_, e⟩, _⟩ := x; exact Heap.lt_size e
theorem Paired.mapP {α β : Type} {F G : α → β → Prop} : ∀ {l₁ : List α} {l₂ : List β}, Paired F l₁ l₂ → (∀ a b, F a b → G a b) → Paired G l₁ l₂
  | _, _, .nil, _ => .nil
  | _, _, .cons r t, f => .cons (f _ _ r) (Paired.mapP t f)
/-- what an object's description leans on: its own object, its own dict, the tuples -/
theorem ObjOk.stay (x : ObjOk P w H h a o) (k : ∀ b u, (b = a ∨ H b = some (.own a)) → h.get? b = some u → h'.get? b = some u)
    (ho : ∀ b, H b = some (.own a) → H' b = some (.own a)) (ht : ∀ b xs, H b = some (.tup xs) → H' b = some (.tup xs)) : ObjOk P w H' h' a o := by
  induction o with
  | lst xs => obtain ⟨z, its, n, r, e⟩ := x; exact ⟨z, its, n, r, k _ _ (.inl rfl) e⟩
  | tup xs => obtain ⟨z, its, r, ob, e, c⟩ := x; exact ⟨z, its, r, ob, k _ _ (.inl rfl) e, c⟩
  | dK kvs => obtain ⟨z, y, vs, r, ob, es, ep, e, c⟩ := x; exact ⟨z, y, vs, r, ob, es, ep, k _ _ (.inl rfl) e, c⟩
  | dT kvs =>
    obtain ⟨z, y, xs, r, ob, es, ep, e, c⟩ := x
    exact ⟨z, y, xs, Paired.mapP r fun p q z => ⟨z.1, ht _ _ z.2.1, z.2.2⟩, ob, es, ep, k _ _ (.inl rfl) e, c⟩
  | set S n => obtain ⟨ob, es, ep, t, e, c⟩ := x; exact ⟨ob, es, ep, t, k _ _ (.inl rfl) e, c⟩
  | ins C dx fs =>
    obtain ⟨d, z, ne, e, mA, ⟨od, es, ep, e2, c⟩, r⟩ := x
    exact ⟨ho _ d, z, ne, k _ _ (.inl rfl) e, mA, ⟨od, es, ep, k _ _ (.inr d) e2, c⟩, r⟩
  | own y => obtain ⟨ob, e⟩ := x; exact ⟨ob, k _ _ (.inl rfl) e⟩
  | xd fs => obtain ⟨mA, ⟨od, es, ep, e, c⟩, r⟩ := x; exact ⟨mA, ⟨od, es, ep, k _ _ (.inl rfl) e, c⟩, r⟩
  | rng lo hi => obtain ⟨t, u, v, e⟩ := x; exact ⟨t, u, v, k _ _ (.inl rfl) e⟩
  | frz ob u ih => obtain ⟨e, q⟩ := x; exact ⟨k _ _ (.inl rfl) e, ih q⟩
  | tbl ps =>
    have e : h.get? a = some { cls := .none, data := .fields ps } := x
    show h'.get? a = some { cls := .none, data := .fields ps }
    exact k a _ (.inl rfl) e
  | met f y =>
    have e : h.get? a = some (PySem.W.methodObj (.ref f) (.ref y)) := x
    show h'.get? a = some (PySem.W.methodObj (.ref f) (.ref y))
    exact k a _ (.inl rfl) e
  | ext φ => obtain ⟨p, ⟨o, e⟩, st⟩ := x; exact ⟨st _ _ p fun o q => k _ _ (.inl rfl) q, ⟨o, k _ _ (.inl rfl) e⟩, st⟩
theorem HOk.lt (x : HOk P w H h) (e : H a = some o) : a < h.objs.size := (x a o e).lt
theorem HOk.fresh (x : HOk P w H h) (e : h.objs.size ≤ a) : H a = none := by
  cases q : H a with
  | none => rfl
  | some u => exact absurd (Nat.lt_of_lt_of_le (x.lt q) e) (Nat.lt_irrefl _)
/-- every object of the heap is kept -/
theorem HOk.kept (x : HOk P w H h) (k : ∀ b u, h.get? b = some u → h'.get? b = some u) : HOk P w H h' := fun a o e =>
  (x a o e).stay (fun b u _ q => k b u q) (fun _ q => q) fun _ _ q => q
/-- a new object is laid and tracked -/
theorem HOk.laid (x : HOk P w H h) (k : ∀ b u, h.get? b = some u → h'.get? b = some u) (hp : h.objs.size ≤ a) (new : ObjOk P w (upd H a o) h' a o) : HOk P w (upd H a o) h' := fun b u e => by
  have hn := x.fresh hp
  by_cases hb : b = a
  · subst hb; rw [upd_same] at e; cases e; exact new
  · rw [upd_ne hb] at e
    exact (x b u e).stay (fun c v _ q => k c v q) (fun c q => by rw [upd_ne (ne_of_none q hn)]; exact q) fun c xs q => by rw [upd_ne (ne_of_none q hn)]; exact q
end

/-- what may be read as u: it is u, or a known u -/
def Rd (H : Hp) (a : Addr) (u : HO) : Prop := H a = some u ∨ ∃ o, H a = some (.frz o u)
theorem Rd.of {H : Hp} {a : Addr} {u : HO} (h : H a = some u) : Rd H a u := .inl h
theorem Rd.ok {P : Program} {w : World} {H : Hp} {h : Heap} {a : Addr} {u : HO} (r : Rd H a u) (x : HOk P w H h) : ObjOk P w H h a u := by
  rcases r with r | ⟨o, r⟩
  · exact x a u r
  · obtain ⟨_, q⟩ := x a _ r
    exact q
/-- what may be written -/
def Mut : Option HO → Prop
  | some (.lst _) => True
  | some (.dK _) => True
  | some (.dT _) => True
  | some (.set _ _) => True
  | some (.ins _ _ _) => True
  | some (.ext _) => True
  | _ => False
section
variable {P : Program} {w : World} {H : Hp} {h h' : Heap} {x e : Addr} {o' : HO}
/-- the object at e is changed: x itself, or the dict of the instance x -/
theorem HOk.write (ok : HOk P w H h) (mu : Mut (H x)) (he : e = x ∨ H e = some (.own x)) (k : ∀ b u, b ≠ e → h.get? b = some u → h'.get? b = some u) (heo : ∃ u, h'.get? e = some u)
    (new : ObjOk P w (upd H x o') h' x o') : HOk P w (upd H x o') h' := fun b u q => by
  have nown : ∀ c y, H c = some (.own y) → c ≠ x := fun c y r z => by subst z; rw [r] at mu; exact mu
  have ntup : ∀ c xs, H c = some (.tup xs) → c ≠ x := fun c xs r z => by subst z; rw [r] at mu; exact mu
  by_cases hb : b = x
  · subst hb; rw [upd_same] at q; cases q; exact new
  · rw [upd_ne hb] at q
    by_cases hbe : b = e
    · have q' : H b = some (.own x) := by
        rcases he with z | z
        · exact absurd (hbe.trans z) hb
        · rw [hbe]; exact z
      rw [q] at q'; cases q'
      obtain ⟨v, hv⟩ := heo
      exact ⟨v, by rw [hbe]; exact hv⟩
    · refine (ok b u q).stay (fun c v hc r => k c v ?_ r) (fun c r => by rw [upd_ne (nown c b r)]; exact r) fun c xs r => by rw [upd_ne (ntup c xs r)]; exact r
      rcases hc with rfl | hc
      · exact hbe
      · rintro rfl
        rcases he with z | z
        · exact nown c b hc z
        · rw [hc] at z; cases z; exact hb rfl
end

structure Un (fs ex : List Addr) (H H' : Hp) (h h' : Heap) : Prop where
  keep : ∀ b o, h.get? b = some o → H b = none → b ∉ fs → b ∉ ex → h'.get? b = some o
  slot : ∀ b o, h.get? b = some o → H b = none → b ∈ fs → b ∉ ex → ∃ sl, h'.get? b = some { o with slots := sl }
  free : ∀ b o, h.get? b = some o → H b = none → b ∉ ex → H' b = none
  there : ∀ b o, h.get? b = some o → b ∉ ex → ∃ o', h'.get? b = some o'
  tups : ∀ b xs, H b = some (.tup xs) → H' b = some (.tup xs)
  frzs : ∀ b o u, H b = some (.frz o u) → H' b = some (.frz o u)
  tbls : ∀ b ps, H b = some (.tbl ps) → ∃ more, H' b = some (.tbl (ps ++ more))
section
variable {fs fs' ex ex' : List Addr} {H H1 H2 : Hp} {h h1 h2 h' : Heap} {a x e : Addr} {o : HO}
theorem Un.any (u : Un fs ex H H1 h h1) {b : Addr} {ob : Obj} (q : h.get? b = some ob) (n : H b = none) (hx : b ∉ ex) : ∃ sl, h1.get? b = some { ob with slots := sl } := by
  by_cases hb : b ∈ fs
  · exact u.slot b ob q n hb hx
  · exact ⟨ob.slots, u.keep b ob q n hb hx⟩
theorem Un.trans (a : Un fs ex H H1 h h1) (b : Un fs ex H1 H2 h1 h2) : Un fs ex H H2 h h2 where
  keep := fun c ob q n hc hx => b.keep c ob (a.keep c ob q n hc hx) (a.free c ob q n hx) hc hx
  slot := fun c ob q n hc hx => by
    obtain ⟨sl, e1⟩ := a.slot c ob q n hc hx
    obtain ⟨sl', e2⟩ := b.slot c _ e1 (a.free c ob q n hx) hc hx
    exact ⟨sl', e2⟩
  free := fun c ob q n hx => by
    obtain ⟨o', e1⟩ := a.there c ob q hx
    exact b.free c o' e1 (a.free c ob q n hx) hx
  there := fun c ob q hx => by
    obtain ⟨o', e1⟩ := a.there c ob q hx
    exact b.there c o' e1 hx
  tups := fun c xs q => b.tups c xs (a.tups c xs q)
  frzs := fun c ob xs q => b.frzs c ob xs (a.frzs c ob xs q)
  tbls := fun c ps q => by
    obtain ⟨m1, e1⟩ := a.tbls c ps q
    obtain ⟨m2, e2⟩ := b.tbls c _ e1
    exact ⟨m1 ++ m2, by rw [e2, Array.append_assoc]⟩
theorem Un.kept (k : ∀ b u, h.get? b = some u → h'.get? b = some u) : Un fs ex H H h h' :=
  ⟨fun b ob q _ _ _ => k b ob q, fun b ob q _ _ _ => ⟨ob.slots, k b ob q⟩, fun _ _ _ n _ => n, fun b ob q _ => ⟨ob, k b ob q⟩, fun _ _ q => q, fun _ _ _ q => q, fun _ ps q => ⟨#[], by rw [q]; simp⟩⟩
theorem Un.refl : Un fs ex H H h h := Un.kept fun _ _ q => q
theorem Un.laid (k : ∀ b u, h.get? b = some u → h'.get? b = some u) (hp : h.objs.size ≤ a) (hn : H a = none) : Un fs ex H (upd H a o) h h' where
  keep := fun b u q _ _ _ => k b u q
  slot := fun b u q _ _ _ => ⟨u.slots, k b u q⟩
  free := fun b u q n _ => by rw [upd_ne (Nat.ne_of_lt (Nat.lt_of_lt_of_le (Heap.lt_size q) hp))]; exact n
  there := fun b u q _ => ⟨u, k b u q⟩
  tups := fun b xs q => by rw [upd_ne (ne_of_none q hn)]; exact q
  frzs := fun b u xs q => by rw [upd_ne (ne_of_none q hn)]; exact q
  tbls := fun b ps q => ⟨#[], by rw [upd_ne (ne_of_none q hn), q]; simp⟩
theorem Un.write (mu : Mut (H x)) (he : e = x ∨ H e = some (.own x)) (k : ∀ b u, b ≠ e → h.get? b = some u → h'.get? b = some u) (heo : ∃ u, h'.get? e = some u) : Un fs ex H (upd H x o) h h' := by
  have hx : ∀ b, H b = none → b ≠ x := fun b n z => by subst z; rw [n] at mu; exact mu
  have hb : ∀ b, H b = none → b ≠ e := fun b n z => by
    subst z
    rcases he with r | r
    · exact hx b n r
    · rw [n] at r; cases r
  have hm : ∀ b u, H b = some u → ¬ Mut (some u) → b ≠ x := fun b u q nm z => by subst z; rw [q] at mu; exact nm mu
  refine ⟨fun b u q n _ _ => k b u (hb b n) q, fun b u q n _ _ => ⟨u.slots, k b u (hb b n) q⟩, fun b u q n _ => by rw [upd_ne (hx b n)]; exact n, fun b u q _ => ?_,
    fun b xs q => by rw [upd_ne (hm b _ q fun z => z)]; exact q, fun b u xs q => by rw [upd_ne (hm b _ q fun z => z)]; exact q, fun b ps q => ⟨#[], by rw [upd_ne (hm b _ q fun z => z), q]; simp⟩⟩
  by_cases hbe : b = e
  · subst hbe; exact heo
  · exact ⟨u, k b u hbe q⟩
theorem Un.mono (u : Un fs ex H H1 h h1) (hs : ∀ b ∈ fs, b ∈ fs') (hx : ∀ b ∈ ex, b ∈ ex') : Un fs' ex' H H1 h h1 :=
  ⟨fun b ob q n hb he => u.keep b ob q n (fun z => hb (hs b z)) fun z => he (hx b z), fun _ _ q n _ he => u.any q n fun z => he (hx _ z), fun b ob q n he => u.free b ob q n fun z => he (hx b z), fun b ob q he => u.there b ob q fun z => he (hx b z), u.tups, u.frzs, u.tbls⟩
end

def trk (h : Heap) (H : Hp) : List Addr := (List.range h.objs.size).filter fun a => (H a).isSome
def hidT (h : Heap) (H : Hp) : Heap := PySem.W.hideAll h (trk h H)
theorem hidT_size (h : Heap) (H : Hp) : (hidT h H).objs.size = h.objs.size := PySem.W.hideAll_size _ _
theorem hidT_get {h : Heap} {H : Hp} {b : Addr} {o : Obj} (e : h.get? b = some o) (n : H b = none) : (hidT h H).get? b = some o :=
  PySem.W.hideAll_get _ e fun hm => by
    have q : (H b).isSome = true := (List.mem_filter.mp hm).2
    rw [n] at q; simp at q
theorem of_hidT {h : Heap} {H : Hp} {b : Addr} {o : Obj} (e : (hidT h H).get? b = some o) : h.get? b = some o ∧ H b = none := by
  have e' : h.get? b = some o := PySem.W.of_hideAll (trk h H) e
  refine ⟨e', ?_⟩
  cases q : H b with
  | none => rfl
  | some x =>
    have hm : b ∈ trk h H := List.mem_filter.mpr ⟨List.mem_range.mpr (Heap.lt_size e'), by simp [q]⟩
    have z : (hidT h H).get? b = none := PySem.W.hideAll_none (trk h H) hm
    rw [z] at e; cases e

def allNews (g h : Heap) (L : Addr) : List (Addr × Obj) := (List.range h.objs.size).filterMap fun a => if a = L ∨ (g.get? a).isSome = true then none else (h.get? a).map fun o => (a, o)
def rest (g h : Heap) (L d : Addr) : List (Addr × Obj) := (allNews g h L).filter fun p => decide (p.1 ≠ d)
end L2

namespace L2
open PySem PySem.Spec PyProof.Rows

/-- the module's facts, over the base: the heap at the law's entry without what is tracked there -/
structure Mod (K : PySem.W.Frag) (mg : Str → Option Value) (base : Heap) : Prop where
  kin : K.In base
  glob : base.Ns mainGlobals mg
  blt : ∃ mb, base.Ns builtinsNs mb ∧ ∀ x : Str, x ≠ "__name__" → mb x = bootBuiltins x
  nolimit : base.NoLimit

/-- the context: a def's body (or a comprehension's block) running. base: fixed through the whole law; s₀, H₀: the entry; outer: the frames whose slots others may change (a def's callers); stack: all frames that run;
   ex: iterators that were made ahead of the entry and are walked here (a comprehension's); fn: the names whose cells were made at the entry (a def: all; a comprehension's block: its own); calm: not within an except suite; pn: pins that every state bears; xe: what is wanted of an exception that leaves the code -/
structure Cx where
  prog : Program
  w : World
  K : PySem.W.Frag
  mg : Str → Option Value
  base : Heap
  A : Around
  N : List Str
  s₀ : Shared
  H₀ : Hp
  env : Env
  outer : List Env
  stack : List Env
  ex : List Addr
  fn : Str → Bool
  calm : Bool
  pn : List (Addr × Obj)
  xe : Value → Shared → Prop
/-- the callers' frames -/
def frs (l : List Env) : List Addr := l.filterMap (·.frame)
abbrev Cx.fs (X : Cx) : List Addr := frs X.outer

def Vis (sc : Scope) (x : Str) : Prop := sc.names.lookup x = some .local ∨ sc.names.lookup x = some .cell ∨ sc.names.lookup x = some .free
def Loc (sc : Scope) (x : Str) : Prop := sc.names.lookup x = some .local ∨ sc.names.lookup x = some .cell
def Look (env : Env) (h : Heap) (m : Str → Option Value) (x : Str) (u : Value) : Prop :=
  (env.kindOf x = some .local ∧ m x = some u) ∨ ((env.kindOf x = some .cell ∨ env.kindOf x = some .free) ∧ ∃ c, env.cells.lookup x = some c ∧ h.IsCell c (some u))

structure Cx.Ok (X : Cx) : Prop where
  mod : Mod X.K X.mg X.base
  kind : X.env.scope.kind = .function
  glob : X.env.globals = mainGlobals
  blt : X.env.builtins = builtinsNs
  above : X.s₀.heap.objs.size ≤ X.env.locals
  inj : ∀ x y c, X.env.cells.lookup x = some c → X.env.cells.lookup y = some c → x = y
  has : ∀ x, (X.env.kindOf x = some .cell ∨ X.env.kindOf x = some .free) → ∃ c, X.env.cells.lookup x = some c
  cab : ∀ x c, X.fn x = true → X.env.cells.lookup x = some c → X.s₀.heap.objs.size ≤ c
  hd : X.calm = true → X.A.handled = none
  frames : X.A.frames = some X.stack
  stk : X.stack = X.outer ∨ (X.stack = X.env :: X.outer ∧ X.env.frame = some X.env.locals)
  exf : ∀ b ∈ X.ex, b ≠ X.env.locals ∧ ∀ x c, X.env.cells.lookup x = some c → c ≠ b
  bs : ∀ b o, X.base.get? b = some o → X.s₀.heap.get? b = some o ∧ X.H₀ b = none
  bsz : X.base.objs.size ≤ X.s₀.heap.objs.size
  noex : ∀ b o, X.base.get? b = some o → b ∉ X.ex
  exfs : ∀ b ∈ X.ex, b ∉ X.fs
  funs : X.s₀.heap.FunFrames X.base X.outer
  frf : ∀ b ∈ X.fs, X.H₀ b = none

structure Inv (X : Cx) (pins : List (Addr × Obj)) (σ : List (Option V)) (H : Hp) (s : Shared) : Prop where
  ok : X.Ok
  os : s.os = X.s₀.os
  bare : AllBare s.gens
  base : Un X.fs X.ex X.H₀ H X.s₀.heap s.heap
  loc : ∃ m, s.heap.Ns X.env.locals m ∧ ∀ (i : Nat) (x : Str) (v : V), X.N[i]? = some x → σ[i]? = some (some v) → Vis X.env.scope x → ∃ u, RelV v u ∧ Look X.env s.heap m x u
  cell : ∀ x c, X.env.cells.lookup x = some c → ∃ v, s.heap.IsCell c v
  free : H X.env.locals = none
  freeC : ∀ x c, X.env.cells.lookup x = some c → H c = none
  pin : ∀ p ∈ X.pn ++ pins, s.heap.get? p.1 = some p.2 ∧ H p.1 = none ∧ p.1 ≠ X.env.locals ∧ p.1 ∉ X.fs ∧ ∀ v, p.2.data ≠ .cell v
  hok : HOk X.prog X.w H s.heap
  len : σ.length = X.N.length

section
variable {X : Cx} {pins : List (Addr × Obj)} {σ : List (Option V)} {H H' : Hp} {s : Shared} {h' : Heap}

theorem Cx.Ok.nofr (ok : X.Ok) {b : Addr} {o : Obj} (e : X.base.get? b = some o) : b ∉ X.fs := fun hb => by
  have := (ok.funs.mem hb).1
  rw [e] at this; cases this
theorem Inv.bs (I : Inv X pins σ H s) : ∀ b o, X.base.get? b = some o → s.heap.get? b = some o ∧ H b = none := fun b o e =>
  ⟨I.base.keep b o (I.ok.bs b o e).1 (I.ok.bs b o e).2 (I.ok.nofr e) (I.ok.noex b o e), I.base.free b o (I.ok.bs b o e).1 (I.ok.bs b o e).2 (I.ok.noex b o e)⟩
theorem Inv.bk (I : Inv X pins σ H s) : ∀ b o, X.base.get? b = some o → s.heap.get? b = some o := fun b o e => (I.bs b o e).1
theorem Inv.mod (I : Inv X pins σ H s) : Mod X.K X.mg X.base := I.ok.mod
theorem Inv.kIn (I : Inv X pins σ H s) : X.K.In s.heap := I.ok.mod.kin.keeps I.bk
theorem Inv.nolimit (I : Inv X pins σ H s) : s.heap.NoLimit := I.ok.mod.nolimit.keeps I.bk
/-- the frame over the base: for OpenK's rules (K.In X.base is I.mod.kin) -/
theorem Inv.fr (I : Inv X pins σ H s) : ∃ m, Fr X.base X.env.locals s.heap m :=
  let ⟨m, hn, _⟩ := I.loc
  ⟨m, hn, I.bk, Nat.le_trans I.ok.bsz I.ok.above⟩
theorem Inv.lt (I : Inv X pins σ H s) : X.env.locals < s.heap.objs.size := let ⟨_, hn, _⟩ := I.loc; hn.lt
theorem Inv.sz (I : Inv X pins σ H s) : X.s₀.heap.objs.size ≤ s.heap.objs.size := Nat.le_trans I.ok.above (Nat.le_of_lt I.lt)
theorem Inv.nofs (I : Inv X pins σ H s) {a : Addr} (h : s.heap.objs.size ≤ a) : a ∉ X.fs := fun hb => by
  obtain ⟨_, o, ho, _⟩ := I.ok.funs.mem hb
  exact absurd (Nat.lt_of_lt_of_le (Heap.lt_size ho) (Nat.le_trans I.sz h)) (Nat.lt_irrefl _)
theorem Inv.cne (I : Inv X pins σ H s) : ∀ x c, X.env.cells.lookup x = some c → c ≠ X.env.locals := fun x c e z => by
  obtain ⟨v, o, ho, hd⟩ := I.cell x c e
  obtain ⟨m, ⟨o', es, ep, ho', hd', _⟩, _⟩ := I.loc
  rw [z, ho'] at ho; cases ho; rw [hd'] at hd; cases hd
theorem Inv.funs (I : Inv X pins σ H s) : s.heap.FunFrames X.base X.outer := by
  have all : ∀ (l : List Env), (∀ b ∈ frs l, b ∈ X.fs) → X.s₀.heap.FunFrames X.base l → s.heap.FunFrames X.base l := by
    intro l
    induction l with
    | nil => intro _ _; trivial
    | cons env r ih =>
      intro hs hl
      obtain ⟨hk, ⟨L, o, hf, hn, ho, hd⟩, hr⟩ := hl
      have hL : L ∈ X.fs := hs L (by unfold frs; rw [List.filterMap_cons, hf]; exact List.mem_cons_self)
      obtain ⟨sl, e⟩ := I.base.slot L o ho (I.ok.frf L hL) hL fun z => I.ok.exfs L z hL
      exact ⟨hk, ⟨L, _, hf, hn, e, hd⟩, ih (fun b hb => hs b (by unfold frs; rw [List.filterMap_cons, hf]; exact List.mem_cons_of_mem _ hb)) hr⟩
  exact all X.outer (fun _ hb => hb) I.ok.funs

/-- the frames that run, for a call -/
theorem Inv.stack (I : Inv X pins σ H s) : s.heap.FunFrames X.base X.stack := by
  rcases I.ok.stk with e | ⟨e, hf⟩
  · rw [e]; exact I.funs
  · rw [e]
    obtain ⟨m, hn, _⟩ := I.loc
    refine .cons (by rw [I.ok.kind]; decide) hf hn ?_ I.funs
    exact Heap.get?_none_of_le (Nat.le_trans I.ok.bsz I.ok.above)
theorem Inv.stkSub (I : Inv X pins σ H s) : ∀ b ∈ frs X.stack, b ∈ X.env.locals :: X.fs := fun b hb => by
  rcases I.ok.stk with e | ⟨e, hf⟩
  · rw [e] at hb; exact List.mem_cons_of_mem _ hb
  · rw [e] at hb
    unfold frs at hb
    rw [List.filterMap_cons, hf] at hb
    exact hb
theorem Inv.stkFree (I : Inv X pins σ H s) : ∀ b ∈ frs X.stack, H b = none := fun b hb => by
  rcases List.mem_cons.mp (I.stkSub b hb) with e | hb
  · rw [e]; exact I.free
  · obtain ⟨_, o, ho, _⟩ := I.ok.funs.mem hb
    exact I.base.free b o ho (I.ok.frf b hb) fun z => I.ok.exfs b z hb

/-- THE STEP: the untracked objects but the frame and the records at ch are kept (the callers' frames up to slots), the frame's map is kept, the new abstract heap is held -/
theorem Inv.step {g' : Array GenState} {t' : Nat} {d' : Drawn} {ch : List Addr} (I : Inv X pins σ H s)
    (hch : ∀ b ∈ ch, (b ∈ X.ex ∨ X.s₀.heap.objs.size ≤ b) ∧ b ≠ X.env.locals ∧ (∀ x c, X.env.cells.lookup x = some c → c ≠ b) ∧ ∀ p ∈ X.pn ++ pins, p.1 ≠ b)
    (keep : ∀ b o, b ≠ X.env.locals → b ∉ X.fs → b ∉ ch → s.heap.get? b = some o → H b = none → h'.get? b = some o)
    (slot : ∀ b o, b ≠ X.env.locals → b ∈ X.fs → b ∉ ch → s.heap.get? b = some o → H b = none → ∃ sl, h'.get? b = some { o with slots := sl }) (free : ∀ b o, b ∉ ch → s.heap.get? b = some o → H b = none → H' b = none)
    (there : ∀ b o, b ∉ ch → s.heap.get? b = some o → ∃ o', h'.get? b = some o')
    (tups : ∀ b xs, H b = some (.tup xs) → H' b = some (.tup xs)) (frzs : ∀ b o u, H b = some (.frz o u) → H' b = some (.frz o u)) (tbls : ∀ b ps, H b = some (.tbl ps) → ∃ more, H' b = some (.tbl (ps ++ more)))
    (ns : ∀ m, s.heap.Ns X.env.locals m → h'.Ns X.env.locals m) (hok : HOk X.prog X.w H' h') (hg : AllBare g') :
    Inv X pins σ H' { s with heap := h', gens := g', drawn := d', toks := t' } := by
  have neL : ∀ b o, X.s₀.heap.get? b = some o → b ≠ X.env.locals := fun b o e => Nat.ne_of_lt (Nat.lt_of_lt_of_le (Heap.lt_size e) I.ok.above)
  have neC : ∀ b o, X.s₀.heap.get? b = some o → b ∉ X.ex → b ∉ ch := fun b o e hx hb => by
    rcases (hch b hb).1 with z | z
    · exact hx z
    · exact absurd (Nat.lt_of_lt_of_le (Heap.lt_size e) z) (Nat.lt_irrefl _)
  have cellK : ∀ x c, X.env.cells.lookup x = some c → ∀ v, s.heap.IsCell c v → h'.IsCell c v := fun x c e v ⟨o, ho, hd⟩ => by
    have nch : c ∉ ch := fun z => (hch c z).2.2.1 x c e rfl
    by_cases hc : c ∈ X.fs
    · obtain ⟨sl, q⟩ := slot c o (I.cne x c e) hc nch ho (I.freeC x c e)
      exact ⟨_, q, hd⟩
    · exact ⟨o, keep c o (I.cne x c e) hc nch ho (I.freeC x c e), hd⟩
  refine ⟨I.ok, I.os, hg, ⟨fun b o e n hb hx => ?_, fun b o e n hb hx => ?_, fun b o e n hx => ?_, fun b o e hx => ?_, fun b xs e => tups b xs (I.base.tups b xs e), fun b o xs e => frzs b o xs (I.base.frzs b o xs e), fun b ps e => ?_⟩, ?_, fun x c e => ?_, ?_, fun x c e => ?_, fun p hp => ?_, hok, I.len⟩
  · exact keep b o (neL b o e) hb (neC b o e hx) (I.base.keep b o e n hb hx) (I.base.free b o e n hx)
  · obtain ⟨sl, e1⟩ := I.base.slot b o e n hb hx
    obtain ⟨sl', e2⟩ := slot b _ (neL b o e) hb (neC b o e hx) e1 (I.base.free b o e n hx)
    exact ⟨sl', e2⟩
  · obtain ⟨o', e1⟩ := I.base.there b o e hx
    exact free b o' (neC b o e hx) e1 (I.base.free b o e n hx)
  · obtain ⟨o', e1⟩ := I.base.there b o e hx
    exact there b o' (neC b o e hx) e1
  · obtain ⟨m1, e1⟩ := I.base.tbls b ps e
    obtain ⟨m2, e2⟩ := tbls b _ e1
    exact ⟨m1 ++ m2, by rw [e2, Array.append_assoc]⟩
  · obtain ⟨m, hn, hl⟩ := I.loc
    refine ⟨m, ns m hn, fun i x v e1 e2 e3 => ?_⟩
    obtain ⟨u, r, l⟩ := hl i x v e1 e2 e3
    refine ⟨u, r, ?_⟩
    rcases l with l | ⟨k, c, e, z⟩
    · exact .inl l
    · exact .inr ⟨k, c, e, cellK x c e _ z⟩
  · obtain ⟨v, z⟩ := I.cell x c e
    exact ⟨v, cellK x c e v z⟩
  · obtain ⟨m, ⟨o, _, _, ho, _⟩, _⟩ := I.loc
    exact free _ o (fun z => (hch _ z).2.1 rfl) ho I.free
  · obtain ⟨v, o, ho, hd⟩ := I.cell x c e
    exact free c o (fun z => (hch c z).2.2.1 x c e rfl) ho (I.freeC x c e)
  · obtain ⟨e, n, ne, nf, d⟩ := I.pin p hp
    have nch : p.1 ∉ ch := fun z => (hch p.1 z).2.2.2 p hp rfl
    exact ⟨keep p.1 p.2 ne nf nch e n, free p.1 p.2 nch e n, ne, nf, d⟩
/-- .. where the frame's own object is kept too -/
theorem Inv.un {t' : Nat} (I : Inv X pins σ H s) (u : Un X.fs [] H H' s.heap h') (hok : HOk X.prog X.w H' h') : Inv X pins σ H' { s with heap := h', toks := t' } := by
  obtain ⟨m, ⟨o, es, ep, ho, r⟩, _⟩ := id I.loc
  obtain ⟨sl, hL⟩ := u.any ho I.free (by simp)
  exact I.step (g' := s.gens) (d' := s.drawn) (ch := []) (fun _ z => nomatch z) (fun b o _ hb _ e n => u.keep b o e n hb (by simp)) (fun b o _ hb _ e n => u.slot b o e n hb (by simp)) (fun b o _ e n => u.free b o e n (by simp)) (fun b o _ e => u.there b o e (by simp)) u.tups u.frzs u.tbls (fun m' hm => by
    obtain ⟨o', es', ep', ho', r'⟩ := hm
    rw [ho] at ho'; cases ho'
    exact ⟨_, es', ep', hL, r'⟩) hok I.bare
/-- behind a call (or a comprehension's block): the slots of this frame may have changed too, the records at ch may have turned -/
theorem Inv.call {g' : Array GenState} {t' : Nat} {d' : Drawn} {ch : List Addr} (I : Inv X pins σ H s) (u : Un (frs X.stack) ch H H' s.heap h') (hok : HOk X.prog X.w H' h') (hg : AllBare g')
    (hch : ∀ b ∈ ch, (b ∈ X.ex ∨ X.s₀.heap.objs.size ≤ b) ∧ b ≠ X.env.locals ∧ (∀ x c, X.env.cells.lookup x = some c → c ≠ b) ∧ ∀ p ∈ X.pn ++ pins, p.1 ≠ b) :
    Inv X pins σ H' { s with heap := h', gens := g', drawn := d', toks := t' } := by
  obtain ⟨m, ⟨o, es, ep, ho, r⟩, _⟩ := id I.loc
  obtain ⟨sl, hL⟩ := u.any ho I.free fun z => (hch _ z).2.1 rfl
  exact I.step (ch := ch) hch (fun b o hL hb hc e n => u.keep b o e n (fun z => (List.mem_cons.mp (I.stkSub b z)).elim hL hb) hc) (fun b o _ _ hc e n => u.any e n hc) (fun b o hc e n => u.free b o e n hc) (fun b o hc e => u.there b o e hc) u.tups u.frzs u.tbls (fun m' hm => by
    obtain ⟨o', es', ep', ho', r'⟩ := hm
    rw [ho] at ho'; cases ho'
    exact ⟨_, es', ep', hL, r'⟩) hok hg
/-- an untracked record of ours (an iterator) has turned -/
theorem Inv.turned {t' : Nat} {it : Addr} (I : Inv X pins σ H s) (k : ∀ b o, b ≠ it → s.heap.get? b = some o → h'.get? b = some o) (hn : H it = none) (hL : it ≠ X.env.locals)
    (h1 : it ∈ X.ex ∨ X.s₀.heap.objs.size ≤ it) (h2 : ∀ x c, X.env.cells.lookup x = some c → c ≠ it) (h3 : ∀ p ∈ X.pn ++ pins, p.1 ≠ it) : Inv X pins σ H { s with heap := h', toks := t' } := by
  have nit : ∀ b u, H b = some u → b ≠ it := fun b u e z => by rw [z, hn] at e; cases e
  refine I.step (g' := s.gens) (d' := s.drawn) (ch := [it]) (fun b hb => ?_) (fun b o _ _ hc e _ => k b o (fun z => hc (by simp [z])) e) (fun b o _ _ hc e _ => ⟨o.slots, k b o (fun z => hc (by simp [z])) e⟩) (fun _ _ _ _ n => n)
    (fun b o hc e => ⟨o, k b o (fun z => hc (by simp [z])) e⟩) (fun _ _ e => e) (fun _ _ _ e => e) (fun b ps e => ⟨#[], by rw [e]; simp⟩) (fun m hm => ?_) (fun b u e => ?_) I.bare
  · have e : b = it := by simpa using hb
    subst e
    exact ⟨h1, hL, h2, h3⟩
  · obtain ⟨o, es, ep, ho, r⟩ := hm
    exact ⟨o, es, ep, k _ o (Ne.symm hL) ho, r⟩
  · refine (I.hok b u e).stay (fun c v hc q => k c v ?_ q) (fun _ q => q) fun _ _ q => q
    rcases hc with z | z
    · rw [z]; exact nit b u e
    · exact nit c _ z
theorem Inv.tok (I : Inv X pins σ H s) (t : Nat) : Inv X pins σ H { s with toks := t } := I.un (h' := s.heap) (t' := t) Un.refl I.hok
/-- all objects kept -/
theorem Inv.kept {t' : Nat} (I : Inv X pins σ H s) (k : ∀ b u, s.heap.get? b = some u → h'.get? b = some u) : Inv X pins σ H { s with heap := h', toks := t' } := I.un (Un.kept k) (I.hok.kept k)
/-- a new object laid and tracked -/
theorem Inv.laid {a : Addr} {o : HO} {t' : Nat} (I : Inv X pins σ H s) (k : ∀ b u, s.heap.get? b = some u → h'.get? b = some u) (hp : s.heap.objs.size ≤ a) (new : ObjOk X.prog X.w (upd H a o) h' a o) :
    Inv X pins σ (upd H a o) { s with heap := h', toks := t' } := I.un (Un.laid k hp (I.hok.fresh hp)) (I.hok.laid k hp new)
/-- an object written -/
theorem Inv.write {x e : Addr} {o : HO} {t' : Nat} (I : Inv X pins σ H s) (mu : Mut (H x)) (he : e = x ∨ H e = some (.own x)) (k : ∀ b u, b ≠ e → s.heap.get? b = some u → h'.get? b = some u) (heo : ∃ u, h'.get? e = some u)
    (new : ObjOk X.prog X.w (upd H x o) h' x o) : Inv X pins σ (upd H x o) { s with heap := h', toks := t' } := I.un (Un.write mu he k heo) (I.hok.write mu he k heo new)
theorem Inv.pins_of {pins' : List (Addr × Obj)} (I : Inv X pins σ H s) (h : ∀ p ∈ pins', s.heap.get? p.1 = some p.2 ∧ H p.1 = none ∧ p.1 ≠ X.env.locals ∧ p.1 ∉ X.fs ∧ ∀ v, p.2.data ≠ .cell v) : Inv X pins' σ H s :=
  ⟨I.ok, I.os, I.bare, I.base, I.loc, I.cell, I.free, I.freeC, fun p hp => (List.mem_append.mp hp).elim (fun z => I.pin p (List.mem_append_left _ z)) (h p), I.hok, I.len⟩

theorem nodup_ix {N : List Str} (hN : N.Nodup) {i j : Nat} {x : Str} (a : N[i]? = some x) (b : N[j]? = some x) : i = j := by
  obtain ⟨h1, e1⟩ := List.getElem?_eq_some_iff.mp a
  obtain ⟨h2, e2⟩ := List.getElem?_eq_some_iff.mp b
  exact (List.getElem_inj hN).mp (e1.trans e2.symm)

/-- a name is stored; what changed -/
theorem store_ok2 {M : Model} {A : Around} {E : Value → Shared → Prop} {i : Nat} {x : Str} {v : V} {u : Value} {Q : Unit → Shared → Prop} (I : Inv X pins σ H s) (hN : X.N.Nodup) (hi : X.N[i]? = some x) (hx : Loc X.env.scope x) (r : RelV v u)
    (h : ∀ s', Inv X pins (σ.set i (some v)) H s' → (∃ a, Heap.SameBut a s.heap s'.heap ∧ (a = X.env.locals ∨ X.env.cells.lookup x = some a)) → Q () s') (hf : X.fn x = true ∨ X.env.scope.names.lookup x = some .local := by first | exact .inl rfl | exact .inr rfl | assumption) : wpAny M A (storeName X.env x u) Q E s := by
  obtain ⟨m, hn, hl⟩ := id I.loc
  have hcls : (X.env.scope.kind == .class || (X.env.scope.kind == .module && X.env.locals != X.env.globals)) = false := by rw [I.ok.kind]; rfl
  have hiσ : i < σ.length := by rw [I.len]; exact (List.getElem?_eq_some_iff.mp hi).1
  have cne := I.cne
  have tracked : ∀ {a : Addr} {h' : Heap}, (∃ o, s.heap.get? a = some o ∧ H a = none) → Heap.SameBut a s.heap h' → HOk X.prog X.w H h' := fun {a h'} ha hs b ob e => by
    obtain ⟨_, _, hfree⟩ := ha
    refine (I.hok b ob e).stay (fun c w' hc q => (hs.2 c ?_).trans q) (fun _ q => q) fun _ _ q => q
    rintro rfl
    rcases hc with rfl | hc
    · rw [hfree] at e; cases e
    · rw [hfree] at hc; cases hc
  rcases hx with hk | hk
  · refine wpAny_storeName_local hk hn (fun h' hn' hs => ?_) hcls
    obtain ⟨oL, _, _, hoL, _⟩ := id hn
    refine h _ ⟨I.ok, I.os, I.bare, ⟨fun b o e n hb hx => ?_, fun b o e n hb hx => ?_, I.base.free, fun b o e hx => ?_, I.base.tups, I.base.frzs, I.base.tbls⟩, ⟨_, hn', fun j y v' e1 e2 e3 => ?_⟩, fun y c e => ?_, I.free, I.freeC, fun p hp => ?_, tracked ⟨oL, hoL, I.free⟩ hs, by simpa using I.len⟩ ⟨_, hs, .inl rfl⟩
    · exact (hs.2 b (Nat.ne_of_lt (Nat.lt_of_lt_of_le (Heap.lt_size e) I.ok.above))).trans (I.base.keep b o e n hb hx)
    · obtain ⟨sl, e1⟩ := I.base.slot b o e n hb hx
      exact ⟨sl, (hs.2 b (Nat.ne_of_lt (Nat.lt_of_lt_of_le (Heap.lt_size e) I.ok.above))).trans e1⟩
    · obtain ⟨o', e1⟩ := I.base.there b o e hx
      exact ⟨o', (hs.2 b (Nat.ne_of_lt (Nat.lt_of_lt_of_le (Heap.lt_size e) I.ok.above))).trans e1⟩
    · by_cases hj : j = i
      · subst hj
        rw [hi] at e1; cases e1
        rw [List.getElem?_set_self hiσ] at e2
        cases e2
        exact ⟨u, r, .inl ⟨hk, by simp⟩⟩
      · rw [List.getElem?_set_ne (Ne.symm hj)] at e2
        obtain ⟨u', r', q⟩ := hl j y v' e1 e2 e3
        refine ⟨u', r', ?_⟩
        rcases q with ⟨k, e⟩ | ⟨k, c, e, z⟩
        · refine .inl ⟨k, ?_⟩
          have : y ≠ x := fun e => hj (nodup_ix hN e1 (e ▸ hi))
          simp [this, e]
        · exact .inr ⟨k, c, e, z.sameBut hs (cne y c e)⟩
    · obtain ⟨w', z⟩ := I.cell y c e
      exact ⟨w', z.sameBut hs (cne y c e)⟩
    · obtain ⟨e, n, ne, nf, d⟩ := I.pin p hp
      exact ⟨(hs.2 p.1 ne).trans e, n, ne, nf, d⟩
  · have hfn : X.fn x = true := by
      rcases hf with z | z
      · exact z
      · rw [z] at hk; cases hk
    obtain ⟨c, hc⟩ := I.ok.has x (.inl hk)
    obtain ⟨w', z⟩ := I.cell x c hc
    refine wpAny_storeName_cell I.ok.kind hk hc z (fun h' hc' hs => ?_)
    obtain ⟨oc, hoc, hocd⟩ := id z
    refine h { s with heap := h' } ⟨I.ok, I.os, I.bare, ⟨fun b o e n hb hx => ?_, fun b o e n hb hx => ?_, I.base.free, fun b o e hx => ?_, I.base.tups, I.base.frzs, I.base.tbls⟩, ⟨m, hn.sameBut hs (Ne.symm (cne x c hc)), fun j y v' e1 e2 e3 => ?_⟩, fun y c' e => ?_, I.free, I.freeC, fun p hp => ?_, tracked ⟨oc, hoc, I.freeC x c hc⟩ hs, by simpa using I.len⟩ ⟨c, hs, .inr hc⟩
    · exact (hs.2 b (Nat.ne_of_lt (Nat.lt_of_lt_of_le (Heap.lt_size e) (I.ok.cab x c hfn hc)))).trans (I.base.keep b o e n hb hx)
    · obtain ⟨sl, e1⟩ := I.base.slot b o e n hb hx
      exact ⟨sl, (hs.2 b (Nat.ne_of_lt (Nat.lt_of_lt_of_le (Heap.lt_size e) (I.ok.cab x c hfn hc)))).trans e1⟩
    · obtain ⟨o', e1⟩ := I.base.there b o e hx
      exact ⟨o', (hs.2 b (Nat.ne_of_lt (Nat.lt_of_lt_of_le (Heap.lt_size e) (I.ok.cab x c hfn hc)))).trans e1⟩
    · by_cases hj : j = i
      · subst hj
        rw [hi] at e1; cases e1
        rw [List.getElem?_set_self hiσ] at e2
        cases e2
        exact ⟨u, r, .inr ⟨.inl hk, c, hc, hc'⟩⟩
      · rw [List.getElem?_set_ne (Ne.symm hj)] at e2
        obtain ⟨u', r', q⟩ := hl j y v' e1 e2 e3
        refine ⟨u', r', ?_⟩
        rcases q with q | ⟨k, c', e, z'⟩
        · exact .inl q
        · refine .inr ⟨k, c', e, z'.sameBut hs ?_⟩
          rintro rfl
          exact hj (nodup_ix hN e1 (I.ok.inj _ _ _ e hc ▸ hi))
    · by_cases hcc : c' = c
      · subst hcc; exact ⟨_, hc'⟩
      · obtain ⟨w2, z2⟩ := I.cell y c' e
        exact ⟨w2, z2.sameBut hs hcc⟩
    · obtain ⟨e, n, ne, nf, d⟩ := I.pin p hp
      refine ⟨(hs.2 p.1 ?_).trans e, n, ne, nf, d⟩
      intro q
      rw [q, hoc] at e
      have q' : oc = p.2 := Option.some.inj e
      exact d w' (by rw [← q']; exact hocd)
theorem store_ok {M : Model} {A : Around} {E : Value → Shared → Prop} {i : Nat} {x : Str} {v : V} {u : Value} {Q : Unit → Shared → Prop} (I : Inv X pins σ H s) (hN : X.N.Nodup) (hi : X.N[i]? = some x) (hx : Loc X.env.scope x) (r : RelV v u)
    (h : ∀ s', Inv X pins (σ.set i (some v)) H s' → Q () s') (hf : X.fn x = true ∨ X.env.scope.names.lookup x = some .local := by first | exact .inl rfl | exact .inr rfl | assumption) : wpAny M A (storeName X.env x u) Q E s :=
  store_ok2 I hN hi hx r (fun s' I' _ => h s' I') hf
/-- behind a call or a block, the state as it is -/
theorem Inv.call' {s' : Shared} {ch : List Addr} (I : Inv X pins σ H s) (ho : s'.os = s.os) (u : Un (frs X.stack) ch H H' s.heap s'.heap) (hok : HOk X.prog X.w H' s'.heap) (hg : AllBare s'.gens)
    (hch : ∀ b ∈ ch, (b ∈ X.ex ∨ X.s₀.heap.objs.size ≤ b) ∧ b ≠ X.env.locals ∧ (∀ x c, X.env.cells.lookup x = some c → c ≠ b) ∧ ∀ p ∈ X.pn ++ pins, p.1 ≠ b) : Inv X pins σ H' s' := by
  obtain ⟨h', g', d', t', o'⟩ := s'
  have e : o' = s.os := ho
  subst e
  exact I.call (g' := g') (t' := t') (d' := d') u hok hg hch
end

/-- an exception: its class, its own dict's address (where it has one), the abstract heap behind it -/
abbrev XK := Value → Option Addr → Hp → Prop
abbrev St := List (Option V)
abbrev VK := V → Hp → Prop
/-- an expression's reading; a test's; an argument list's -/
abbrev TE := St → Hp → VK → Prop
abbrev TT := St → Hp → (Bool → Hp → Prop) → Prop
abbrev TA := St → Hp → (List V → Hp → Prop) → Prop
/-- what is wanted behind a statement -/
structure Ends where
  nx : St → Hp → Prop
  rt : VK
  bk : St → Hp → Prop := fun _ _ => False
  ct : St → Hp → Prop := fun _ _ => False
abbrev TS := Ends → St → Hp → Prop

def EP (X : Cx) (pins : List (Addr × Obj)) (σ : St) (Q : VK) (u : Value) (s' : Shared) : Prop := ∃ v H', Inv X pins σ H' s' ∧ RelV v u ∧ Q v H'
def TP (X : Cx) (pins : List (Addr × Obj)) (σ : St) (Q : Bool → Hp → Prop) (b : Bool) (s' : Shared) : Prop := ∃ H', Inv X pins σ H' s' ∧ Q b H'
def AP (X : Cx) (pins : List (Addr × Obj)) (σ : St) (Q : List V → Hp → Prop) (us : List Value) (s' : Shared) : Prop := ∃ vs H', Inv X pins σ H' s' ∧ Vals vs us ∧ Q vs H'
def SP (X : Cx) (pins : List (Addr × Obj)) (D : Ends) (f : Flow) (s' : Shared) : Prop :=
  match f with
  | .next => ∃ σ' H', Inv X pins σ' H' s' ∧ D.nx σ' H'
  | .brk => ∃ σ' H', Inv X pins σ' H' s' ∧ D.bk σ' H'
  | .cont => ∃ σ' H', Inv X pins σ' H' s' ∧ D.ct σ' H'
  | .ret u => ∃ v σ' H', Inv X pins σ' H' s' ∧ RelV v u ∧ D.rt v H'

def PE (X : Cx) (e : Expr) (t : TE) : Prop :=
  ∀ (pins : List (Addr × Obj)) (s : Shared) (σ : St) (H : Hp) (Q : VK), Inv X pins σ H s → t σ H Q → wpAny (model X.prog X.w) X.A (eval e X.env) (EP X pins σ Q) X.xe s
def PT (X : Cx) (e : Expr) (t : TT) : Prop :=
  ∀ (pins : List (Addr × Obj)) (s : Shared) (σ : St) (H : Hp) (Q : Bool → Hp → Prop), Inv X pins σ H s → t σ H Q → wpAny (model X.prog X.w) X.A (isTrue e X.env (eval e X.env)) (TP X pins σ Q) X.xe s
/-- a test whatever its 'whole' is (and, or) -/
def PW (X : Cx) (e : Expr) (t : TT) : Prop :=
  ∀ (whole : Sem Value) (pins : List (Addr × Obj)) (s : Shared) (σ : St) (H : Hp) (Q : Bool → Hp → Prop), Inv X pins σ H s → t σ H Q → wpAny (model X.prog X.w) X.A (isTrue e X.env whole) (TP X pins σ Q) X.xe s
theorem PW.pt {X : Cx} {e : Expr} {t : TT} (h : PW X e t) : PT X e t := h _
/-- an argument list (no star), from the left -/
def PA (X : Cx) (es : List Expr) (t : TA) : Prop :=
  ∀ (pos : Pos) (pins : List (Addr × Obj)) (s : Shared) (σ : St) (H : Hp) (Q : List V → Hp → Prop), Inv X pins σ H s → t σ H Q → wpAny (model X.prog X.w) X.A (spliced (backTo pos (starEach es X.env))) (AP X pins σ Q) X.xe s
def PS (X : Cx) (st : Stmt) (t : TS) : Prop :=
  ∀ (pins : List (Addr × Obj)) (s : Shared) (σ : St) (H : Hp) (D : Ends), Inv X pins σ H s → t D σ H → wpAny (model X.prog X.w) X.A (exec st X.env) (SP X pins D) X.xe s
def PSs (X : Cx) (st : List Stmt) (t : TS) : Prop :=
  ∀ (pins : List (Addr × Obj)) (s : Shared) (σ : St) (H : Hp) (D : Ends), Inv X pins σ H s → t D σ H → wpAny (model X.prog X.w) X.A (execs st X.env) (SP X pins D) X.xe s
/-- weaken the end -/
theorem thn {α : Type} {t : Sem α} {Q Q' : α → Shared → Prop} {M : Model} {A : Around} {E : Value → Shared → Prop} {s : Shared} (h : wpAny M A t Q E s) (hQ : ∀ a s, Q a s → Q' a s) : wpAny M A t Q' E s := wpAny_mono h hQ fun _ _ x => x
end L2

namespace L2
open PySem PySem.Spec PyProof.Rows
section
variable {X : Cx}

/-- two expressions in a row -/
theorem bin {a b : Expr} {ta tb : TE} (ha : PE X a ta) (hb : PE X b tb) {pins : List (Addr × Obj)} {s : Shared} {σ : St} {H : Hp} {R : V → V → Hp → Prop} (I : Inv X pins σ H s) (h : ta σ H fun x H1 => tb σ H1 fun y H2 => R x y H2)
    {α : Type} {Q : α → Shared → Prop} {f : Value → Value → Sem α}
    (hf : ∀ v u s2 x y H2, Inv X pins σ H2 s2 → RelV x v → RelV y u → R x y H2 → wpAny (model X.prog X.w) X.A (f v u) Q X.xe s2) :
    wpAny (model X.prog X.w) X.A (eval a X.env) (fun v s₁ => wpAny (model X.prog X.w) X.A (eval b X.env) (fun u s₂ => wpAny (model X.prog X.w) X.A (f v u) Q X.xe s₂) X.xe s₁) X.xe s := by
  refine thn (ha pins s σ H _ I h) fun v s1 ⟨x, H1, I1, r1, q1⟩ => ?_
  refine thn (hb pins s1 σ H1 _ I1 q1) fun u s2 ⟨y, H2, I2, r2, q2⟩ => ?_
  exact hf v u s2 x y H2 I2 r1 r2 q2

def tVar (i : Nat) : TE := fun σ H Q => ∃ v, σ[i]? = some (some v) ∧ Q v H
def tC (v : V) : TE := fun _ H Q => Q v H
theorem pe_var {i : Nat} {x : Str} {pos : Pos} (hN : X.N[i]? = some x) (hv : Vis X.env.scope x) (hd : (x == ("__debug__" : Str)) = false := by decide) (hcd : (x == ("__classdict__" : Str)) = false := by decide) : PE X (.Name x pos) (tVar i) := by
  intro pins s σ H Q I h
  obtain ⟨v, e, h⟩ := h
  obtain ⟨m, hn, hl⟩ := I.loc
  obtain ⟨u, r, l⟩ := hl i x v hN e hv
  have fin : EP X pins σ Q u s := ⟨v, H, I, r, h⟩
  rcases l with ⟨hk, hm⟩ | ⟨hk, c, hc, hcell⟩
  · exact wpAny_Name (wpAny_loadName_local I.ok.kind hk hn hm fin) hd
  · rcases hk with hk | hk
    · exact wpAny_Name (wpAny_loadName_cell I.ok.kind hk hc hcell fin) hd
    · exact wpAny_Name (wpAny_loadName_free I.ok.kind hk hc hcell fin hcd) hd
theorem pe_int {i j pos} : PE X (.Constant (.int i) j pos) (tC (.int i)) := fun _ _ _ H _ I h => wpAny_Constant_int ⟨.int i, H, I.tok _, ⟨_, rfl⟩, h⟩
theorem pe_bl {b j pos} : PE X (.Constant (.bool b) j pos) (tC (.bl b)) := fun _ _ _ H _ I h => Constant_bool ⟨.bl b, H, I, rfl, h⟩
theorem pe_non {j pos} : PE X (.Constant .none j pos) (tC .non) := fun _ _ _ H _ I h => Constant_none ⟨.non, H, I, rfl, h⟩
theorem pe_str {x j pos} : PE X (.Constant (.str x) j pos) (tC (.str x)) := fun _ _ _ H _ I h => Calls.Constant_str ⟨.str x, H, I.tok _, ⟨_, rfl⟩, h⟩

/-- a global name of the def -/
def Gl (X : Cx) (x : Str) : Prop := X.env.kindOf x = some .globalImplicit
theorem ld_glob {E : Value → Shared → Prop} {pins : List (Addr × Obj)} {s : Shared} {σ : St} {H : Hp} {x : Str} {u : Value} {pos : Pos} {Q : Value → Shared → Prop} (I : Inv X pins σ H s) (hg : Gl X x) (hm : X.mg x = some u) (h : Q u s)
    (hd : (x == ("__debug__" : Str)) = false := by decide) : wpAny (model X.prog X.w) X.A (eval (.Name x pos) X.env) Q E s :=
  Calls.Name_function_global I.ok.kind hg (Calls.loadGlobal_global (by rw [I.ok.glob]; exact I.mod.glob.keeps I.bk) hm h) hd
theorem ld_blt {E : Value → Shared → Prop} {pins : List (Addr × Obj)} {s : Shared} {σ : St} {H : Hp} {x : Str} {u : Value} {pos : Pos} {Q : Value → Shared → Prop} (I : Inv X pins σ H s) (hg : Gl X x) (hm : X.mg x = none) (hv : bootBuiltins x = some u) (h : Q u s)
    (hn : x ≠ "__name__" := by decide) (hd : (x == ("__debug__" : Str)) = false := by decide) : wpAny (model X.prog X.w) X.A (eval (.Name x pos) X.env) Q E s := by
  obtain ⟨mb, h1, h2⟩ := I.mod.blt
  exact Calls.Name_function_global I.ok.kind hg (Calls.loadGlobal_builtin (by rw [I.ok.glob]; exact I.mod.glob.keeps I.bk) hm (by rw [I.ok.blt]; exact h1.keeps I.bk) ((h2 x hn).trans hv) h) hd
/-- a module's constant, a class, a function, as a value -/
theorem pe_glob {x : Str} {v : V} {u : Value} {pos : Pos} (hg : Gl X x) (hm : X.mg x = some u) (r : RelV v u) (hd : (x == ("__debug__" : Str)) = false := by decide) : PE X (.Name x pos) (tC v) :=
  fun _ _ _ H _ I h => ld_glob I hg hm ⟨v, H, I, r, h⟩ hd
theorem pe_bltn {x : Str} {v : V} {u : Value} {pos : Pos} (hg : Gl X x) (hm : X.mg x = none) (hv : bootBuiltins x = some u) (r : RelV v u) (hn : x ≠ "__name__" := by decide) (hd : (x == ("__debug__" : Str)) = false := by decide) : PE X (.Name x pos) (tC v) :=
  fun _ _ _ H _ I h => ld_blt I hg hm hv ⟨v, H, I, r, h⟩ hn hd

/-- two ints -/
def t2I (ta tb : TE) (k : Int → Int → Hp → Prop) : St → Hp → Prop := fun σ H => ta σ H fun x H1 => tb σ H1 fun y H2 => ∃ i j, x = .int i ∧ y = .int j ∧ k i j H2
variable {a b : Expr} {ta tb : TE} {pos : Pos}
def PC (X : Cx) (op : CmpOp) (a b : Expr) (t : TE) : Prop :=
  ∀ (pins : List (Addr × Obj)) (s : Shared) (σ : St) (H : Hp) (Q : VK), Inv X pins σ H s → t σ H Q →
    wpAny (model X.prog X.w) X.A (eval a X.env) (fun v s₁ => wpAny (model X.prog X.w) X.A (eval b X.env) (fun u s₂ => wpAny (model X.prog X.w) X.A (compareOp op v u) (EP X pins σ Q) X.xe s₂) X.xe s₁) X.xe s
def tCmp (p : Int → Int → Bool) (ta tb : TE) : TE := fun σ H Q => t2I ta tb (fun i j H2 => Q (.bl (p i j)) H2) σ H
abbrev tLt : TE → TE → TE := tCmp fun i j => decide (i < j)
/-- a comparison of two ints, by its rule -/
theorem pc_int {op : CmpOp} {p : Int → Int → Bool} (ha : PE X a ta) (hb : PE X b tb)
    (rule : ∀ (i j : Int) (t u : Tok) (Q : Value → Shared → Prop) (s : Shared), Q (.bool (p i j)) s → wpAny (model X.prog X.w) X.A (compareOp op (.int i t) (.int j u)) Q X.xe s) : PC X op a b (tCmp p ta tb) := by
  intro pins s σ H Q I h
  refine bin ha hb I h fun v u s2 x y H2 I2 rx ry q => ?_
  obtain ⟨i, j, rfl, rfl, q⟩ := q
  obtain ⟨t, rfl⟩ := rx
  obtain ⟨t', rfl⟩ := ry
  exact rule i j t t' _ s2 ⟨.bl _, H2, I2, rfl, q⟩
theorem pc_lt (ha : PE X a ta) (hb : PE X b tb) : PC X .Lt a b (tLt ta tb) := pc_int ha hb fun _ _ _ _ _ _ h => lt_int h
/-- a comparison as a value, as a test -/
def tB (t : TE) : TT := fun σ H Q => t σ H fun x H1 => ∃ c, x = .bl c ∧ Q c H1
/-- an expression whose value is a bool, as a test -/
theorem pt_val {e : Expr} {t : TE} (h : PE X e t) (he : ∀ whole, isTrue e X.env whole = (do let v ← whole; standAt e.pos; holding [v] (truthy v)) := by intro _; rfl) : PT X e (tB t) := by
  intro pins s σ H Q I hw
  refine isTrue_plain (thn (h pins s σ H _ I hw) fun v s1 ⟨x, H1, I1, r1, q1⟩ => ?_) (he _)
  obtain ⟨d, rfl, q⟩ := q1
  cases r1
  exact wpAny_truthy_bool ⟨H1, I1, q⟩

variable {tA tB' : TT} {rest : List Expr}
def tAnd (t u : TT) : TT := fun σ H Q => t σ H fun c H1 => if c = true then u σ H1 Q else Q false H1
def tOr (t u : TT) : TT := fun σ H Q => t σ H fun c H1 => if c = true then Q true H1 else u σ H1 Q
def tNot (t : TT) : TT := fun σ H Q => t σ H fun c H1 => Q (!c) H1
theorem pw_and1 (ha : PT X a tA) : PW X (.BoolOp .And [a] pos) tA := by
  intro wh pins s σ H Q I h
  refine isTrue_and (thn (ha pins s σ H Q I h) fun c s1 e => ?_)
  cases c with
  | true => exact isTrue_and_nil e
  | false => exact e
theorem pw_or1 (ha : PT X a tA) : PW X (.BoolOp .Or [a] pos) tA := by
  intro wh pins s σ H Q I h
  refine isTrue_or (thn (ha pins s σ H Q I h) fun c s1 e => ?_)
  cases c with
  | false => exact isTrue_or_nil e
  | true => exact e
theorem pw_and (ha : PT X a tA) (hb : PW X (.BoolOp .And (b :: rest) pos) tB') : PW X (.BoolOp .And (a :: b :: rest) pos) (tAnd tA tB') := by
  intro wh pins s σ H Q I h
  refine isTrue_and (thn (ha pins s σ H _ I h) fun c s1 ⟨H1, I1, q1⟩ => ?_)
  cases c with
  | true => exact hb wh pins s1 σ H1 Q I1 q1
  | false => exact ⟨H1, I1, q1⟩
theorem pw_or (ha : PT X a tA) (hb : PW X (.BoolOp .Or (b :: rest) pos) tB') : PW X (.BoolOp .Or (a :: b :: rest) pos) (tOr tA tB') := by
  intro wh pins s σ H Q I h
  refine isTrue_or (thn (ha pins s σ H _ I h) fun c s1 ⟨H1, I1, q1⟩ => ?_)
  cases c with
  | true => exact ⟨H1, I1, q1⟩
  | false => exact hb wh pins s1 σ H1 Q I1 q1
theorem pt_not (ha : PT X a tA) : PT X (.UnaryOp .Not a pos) (tNot tA) := by
  intro pins s σ H Q I h
  exact isTrue_not (ha pins s σ H (fun c H1 => Q (!c) H1) I h)
/-- .. as values (bools) -/
def tAndV (ta tb : TE) : TE := fun σ H Q => ta σ H fun x H1 => ∃ c, x = .bl c ∧ if c = true then tb σ H1 Q else Q (.bl false) H1
def tOrV (ta tb : TE) : TE := fun σ H Q => ta σ H fun x H1 => ∃ c, x = .bl c ∧ if c = true then Q (.bl true) H1 else tb σ H1 Q
def tNotV (ta : TE) : TE := fun σ H Q => ta σ H fun x H1 => ∃ c, x = .bl c ∧ Q (.bl (!c)) H1
/-- a if t else b -/
def tIf (t : TT) (ta tb : TE) : TE := fun σ H Q => t σ H fun c H1 => if c = true then ta σ H1 Q else tb σ H1 Q
theorem pe_ifExp {c : Expr} (hc : PT X c tA) (ha : PE X a ta) (hb : PE X b tb) : PE X (.IfExp c a b pos) (tIf tA ta tb) := by
  intro pins s σ H Q I h
  refine wpAny_IfExp (thn (hc pins s σ H _ I h) fun d s1 ⟨H1, I1, q1⟩ => ?_)
  cases d with
  | true => exact ha pins s1 σ H1 Q I1 q1
  | false => exact hb pins s1 σ H1 Q I1 q1
end
end L2

namespace L2
open PySem PySem.Spec PyProof.Rows

def SqL (K : PySem.W.Frag) (H : Hp) (a : Addr) (xs : List V) : Prop :=
  Rd H a (.lst xs) ∨
    ∃ (o : Obj) (its : Array Value) (n : Nat), K.lookup a = some o ∧ o.cls = .type "list" ∧ o.dict = none ∧ o.data = .seq its n ∧ its.size ≤ sizeLine ∧ Vals xs its.toList
def SqT (K : PySem.W.Frag) (H : Hp) (a : Addr) (xs : List V) : Prop :=
  Rd H a (.tup xs) ∨
    ∃ (o : Obj) (its : Array Value) (n : Nat), K.lookup a = some o ∧ o.cls = .type "tuple" ∧ o.data = .seq its n ∧ its.size ≤ sizeLine ∧ Vals xs its.toList
def absV : Value → Option V
  | .none => some .non
  | .bool b => some (.bl b)
  | .int i _ => some (.int i)
  | .str x _ => some (.str x)
  | .bytes b _ => some (.byt b)
  | .float b _ => some (.flt b)
  | .ref a => some (.ref a)
  | .type n => some (.ty n)
  | _ => none
theorem RelV.abs {x : V} {u : Value} (r : RelV x u) : absV u = some x := by
  cases x with
  | non => cases r; rfl
  | bl _ => cases r; rfl
  | int _ => obtain ⟨t, rfl⟩ := r; rfl
  | str _ => obtain ⟨t, rfl⟩ := r; rfl
  | byt _ => obtain ⟨t, rfl⟩ := r; rfl
  | flt _ => obtain ⟨t, rfl⟩ := r; rfl
  | ref _ => cases r; rfl
  | ty _ => cases r; rfl
theorem RelV.inj {x y : V} {u : Value} (r : RelV x u) (q : RelV y u) : x = y := Option.some.inj (r.abs.symm.trans q.abs)
theorem Vals.inj : ∀ {xs ys : List V} {us : List Value}, Vals xs us → Vals ys us → xs = ys
  | _, _, _, .nil, .nil => rfl
  | _, _, _, .cons r t, .cons r' t' => by rw [r.inj r', Vals.inj t t']
section
variable {X : Cx} {pins : List (Addr × Obj)} {σ : St} {H : Hp} {s : Shared} {a : Addr} {xs ys : List V}
theorem SqL.of {K : PySem.W.Frag} (h : H a = some (.lst xs)) : SqL K H a xs := .inl (.inl h)
theorem SqT.of {K : PySem.W.Frag} (h : H a = some (.tup xs)) : SqT K H a xs := .inl (.inl h)
theorem Inv.list (I : Inv X pins σ H s) (h : SqL X.K H a xs) : ∃ its : List Value, Vals xs its ∧ PlainL s.heap a its.toArray ∧ xs.length ≤ sizeLine := by
  rcases h with h | ⟨o, its, n, hk, hc, hd, hs, hz, r⟩
  · obtain ⟨z, its, n, r, e⟩ := h.ok I.hok
    exact ⟨its, r, ⟨_, n, e, rfl, rfl, rfl⟩, z⟩
  · refine ⟨its.toList, r, ⟨o, n, I.kIn a o hk, hc, hd, by simpa using hs⟩, ?_⟩
    have e := r.length
    simp only [Array.length_toList] at e
    omega
theorem Inv.tuple (I : Inv X pins σ H s) (h : SqT X.K H a xs) : ∃ its : List Value, Vals xs its ∧ IsTup s.heap a its.toArray ∧ xs.length ≤ sizeLine := by
  rcases h with h | ⟨o, its, n, hk, hc, hs, hz, r⟩
  · obtain ⟨z, its, r, p⟩ := h.ok I.hok
    exact ⟨its, r, p, z⟩
  · refine ⟨its.toList, r, ⟨o, I.kIn a o hk, hc, n, by simpa using hs⟩, ?_⟩
    have e := r.length
    simp only [Array.length_toList] at e
    omega
theorem Inv.list_inj (I : Inv X pins σ H s) (h : SqL X.K H a xs) (h' : SqL X.K H a ys) : xs = ys := by
  obtain ⟨its, r, ⟨o, n, e, _, _, d⟩, _⟩ := I.list h
  obtain ⟨its', r', ⟨o', n', e', _, _, d'⟩, _⟩ := I.list h'
  rw [e] at e'; cases e'
  rw [d] at d'
  injection d' with d1 _
  have : its = its' := by simpa using congrArg Array.toList d1
  subst this
  exact r.inj r'
end

abbrev Cx.wish (X : Cx) (E : Value → Shared → Prop) : Cx := { X with xe := E }
/-- no exception leaves -/
abbrev Cx.nox (X : Cx) : Cx := X.wish fun _ _ => False
theorem Cx.Ok.wish {X : Cx} (ok : X.Ok) (E : Value → Shared → Prop) : (X.wish E).Ok :=
  ⟨ok.mod, ok.kind, ok.glob, ok.blt, ok.above, ok.inj, ok.has, ok.cab, ok.hd, ok.frames, ok.stk, ok.exf, ok.bs, ok.bsz, ok.noex, ok.exfs, ok.funs, ok.frf⟩
theorem Cx.Ok.unwish {X : Cx} {E : Value → Shared → Prop} (ok : (X.wish E).Ok) : X.Ok :=
  ⟨ok.mod, ok.kind, ok.glob, ok.blt, ok.above, ok.inj, ok.has, ok.cab, ok.hd, ok.frames, ok.stk, ok.exf, ok.bs, ok.bsz, ok.noex, ok.exfs, ok.funs, ok.frf⟩
section
variable {X : Cx} {pins : List (Addr × Obj)} {σ : St} {H : Hp} {s : Shared} {E : Value → Shared → Prop}
theorem Inv.wish (I : Inv X pins σ H s) (E : Value → Shared → Prop) : Inv (X.wish E) pins σ H s := ⟨I.ok.wish E, I.os, I.bare, I.base, I.loc, I.cell, I.free, I.freeC, I.pin, I.hok, I.len⟩
theorem Inv.unwish (I : Inv (X.wish E) pins σ H s) : Inv X pins σ H s := ⟨I.ok.unwish, I.os, I.bare, I.base, I.loc, I.cell, I.free, I.freeC, I.pin, I.hok, I.len⟩
theorem SP.unwish {D : Ends} {f : Flow} {s' : Shared} (h : SP (X.wish E) pins D f s') : SP X pins D f s' := by
  cases f with
  | next => obtain ⟨σ', H', I, q⟩ := h; exact ⟨σ', H', I.unwish, q⟩
  | brk => obtain ⟨σ', H', I, q⟩ := h; exact ⟨σ', H', I.unwish, q⟩
  | cont => obtain ⟨σ', H', I, q⟩ := h; exact ⟨σ', H', I.unwish, q⟩
  | ret u => obtain ⟨v, σ', H', I, r, q⟩ := h; exact ⟨v, σ', H', I.unwish, r, q⟩
theorem PE.nox {e : Expr} {t : TE} (h : PE X.nox e t) : PE X e t := fun pins s σ H Q I hw =>
  wpAny_mono (h pins s σ H Q (I.wish _) hw) (fun _ _ ⟨v, H', I', r, q⟩ => ⟨v, H', I'.unwish, r, q⟩) fun _ _ z => False.elim z
theorem PT.nox {e : Expr} {t : TT} (h : PT X.nox e t) : PT X e t := fun pins s σ H Q I hw =>
  wpAny_mono (h pins s σ H Q (I.wish _) hw) (fun _ _ ⟨H', I', q⟩ => ⟨H', I'.unwish, q⟩) fun _ _ z => False.elim z
theorem PSs.nox {st : List Stmt} {t : TS} (h : PSs X.nox st t) : PSs X st t := fun pins s σ H D I hw =>
  wpAny_mono (h pins s σ H D (I.wish _) hw) (fun _ _ q => q.unwish) fun _ _ z => False.elim z
end

section
variable {X : Cx} {st : Stmt} {rest : List Stmt} {t u : TS} {e : Expr} {te : TE} {pos : Pos}
def tNext : TS := fun D σ H => D.nx σ H
def tSeq (t u : TS) : TS := fun D σ H => t { D with nx := u D } σ H
theorem pss_nil : PSs X [] tNext := fun _ _ σ H _ I h => wpAny_execs_nil ⟨σ, H, I, h⟩
theorem pss_cons (h1 : PS X st t) (h2 : PSs X rest u) : PSs X (st :: rest) (tSeq t u) := by
  intro pins s σ H D I h
  refine wpAny_execs_cons (thn (h1 pins s σ H { D with nx := u D } I h) fun f s1 q => ?_)
  cases f with
  | next =>
    obtain ⟨σ', H', I', q⟩ := q
    exact h2 pins s1 σ' H' D I' q
  | ret v => exact q
  | brk => exact q
  | cont => exact q
theorem pss_one (h1 : PS X st t) : PSs X [st] t := by
  intro pins s σ H D I h
  refine wpAny_execs_cons (thn (h1 pins s σ H D I h) fun f s1 q => ?_)
  cases f with
  | next => exact wpAny_execs_nil q
  | ret v => exact q
  | brk => exact q
  | cont => exact q
/-- in a def's body nothing is shown -/
theorem Inv.quiet {pins : List (Addr × Obj)} {σ : St} {H : Hp} {s : Shared} (I : Inv X pins σ H s) : interactive X.env = false := by simp [interactive, I.ok.kind]
/-- an expression whose value is dropped -/
def tDrop (te : TE) : TS := fun D σ H => te σ H fun _ H1 => D.nx σ H1
theorem ps_expr (he : PE X e te) (hs : swapsWith e none pos.line X.env = pure false := by rfl) : PS X (.Expr e pos) (tDrop te) := by
  intro pins s σ H D I h
  exact wpAny_Expr_any (thn (he pins s σ H _ I h) fun v s1 ⟨x, H1, I1, r1, q1⟩ => ⟨σ, H1, I1, q1⟩) I.quiet hs
def tRet (te : TE) : TS := fun D σ H => te σ H D.rt
theorem ps_ret (he : PE X e te) : PS X (.Return (some e) pos) (tRet te) := by
  intro pins s σ H D I h
  exact wpAny_Return_some (thn (he pins s σ H _ I h) fun v s1 ⟨x, H1, I1, r1, q1⟩ => ⟨x, σ, H1, I1, r1, q1⟩)
def tIfS (c : TT) (t u : TS) : TS := fun D σ H => c σ H fun b H1 => if b = true then t D σ H1 else u D σ H1
theorem ps_if {c : Expr} {a b : List Stmt} {tc : TT} (hc : PT X c tc) (ha : PSs X a t) (hb : PSs X b u) : PS X (.If c a b pos) (tIfS tc t u) := by
  intro pins s σ H D I h
  refine wpAny_If (thn (hc pins s σ H _ I h) fun d s1 ⟨H1, I1, q1⟩ => ?_)
  cases d with
  | true => exact ha pins s1 σ H1 D I1 q1
  | false => exact hb pins s1 σ H1 D I1 q1
/-- code that the proof never comes to -/
def tNever : TS := fun _ _ _ => False
theorem ps_never : PS X st tNever := fun _ _ _ _ _ _ h => h.elim
end

abbrev TG := V → St → Hp → (St → Hp → Prop) → Prop
abbrev TGs := List V → St → Hp → (St → Hp → Prop) → Prop
def PG (X : Cx) (target : Expr) (t : TG) : Prop :=
  ∀ (pins : List (Addr × Obj)) (s : Shared) (σ : St) (H : Hp) (v : V) (u : Value) (Q : St → Hp → Prop), Inv X pins σ H s → RelV v u → t v σ H Q →
    wpAny (model X.prog X.w) X.A (assign target X.env u) (fun _ s' => ∃ σ' H', Inv X pins σ' H' s' ∧ Q σ' H') X.xe s
/-- several targets, one after another -/
def PGs (X : Cx) (ts : List Expr) (t : TGs) : Prop :=
  ∀ (pins : List (Addr × Obj)) (s : Shared) (σ : St) (H : Hp) (vs : List V) (us : List Value) (Q : St → Hp → Prop), Inv X pins σ H s → Vals vs us → t vs σ H Q →
    wpAny (model X.prog X.w) X.A (assignInOrder ((assignEach ts X.env).map (·.2)) us) (fun _ s' => ∃ σ' H', Inv X pins σ' H' s' ∧ Q σ' H') X.xe s
/-- o[i] = v, by values -/
abbrev TSet := V → V → V → Hp → (Hp → Prop) → Prop
def PSet (X : Cx) (t : TSet) : Prop :=
  ∀ (pins : List (Addr × Obj)) (s : Shared) (σ : St) (H : Hp) (o i v : V) (ov iv u : Value) (Q : Hp → Prop), Inv X pins σ H s → RelV o ov → RelV i iv → RelV v u → t o i v H Q →
    wpAny (model X.prog X.w) X.A (setItem ov iv u) (fun _ s' => ∃ H', Inv X pins σ H' s' ∧ Q H') X.xe s
section
variable {X : Cx} {pos : Pos}
def gName (i : Nat) : TG := fun v σ H Q => Q (σ.set i (some v)) H
theorem pg_name {i : Nat} {x : Str} (hN : X.N.Nodup) (hi : X.N[i]? = some x) (hx : Loc X.env.scope x) (hf : X.fn x = true ∨ X.env.scope.names.lookup x = some .local := by first | exact .inl rfl | exact .inr rfl | assumption) : PG X (.Name x pos) (gName i) := by
  intro pins s σ H v u Q I r h
  exact wpAny_assign_Name (store_ok I hN hi hx r (fun s' I' => ⟨_, H, I', h⟩) hf)
def gNil : TGs := fun vs σ H Q => vs = [] ∧ Q σ H
def gCons (t : TG) (u : TGs) : TGs := fun vs σ H Q => ∃ v r, vs = v :: r ∧ t v σ H fun σ' H' => u r σ' H' Q
theorem pgs_nil : PGs X [] gNil := by
  intro pins s σ H vs us Q I r h
  obtain ⟨e, h⟩ := h
  subst e
  cases r
  exact assignInOrder_nil ⟨σ, H, I, h⟩
theorem pgs_cons {e : Expr} {es : List Expr} {t : TG} {u : TGs} (h1 : PG X e t) (h2 : PGs X es u)
    (hs : (assignEach (e :: es) X.env).map (·.2) = assign e X.env :: (assignEach es X.env).map (·.2) := by rfl) : PGs X (e :: es) (gCons t u) := by
  intro pins s σ H vs us Q I r h
  obtain ⟨v, vr, e1, h⟩ := h
  subst e1
  cases r with
  | cons r rr =>
    rw [hs]
    refine assignInOrder_cons (thn (h1 pins s σ H _ _ _ I r h) fun _ s1 ⟨σ1, H1, I1, q1⟩ => ?_)
    exact h2 pins s1 σ1 H1 _ _ Q I1 rr q1
/-- (a, b, ..) = a tuple of that length -/
def gTup (K : PySem.W.Frag) (n : Nat) (t : TGs) : TG := fun v σ H Q => ∃ a xs, v = .ref a ∧ SqT K H a xs ∧ xs.length = n ∧ t xs σ H Q
theorem pg_tup {es : List Expr} {k : Nat} {t : TGs} {n : Nat} (hc : X.calm = true) (h : PGs X es t)
    (hn : (assignEach es X.env).length = n := by rfl) (hst : (assignEach es X.env).findIdx? (·.1) = none := by rfl) : PG X (.Tuple es k pos) (gTup X.K n t) := by
  intro pins s σ H v u Q I r hw
  obtain ⟨a, xs, e1, hq, hl, hw⟩ := hw
  subst e1
  cases r
  obtain ⟨its, rv, ht, hz⟩ := I.tuple hq
  refine assign_Tuple_tuple (I.ok.hd hc) ht (by simp [hn, ← hl, rv.length]) hst fun h' hx => ?_
  have I1 : Inv X pins σ H { s with heap := h' } := I.kept (t' := s.toks) fun b o e => hx b o (Nat.ne_of_lt (Heap.lt_size e)) e
  exact h pins _ σ H xs _ Q I1 (by simpa using rv) hw
/-- o[i] = .. -/
def gSub (to ti : TE) (t : TSet) : TG := fun v σ H Q => to σ H fun o H1 => ti σ H1 fun i H2 => t o i v H2 fun H3 => Q σ H3
theorem pg_sub {o i : Expr} {to ti : TE} {t : TSet} (ho : PE X o to) (hi : PE X i ti) (hs : PSet X t)
    (ha : ∀ v, assign (.Subscript o i pos) X.env v = (do
      let ov ← holding [v] (eval o X.env)
      let iv ← holding [v, ov] (eval i X.env)
      standAt pos
      holding [v, ov, iv] (setItem ov iv v)
      release [v, ov, iv] []) := by intro _; rfl) : PG X (.Subscript o i pos) (gSub to ti t) := by
  intro pins s σ H v u Q I r h
  rw [ha]
  refine wpAny_bind (wpAny_holding (thn (ho pins s σ H _ I h) fun ov s1 ⟨x, H1, I1, r1, q1⟩ => ?_))
  refine wpAny_bind (wpAny_holding (thn (hi pins s1 σ H1 _ I1 q1) fun iv s2 ⟨y, H2, I2, r2, q2⟩ => ?_))
  refine wpAny_bind (wpAny_standAt (wpAny_bind (wpAny_holding (thn (hs pins s2 σ H2 x y v ov iv u _ I2 r1 r2 r q2) fun _ s3 ⟨H3, I3, q3⟩ => ?_))))
  exact wpAny_release ⟨σ, H3, I3, q3⟩
/-- target = value -/
def tAsg (te : TE) (g : TG) : TS := fun D σ H => te σ H fun x H1 => g x σ H1 D.nx
theorem ps_asg {tg e : Expr} {te : TE} {g : TG} (he : PE X e te) (hg : PG X tg g) (hs : swapsWithSole [tg] e pos.line X.env = pure false := by rfl) (hw : swappedStores [tg] e X.env = pure none := by rfl)
    (h1 : (assignEach [tg] X.env).map (·.2) = [assign tg X.env] := by rfl) : PS X (.Assign [tg] e pos) (tAsg te g) := by
  intro pins s σ H D I h
  refine wpAny_Assign_stores (thn (he pins s σ H _ I h) fun v s1 ⟨x, H1, I1, r1, q1⟩ => ?_) hs hw
  rw [h1]
  exact thn (hg pins s1 σ H1 x v _ I1 r1 q1) fun _ s2 q => q
/-- name = value -/
theorem ps_set {i : Nat} {x : Str} {e : Expr} {te : TE} {pos' : Pos} (hN : X.N.Nodup) (hi : X.N[i]? = some x) (hx : Loc X.env.scope x) (he : PE X e te) (hs : swapsWith e (some (.Name x pos')) pos.line X.env = pure false := by rfl) (hf : X.fn x = true ∨ X.env.scope.names.lookup x = some .local := by first | exact .inl rfl | exact .inr rfl | assumption) :
    PS X (.Assign [.Name x pos'] e pos) (tAsg te (gName i)) := by
  intro pins s σ H D I h
  refine wpAny_Assign_Name (thn (he pins s σ H _ I h) fun v s1 ⟨y, H1, I1, r1, q1⟩ => ?_) hs
  exact store_ok I1 hN hi hx r1 (fun s2 I2 => ⟨_, H1, I2, q1⟩) hf
/-- a, b = x, y with plain local names: stored from the right; the pair itself is not tracked (the opening rows as in PyProof/Rows/TupAssign.lean:23) -/
def tPar (i j : Nat) (ta : TA) : TS := fun D σ H => ta σ H fun vs H1 => ∃ v w, vs = [v, w] ∧ D.nx ((σ.set i (some v)).set j (some w)) H1
end

section
variable {X : Cx} {pos : Pos}
/-- the invariant W with its measure -/
def tWhile (c : TT) (tb : TS) : TS := fun D σ H => ∃ W : Nat → St → Hp → Prop, (∃ m, W m σ H) ∧ ∀ m σ H, W m σ H →
  c σ H fun b H1 => if b = true then ∃ N : St → Hp → Prop, (∀ σ' H', N σ' H' → ∃ m', m' < m ∧ W m' σ' H') ∧ tb { D with nx := N, ct := N, bk := D.nx } σ H1 else D.nx σ H1
theorem ps_while {c : Expr} {body : List Stmt} {tc : TT} {tb : TS} (hp : PassesOwn (model X.prog X.w) X.A X.env X.xe) (hc : PT X c tc) (hb : PSs X body tb) : PS X (.While c body [] pos) (tWhile tc tb) := by
  intro pins s σ H D I h
  obtain ⟨W, ⟨m0, w0⟩, turn⟩ := h
  refine wpAny_While (codeAny_whileLoop (fun n s' => ∃ σ' H', Inv X pins σ' H' s' ∧ W n σ' H') ?_ m0 ⟨σ, H, I, w0⟩)
  rintro n s1 ⟨σ1, H1, I1, w1⟩
  refine wpAny_passesOwn hp (thn (hc pins s1 σ1 H1 _ I1 (turn n σ1 H1 w1)) fun b s2 ⟨H2, I2, q2⟩ => ?_)
  cases b with
  | true =>
    obtain ⟨N, hN, q2⟩ := q2
    rw [if_pos rfl]
    refine wpAny_passesOwn hp (thn (hb pins s2 σ1 H2 _ I2 q2) fun f s3 q3 => ?_)
    cases f with
    | next =>
      obtain ⟨σ3, H3, I3, n3⟩ := q3
      obtain ⟨m', hm, w3⟩ := hN σ3 H3 n3
      exact ⟨m', hm, σ3, H3, I3, w3⟩
    | cont =>
      obtain ⟨σ3, H3, I3, n3⟩ := q3
      obtain ⟨m', hm, w3⟩ := hN σ3 H3 n3
      exact ⟨m', hm, σ3, H3, I3, w3⟩
    | brk => exact q3
    | ret v => exact q3
  | false =>
    rw [if_neg Bool.false_ne_true]
    exact wpAny_execs_nil ⟨σ1, H2, I2, q2⟩
end

/-- at turn i: it yields x (the heap may grow), or it stops -/
structure It where
  go : Nat → Hp → Prop
  yld : Nat → Hp → V → Hp → Prop
  stop : Nat → Hp → Prop
/-- the iterator's own objects may turn: they are not the frame's, not pinned, younger than the entry (or a comprehension's own) -/
def FpOk (X : Cx) (pins : List (Addr × Obj)) (H : Hp) (b : Addr) : Prop :=
  H b = none ∧ b ≠ X.env.locals ∧ b ∉ X.fs ∧ (b ∈ X.ex ∨ X.s₀.heap.objs.size ≤ b) ∧ (∀ x c, X.env.cells.lookup x = some c → c ≠ b) ∧ ∀ p ∈ X.pn ++ pins, p.1 ≠ b
theorem Inv.fpOk {X : Cx} {pins : List (Addr × Obj)} {σ : St} {H H' : Hp} {s : Shared} {b : Addr} (I : Inv X pins σ H s) (hb : s.heap.objs.size ≤ b) (hn : H' b = none) : FpOk X pins H' b := by
  refine ⟨hn, Nat.ne_of_gt (Nat.lt_of_lt_of_le I.lt hb), I.nofs hb, .inr (Nat.le_trans I.sz hb), fun x c e z => ?_, fun p hp z => ?_⟩
  · obtain ⟨v, q⟩ := I.cell x c e
    exact absurd (Nat.lt_of_lt_of_le q.lt (by rw [z]; exact hb)) (Nat.lt_irrefl _)
  · exact absurd (Nat.lt_of_lt_of_le (Heap.lt_size (I.pin p hp).1) (by rw [z]; exact hb)) (Nat.lt_irrefl _)
structure Turn (P : Program) (w : World) (K : PySem.W.Frag) (tg : Expr) (J : It) (fp : List Addr) (it : Addr) (tn : Nat → Heap → Prop) : Prop where
  mem : it ∈ fp
  obj : ∀ i h, tn i h → ∀ b ∈ fp, ∃ o, h.get? b = some o ∧ ∀ v, o.data ≠ .cell v
  keep : ∀ i h h', tn i h → (∀ b ∈ fp, ∀ o, h.get? b = some o → h'.get? b = some o) → tn i h'
  item : ∀ (X : Cx), X.prog = P → X.w = w → X.K = K → X.calm = true → ∀ (i : Nat) (pins : List (Addr × Obj)) (s : Shared) (σ : St) (H : Hp) (E : Value → Shared → Prop), Inv X pins σ H s → (∀ b ∈ fp, FpOk X pins H b) → tn i s.heap → J.go i H →
    wpAny (model P w) X.A (pyNext (.ref it)) (fun r s1 => ∃ u, r = some u ∧
      wpAny (model P w) X.A (letOwnedTupleGo tg (.ref it) u) (fun _ s2 => ∃ x H', Inv X pins σ H' s2 ∧ RelV x u ∧ J.yld i H x H' ∧ tn (i + 1) s2.heap ∧ ∀ b ∈ fp, H' b = none) E s1) E s
  done : ∀ (X : Cx), X.prog = P → X.w = w → X.K = K → X.calm = true → ∀ (i : Nat) (pins : List (Addr × Obj)) (s : Shared) (σ : St) (H : Hp) (E : Value → Shared → Prop), Inv X pins σ H s → (∀ b ∈ fp, FpOk X pins H b) → tn i s.heap → J.stop i H →
    wpAny (model P w) X.A (pyNext (.ref it)) (fun r s1 => r = none ∧ Inv X pins σ H s1) E s
  self : ∀ (A : Around) (i : Nat) (s : Shared) (Q : Value → Shared → Prop) (E : Value → Shared → Prop), tn i s.heap → Q (.ref it) s → wpAny (model P w) A (pyIter (.ref it)) Q E s
abbrev TI := St → Hp → (It → Hp → Prop) → Prop
/-- an iterator has come -/
def PIE (X : Cx) (pins : List (Addr × Obj)) (σ : St) (tg : Expr) (R : It → Hp → Prop) (itv : Value) (s2 : Shared) : Prop :=
  ∃ (it : Addr) (fp : List Addr) (tn : Nat → Heap → Prop) (J : It) (H' : Hp), itv = .ref it ∧ Inv X pins σ H' s2 ∧ Turn X.prog X.w X.K tg J fp it tn ∧ tn 0 s2.heap ∧ (∀ b ∈ fp, FpOk X pins H' b) ∧ R J H'
def PI (X : Cx) (tg iter : Expr) (wi : TI) : Prop :=
  ∀ (pins : List (Addr × Obj)) (s : Shared) (σ : St) (H : Hp) (R : It → Hp → Prop), Inv X pins σ H s → wi σ H R →
    wpAny (model X.prog X.w) X.A (eval iter X.env) (fun v s1 => wpAny (model X.prog X.w) X.A (pyIter v) (PIE X pins σ tg R) X.xe s1) X.xe s

/-- the step ahead of the store is nothing for an iterator that keeps no tuple -/
theorem go_of {M : Model} {A : Around} {E : Value → Shared → Prop} {s : Shared} {tg : Expr} {it : Addr} {u : Value} {o : Obj} {n : String} {vs : Array Value} {Q : Unit → Shared → Prop} (ho : s.heap.get? it = some o) (hc : o.cls = .type n) (hd : o.data = .fields vs)
    (hn : ["enumerate", "zip", "dict_itemiterator", "dict_reverseitemiterator", "odict_iterator", "itertools.zip_longest", "itertools.pairwise"].contains n = false) (hQ : Q () s) : wpAny M A (letOwnedTupleGo tg (.ref it) u) Q E s := by
  unfold letOwnedTupleGo
  cases tg <;> first
    | exact wpAny_pure hQ
    | (cases u <;> first
        | exact wpAny_pure hQ
        | (refine wpAny_bind (wpAny_load ho ?_)
           rw [hc, hd]
           show wpAny M A (if (["enumerate", "zip", "dict_itemiterator", "dict_reverseitemiterator", "odict_iterator", "itertools.zip_longest", "itertools.pairwise"].contains n && vs[0]? == some (rawInt _)) = true then _ else _) Q E s
           rw [if_neg (by intro h; rw [hn, Bool.false_and] at h; cases h)]
           exact wpAny_pure hQ))

/-- the list at a, as it stands at each turn (a loop may append to it) -/
def Itl (K : PySem.W.Frag) (a : Addr) : It :=
  ⟨fun i H => ∃ xs x, SqL K H a xs ∧ xs[i]? = some x, fun i H x H' => H' = H ∧ ∀ xs, SqL K H a xs → xs[i]? = some x, fun i H => ∃ xs, SqL K H a xs ∧ xs.length ≤ i⟩
def Itt (K : PySem.W.Frag) (a : Addr) : It :=
  ⟨fun i H => ∃ xs x, SqT K H a xs ∧ xs[i]? = some x, fun i H x H' => H' = H ∧ ∀ xs, SqT K H a xs → xs[i]? = some x, fun i H => ∃ xs, SqT K H a xs ∧ xs.length ≤ i⟩
/-- lo, lo + 1, .. (n of them) -/
def Itr (lo : Int) (n : Nat) : It := ⟨fun i _ => i < n, fun i H x H' => H' = H ∧ x = .int (lo + i), fun i _ => n ≤ i⟩
theorem turn_list {P : Program} {w : World} {K : PySem.W.Frag} {tg : Expr} (a it : Addr) : Turn P w K tg (Itl K a) [it] it (fun i h => h.IsListIter it a i) where
  mem := by simp
  obj := fun i h st b hb => by
    have e : b = it := by simpa using hb
    subst e
    obtain ⟨o, e, c, d⟩ := st
    exact ⟨o, e, fun v z => by rw [d] at z; cases z⟩
  keep := fun i h h' st k => st.at fun o e => k it (by simp) o e
  item := by
    intro X hP hw hK hc i pins s σ H E I hf st hg
    subst hP hw hK
    obtain ⟨xs, x, hq, hx⟩ := hg
    obtain ⟨its, rv, p, hz⟩ := I.list hq
    obtain ⟨u, hu, ru⟩ := rv.get hx
    obtain ⟨f0, f1, f2, f3, f4, f5⟩ := hf it (by simp)
    refine wpAny_pyNext_list_item st p.isList (x := u) (by simpa using hu) fun h' st' sb => ?_
    have I1 : Inv X pins σ H { s with heap := h' } := I.turned (t' := s.toks) (fun b o hb e => (sb.2 b hb).trans e) f0 f1 f3 f4 f5
    obtain ⟨o, e, c, d⟩ := id st'
    exact ⟨u, rfl, go_of (s := { s with heap := h' }) e c d (by decide) ⟨x, H, I1, ru, ⟨rfl, fun ys hy => by rw [I.list_inj hy hq]; exact hx⟩, st', fun b hb => (hf b hb).1⟩⟩
  done := by
    intro X hP hw hK hc i pins s σ H E I hf st hg
    subst hP hw hK
    obtain ⟨xs, hq, hx⟩ := hg
    obtain ⟨its, rv, p, hz⟩ := I.list hq
    obtain ⟨f0, f1, f2, f3, f4, f5⟩ := hf it (by simp)
    have hl := rv.length
    exact wpAny_pyNext_list_end (I.ok.hd hc) st p.isList (by simp; omega) fun h' eb => ⟨rfl, I.turned (t' := s.toks) (fun b o hb e => eb b o hb e) f0 f1 f3 f4 f5⟩
  self := fun _ _ _ _ _ st h => wpAny_pyIter_listiter st h
theorem turn_range {P : Program} {w : World} {K : PySem.W.Frag} {tg : Expr} (it : Addr) (lo : Int) (n : Nat) : Turn P w K tg (Itr lo n) [it] it (fun i h => IsRangeIter h it (lo + (i : Nat) * 1) ((n : Int) - (i : Nat)) 1) where
  mem := by simp
  obj := fun i h st b hb => by
    have e : b = it := by simpa using hb
    subst e
    exact ⟨_, st, fun v z => by
      have z' : Data.fields _ = Data.cell v := z
      cases z'⟩
  keep := fun i h h' st k => k it (by simp) _ st
  item := by
    intro X hP hw hK hc i pins s σ H E I hf st hg
    subst hP hw hK
    obtain ⟨f0, f1, f2, f3, f4, f5⟩ := hf it (by simp)
    have W := Walks.range (prog := X.prog) (w := X.w) (I.ok.hd hc) it lo 1 n
    refine W.item i s _ _ hg st fun v h' tk hv st' kk => ?_
    obtain ⟨t, rfl⟩ := hv
    have I1 : Inv X pins σ H { s with heap := h', toks := tk } := I.turned (fun b o hb e => kk b o (by simpa using hb) e) f0 f1 f3 f4 f5
    refine ⟨_, rfl, go_of (s := { s with heap := h', toks := tk }) (n := "range_iterator") st' rfl rfl (by decide) ⟨.int (lo + i), H, I1, ⟨t, ?_⟩, ⟨rfl, rfl⟩, st', fun b hb => (hf b hb).1⟩⟩
    rw [Int.mul_one]
  done := by
    intro X hP hw hK hc i pins s σ H E I hf st hg
    subst hP hw hK
    obtain ⟨f0, f1, f2, f3, f4, f5⟩ := hf it (by simp)
    exact wpAny_pyNext_range_end (I.ok.hd hc) st (by have : n ≤ i := hg; omega) fun h' eb => ⟨rfl, I.turned (t' := s.toks) (fun b o hb e => eb b o hb e) f0 f1 f3 f4 f5⟩
  self := fun _ _ _ _ _ st h => wpAny_pyIter_rangeiter st h
end L2

namespace L2
open PySem PySem.Spec PyProof.Rows
section
variable {X : Cx} {tg : Expr}
def iList (K : PySem.W.Frag) (tl : TE) : TI := fun σ H R => tl σ H fun x H1 => ∃ a, x = .ref a ∧ (∃ xs, SqL K H1 a xs) ∧ R (Itl K a) H1
def iTup (K : PySem.W.Frag) (tl : TE) : TI := fun σ H R => tl σ H fun x H1 => ∃ a, x = .ref a ∧ (∃ xs, SqT K H1 a xs) ∧ R (Itt K a) H1
theorem pi_list {l : Expr} {tl : TE} (hl : PE X l tl) : PI X tg l (iList X.K tl) := by
  intro pins s σ H R I h
  refine thn (hl pins s σ H _ I h) fun v s1 ⟨x, H1, I1, r1, q1⟩ => ?_
  obtain ⟨a, e, ⟨xs, hq⟩, q⟩ := q1
  subst e
  cases r1
  obtain ⟨its, rv, p, hz⟩ := I1.list hq
  refine wpAny_pyIter_list p.isList ?_
  refine ⟨s1.heap.objs.size, [s1.heap.objs.size], _, _, H1, rfl, I1.kept (t' := s1.toks) fun b o e => Heap.get?_push_of_some _ e, turn_list a _, ⟨_, Heap.get?_push_size _ rfl, rfl, rfl⟩, fun b hb => ?_, q⟩
  have e : b = s1.heap.objs.size := by simpa using hb
  subst e
  exact I1.fpOk (Nat.le_refl _) (I1.hok.fresh (Nat.le_refl _))
/-- a range object just made, walked -/
theorem range_it {pins : List (Addr × Obj)} {σ : St} {H : Hp} {s : Shared} {R : It → Hp → Prop} {E : Value → Shared → Prop} {lo hi : Int} {t u v : Tok} {tk : Nat} (I : Inv X pins σ H s) (h1 : -(2 ^ 62) ≤ lo) (h2 : lo < 2 ^ 62) (h3 : -(2 ^ 62) ≤ hi) (h4 : hi < 2 ^ 62)
    (q : R (Itr lo (hi - lo).toNat) H) : wpAny (model X.prog X.w) X.A (pyIter (.ref s.heap.objs.size)) (PIE X pins σ tg R) E { s with heap := s.heap.push { cls := .type "range", data := .fields #[.int lo t, .int hi u, .int 1 v] }, toks := tk } := by
  refine wpAny_pyIter_range (IsRange.new ..) (small_one h1 h2 h3 h4) ?_
  have I1 : Inv X pins σ H { s with heap := s.heap.push { cls := .type "range", data := .fields #[.int lo t, .int hi u, .int 1 v] }, toks := tk } := I.kept fun b o e => Heap.get?_push_of_some _ e
  refine ⟨(s.heap.push { cls := .type "range", data := .fields #[.int lo t, .int hi u, .int 1 v] }).objs.size, [(s.heap.push { cls := .type "range", data := .fields #[.int lo t, .int hi u, .int 1 v] }).objs.size], _, _, H, rfl,
    I1.kept (t' := tk) fun b o e => Heap.get?_push_of_some _ e, turn_range _ lo (hi - lo).toNat, ?_, fun b hb => ?_, q⟩
  · have e1 : lo + ((0 : Nat) : Int) * 1 = lo := by simp
    have e2 : (((hi - lo).toNat : Nat) : Int) - ((0 : Nat) : Int) = Builtin.Range.rangeSize lo hi 1 := by rw [rangeSize_one]; split <;> omega
    show IsRangeIter _ _ (lo + ((0 : Nat) : Int) * 1) ((((hi - lo).toNat : Nat) : Int) - ((0 : Nat) : Int)) 1
    rw [e1, e2]
    exact Heap.get?_push_size _ rfl
  · have e : b = (s.heap.push { cls := .type "range", data := .fields #[.int lo t, .int hi u, .int 1 v] }).objs.size := by simpa using hb
    subst e
    exact I1.fpOk (Nat.le_refl _) (I1.hok.fresh (Nat.le_refl _))
def iRng1 (ta : TA) : TI := fun σ H R => ta σ H fun vs H1 => ∃ j : Int, vs = [.int j] ∧ -(2 ^ 62) ≤ j ∧ j < 2 ^ 62 ∧ R (Itr 0 j.toNat) H1
def iRng2 (ta : TA) : TI := fun σ H R => ta σ H fun vs H1 => ∃ i j : Int, vs = [.int i, .int j] ∧ (-(2 ^ 62) ≤ i ∧ i < 2 ^ 62 ∧ -(2 ^ 62) ≤ j ∧ j < 2 ^ 62) ∧ R (Itr i (j - i).toNat) H1
theorem pi_range1 {a : Expr} {ta : TA} {p pos : Pos} (hg : Gl X "range") (hm : X.mg "range" = none) (ha : PA X [a] ta) (hs : starEach [a] X.env = [(false, eval a X.env)] := by rfl) : PI X tg (.Call (.Name "range" p) [a] [] pos) (iRng1 ta) := by
  intro pins s σ H R I h
  refine Call_ (ld_blt I hg hm boot_range (PyProof.Rows.callWith_type1 (thn (ha pos pins s σ H _ I h) fun us s1 ⟨vs, H1, I1, r1, q1⟩ => ?_) hs rfl))
  obtain ⟨j, e, q1, q2, q⟩ := q1
  subst e
  cases r1 with
  | cons r rr =>
    cases rr
    obtain ⟨t, rfl⟩ := r
    exact call_range_1 (range_it I1 (by omega) (by omega) q1 q2 (by simpa using q))
/-- W: the invariant by the turn and a measure; N: what the body is to reach -/
def tFor (wi : TI) (g : TG) (tb : TS) : TS := fun D σ H => wi σ H fun J H1 => ∃ W : Nat → Nat → St → Hp → Prop, (∃ m, W 0 m σ H1) ∧ ∀ i m σ H, W i m σ H →
  (J.stop i H ∧ D.nx σ H) ∨ (J.go i H ∧ ∃ N : St → Hp → Prop, (∀ σ' H', N σ' H' → ∃ m', m' < m ∧ W (i + 1) m' σ' H') ∧ ∀ x H', J.yld i H x H' → g x σ H' fun σ2 H2 => tb { D with nx := N, ct := N, bk := D.nx } σ2 H2)
/-- the records at fp as they stand -/
def pinsAt (fp : List Addr) (h : Heap) : List (Addr × Obj) := fp.filterMap fun b => (h.get? b).map fun o => (b, o)
theorem mem_pinsAt {fp : List Addr} {h : Heap} {b : Addr} {o : Obj} (hb : b ∈ fp) (e : h.get? b = some o) : (b, o) ∈ pinsAt fp h := List.mem_filterMap.mpr ⟨b, hb, by rw [e]; rfl⟩
theorem of_pinsAt {fp : List Addr} {h : Heap} {p : Addr × Obj} (hp : p ∈ pinsAt fp h) : p.1 ∈ fp ∧ h.get? p.1 = some p.2 := by
  obtain ⟨b, hb, e⟩ := List.mem_filterMap.mp hp
  cases q : h.get? b with
  | none => rw [q] at e; cases e
  | some o =>
    rw [q] at e
    have e' : (b, o) = p := Option.some.inj e
    subst e'
    exact ⟨hb, q⟩
theorem Inv.pinned {pins : List (Addr × Obj)} {σ : St} {H : Hp} {s : Shared} {fp : List Addr} (I : Inv X pins σ H s) (hf : ∀ b ∈ fp, FpOk X pins H b) (ho : ∀ b ∈ fp, ∃ o, s.heap.get? b = some o ∧ ∀ v, o.data ≠ .cell v) : Inv X (pins ++ pinsAt fp s.heap) σ H s :=
  I.pins_of fun p hp => (List.mem_append.mp hp).elim (fun z => I.pin p (List.mem_append_right _ z)) fun z => by
    obtain ⟨hb, e⟩ := of_pinsAt z
    obtain ⟨f0, f1, f2, _⟩ := hf p.1 hb
    obtain ⟨o, e', d⟩ := ho p.1 hb
    rw [e] at e'; cases e'
    exact ⟨e, f0, f1, f2, d⟩
theorem Inv.unpinned {pins pl : List (Addr × Obj)} {σ : St} {H : Hp} {s : Shared} (I : Inv X (pins ++ pl) σ H s) : Inv X pins σ H s := I.pins_of fun p hp => I.pin p (List.mem_append_right _ (List.mem_append_left _ hp))
theorem ps_for {iter : Expr} {body : List Stmt} {wi : TI} {g : TG} {tb : TS} {pos : Pos} (hp : PassesOwn (model X.prog X.w) X.A X.env X.xe) (hc : X.calm = true) (hi : PI X tg iter wi) (hg : PG X tg g) (hb : PSs X body tb)
    (hs : ∀ x, foldedSetIterable iter X.env x = pure x := by intro _; rfl) : PS X (.For tg iter body [] pos) (tFor wi g tb) := by
  intro pins s σ H D I h
  refine wpAny_For (thn (hi pins s σ H _ I h) fun v s1 h1 => thn h1 fun itv s2 h2 => ?_) hs
  obtain ⟨it, fp, tn, J, H2, e, I2, T, st2, f2, W, ⟨m0, w0⟩, turn⟩ := h2
  subst e
  -- what stays true of the iterator's objects through the loop
  have stat : ∀ {H' : Hp}, (∀ b ∈ fp, H' b = none) → ∀ b ∈ fp, FpOk X pins H' b := fun hn b hb => ⟨hn b hb, (f2 b hb).2⟩
  refine codeAny_forLoop_any (fun n s' => ∃ i σ' H', Inv X pins σ' H' s' ∧ tn i s'.heap ∧ (∀ b ∈ fp, H' b = none) ∧ W i n σ' H') ?_ m0 ⟨0, σ, H2, I2, st2, fun b hb => (f2 b hb).1, w0⟩
  rintro n s3 ⟨i, σ3, H3, I3, st3, fr3, w3⟩
  rcases turn i n σ3 H3 w3 with ⟨stop, qn⟩ | ⟨go, N, hN, step⟩
  · refine wpAny_passesOwn hp (thn (T.done X rfl rfl rfl hc i pins s3 σ3 H3 X.xe I3 (stat fr3) st3 stop) fun r s4 ⟨hr, I4⟩ => ?_)
    subst hr
    exact wpAny_execs_nil ⟨σ3, H3, I4, qn⟩
  · refine wpAny_passesOwn hp (thn (T.item X rfl rfl rfl hc i pins s3 σ3 H3 X.xe I3 (stat fr3) st3 go) fun r s4 ⟨u, hr, h4⟩ => ?_)
    subst hr
    refine wpAny_passesOwn hp (thn h4 fun _ s5 ⟨x, H5, I5, r5, y5, st5, fr5⟩ => ?_)
    have I5' := I5.pinned (stat fr5) (T.obj _ _ st5)
    refine wpAny_passesOwn hp (thn (hg _ s5 σ3 H5 x u _ I5' r5 (step x H5 y5)) fun _ s6 ⟨σ6, H6, I6, q6⟩ => ?_)
    refine wpAny_passesOwn hp (thn (hb _ s6 σ6 H6 _ I6 q6) fun f s7 q7 => ?_)
    have again : ∀ {σ7 : St} {H7 : Hp}, Inv X (pins ++ pinsAt fp s5.heap) σ7 H7 s7 → N σ7 H7 → ∃ m, m < n ∧ ∃ i σ' H', Inv X pins σ' H' s7 ∧ tn i s7.heap ∧ (∀ b ∈ fp, H' b = none) ∧ W i m σ' H' := fun {σ7 H7} I7 n7 => by
      obtain ⟨m', hm, w7⟩ := hN σ7 H7 n7
      refine ⟨m', hm, i + 1, σ7, H7, I7.unpinned, T.keep _ _ _ st5 fun b hb o e => (I7.pin (b, o) (List.mem_append_right _ (List.mem_append_right _ (mem_pinsAt hb e)))).1, fun b hb => ?_, w7⟩
      obtain ⟨o, e, d⟩ := T.obj _ _ st5 b hb
      exact (I7.pin (b, o) (List.mem_append_right _ (List.mem_append_right _ (mem_pinsAt hb e)))).2.1
    cases f with
    | next => obtain ⟨σ7, H7, I7, n7⟩ := q7; exact again I7 n7
    | cont => obtain ⟨σ7, H7, I7, n7⟩ := q7; exact again I7 n7
    | brk => obtain ⟨σ7, H7, I7, q7⟩ := q7; exact ⟨σ7, H7, I7.unpinned, q7⟩
    | ret v => obtain ⟨x7, σ7, H7, I7, r7, q7⟩ := q7; exact ⟨x7, σ7, H7, I7.unpinned, r7, q7⟩
end

/-- over a list that the body leaves as it is -/
theorem for_list {K : PySem.W.Frag} {a : Addr} {xs : List V} {g : TG} {tb : TS} {D : Ends} {σ : St} {H : Hp} (Pv : Nat → St → Hp → Prop) (h0 : Pv 0 σ H) (hl : ∀ i σ H, i ≤ xs.length → Pv i σ H → SqL K H a xs)
    (hs : ∀ i x σ H, xs[i]? = some x → Pv i σ H → g x σ H fun σ2 H2 => tb { D with nx := Pv (i + 1), ct := Pv (i + 1), bk := D.nx } σ2 H2) (hd : ∀ σ H, Pv xs.length σ H → D.nx σ H) :
    ∃ W : Nat → Nat → St → Hp → Prop, (∃ m, W 0 m σ H) ∧ ∀ i m σ H, W i m σ H →
      ((Itl K a).stop i H ∧ D.nx σ H) ∨ ((Itl K a).go i H ∧ ∃ N : St → Hp → Prop, (∀ σ' H', N σ' H' → ∃ m', m' < m ∧ W (i + 1) m' σ' H') ∧ ∀ x H', (Itl K a).yld i H x H' → g x σ H' fun σ2 H2 => tb { D with nx := N, ct := N, bk := D.nx } σ2 H2) := by
  refine ⟨fun i m σ H => m = xs.length - i ∧ i ≤ xs.length ∧ Pv i σ H, ⟨xs.length, by simp, Nat.zero_le _, h0⟩, ?_⟩
  rintro i m σ H ⟨rfl, hi, p⟩
  have q := hl i σ H hi p
  by_cases hlt : i < xs.length
  · refine .inr ⟨⟨xs, xs[i], q, by simp [hlt]⟩, Pv (i + 1), fun σ' H' p' => ⟨xs.length - (i + 1), by omega, rfl, hlt, p'⟩, fun x H' y => ?_⟩
    obtain ⟨e, y⟩ := y
    subst e
    exact hs i x σ _ (y xs q) p
  · have e : i = xs.length := by omega
    subst e
    exact .inl ⟨⟨xs, q, Nat.le_refl _⟩, hd σ H p⟩
theorem for_range {lo : Int} {n : Nat} {g : TG} {tb : TS} {D : Ends} {σ : St} {H : Hp} (Pv : Nat → St → Hp → Prop) (h0 : Pv 0 σ H)
    (hs : ∀ i σ H, i < n → Pv i σ H → g (.int (lo + i)) σ H fun σ2 H2 => tb { D with nx := Pv (i + 1), ct := Pv (i + 1), bk := D.nx } σ2 H2) (hd : ∀ σ H, Pv n σ H → D.nx σ H) :
    ∃ W : Nat → Nat → St → Hp → Prop, (∃ m, W 0 m σ H) ∧ ∀ i m σ H, W i m σ H →
      ((Itr lo n).stop i H ∧ D.nx σ H) ∨ ((Itr lo n).go i H ∧ ∃ N : St → Hp → Prop, (∀ σ' H', N σ' H' → ∃ m', m' < m ∧ W (i + 1) m' σ' H') ∧ ∀ x H', (Itr lo n).yld i H x H' → g x σ H' fun σ2 H2 => tb { D with nx := N, ct := N, bk := D.nx } σ2 H2) := by
  refine ⟨fun i m σ H => m = n - i ∧ i ≤ n ∧ Pv i σ H, ⟨n, by simp, Nat.zero_le _, h0⟩, ?_⟩
  rintro i m σ H ⟨rfl, hi, p⟩
  by_cases hlt : i < n
  · refine .inr ⟨hlt, Pv (i + 1), fun σ' H' p' => ⟨n - (i + 1), by omega, rfl, hlt, p'⟩, fun x H' y => ?_⟩
    obtain ⟨e, y⟩ := y
    subst e y
    exact hs i σ _ hlt p
  · have e : i = n := by omega
    subst e
    exact .inl ⟨Nat.le_refl _, hd σ H p⟩
end L2

namespace L2
open PySem PySem.Spec PyProof.Rows

abbrev R2 := V → V → Hp → VK → Prop
/-- a two-place operation on values: f is binaryOp op, inplaceOp op or compareOp op -/
def OpR (X : Cx) (f : Value → Value → Sem Value) (r : R2) : Prop :=
  ∀ (pins : List (Addr × Obj)) (s : Shared) (σ : St) (H : Hp) (x y : V) (v u : Value) (Q : VK), Inv X pins σ H s → RelV x v → RelV y u → r x y H Q →
    wpAny (model X.prog X.w) X.A (f v u) (EP X pins σ Q) X.xe s
/-- a one-place operation -/
def UnR (X : Cx) (f : Value → Sem Value) (r : V → Hp → VK → Prop) : Prop :=
  ∀ (pins : List (Addr × Obj)) (s : Shared) (σ : St) (H : Hp) (x : V) (v : Value) (Q : VK), Inv X pins σ H s → RelV x v → r x H Q →
    wpAny (model X.prog X.w) X.A (f v) (EP X pins σ Q) X.xe s
/-- a call of a value that is known (a builtin, a type) with values -/
def CallR (X : Cx) (f : Value) (r : List V → Hp → VK → Prop) : Prop :=
  ∀ (pins : List (Addr × Obj)) (s : Shared) (σ : St) (H : Hp) (xs : List V) (us : List Value) (Q : VK), Inv X pins σ H s → Vals xs us → r xs H Q →
    wpAny (model X.prog X.w) X.A (call f us) (EP X pins σ Q) X.xe s
/-- a value's truth -/
def TruR (X : Cx) (r : V → Hp → (Bool → Hp → Prop) → Prop) : Prop :=
  ∀ (pins : List (Addr × Obj)) (s : Shared) (σ : St) (H : Hp) (x : V) (v : Value) (Q : Bool → Hp → Prop), Inv X pins σ H s → RelV x v → r x H Q →
    wpAny (model X.prog X.w) X.A (truthy v) (TP X pins σ Q) X.xe s

def tOp (r : R2) (ta tb : TE) : TE := fun σ H Q => ta σ H fun x H1 => tb σ H1 fun y H2 => r x y H2 Q
def tUn (r : V → Hp → VK → Prop) (ta : TE) : TE := fun σ H Q => ta σ H fun x H1 => r x H1 Q
/-- ints in, under C, and a value out -/
def rI (C : Int → Int → Prop) (g : Int → Int → V) : R2 := fun x y H Q => ∃ i j, x = .int i ∧ y = .int j ∧ C i j ∧ Q (g i j) H
def rI0 (g : Int → Int → V) : R2 := fun x y H Q => ∃ i j, x = .int i ∧ y = .int j ∧ Q (g i j) H
def rU (g : Int → V) : V → Hp → VK → Prop := fun x H Q => ∃ i, x = .int i ∧ Q (g i) H

section
variable {X : Cx} {a b c : Expr} {ta tb tc : TE} {pos : Pos}

theorem binT (ha : PE X a ta) (hb : PE X b tb) {pins : List (Addr × Obj)} {s : Shared} {σ : St} {H : Hp} {R : V → V → Hp → Prop} (I : Inv X pins σ H s)
    (h : ta σ H fun x H1 => tb σ H1 fun y H2 => R x y H2) {Q : Value → Shared → Prop} {f : Value → Value → Sem Value}
    (hf : ∀ v u s2 x y H2, Inv X pins σ H2 s2 → RelV x v → RelV y u → R x y H2 → wpAny (model X.prog X.w) X.A (f v u) Q X.xe s2) :
    wpAny (model X.prog X.w) X.A (eval a X.env) (fun v s₁ => wpAny (model X.prog X.w) X.A (eval b X.env) (fun u s₂ => wpAny (model X.prog X.w) X.A (f v u) Q X.xe s₂) X.xe s₁) X.xe s := by
  refine thn (ha pins s σ H _ I h) fun v s1 ⟨x, H1, I1, r1, q1⟩ => ?_
  refine thn (hb pins s1 σ H1 _ I1 q1) fun u s2 ⟨y, H2, I2, r2, q2⟩ => ?_
  exact hf v u s2 x y H2 I2 r1 r2 q2

theorem pe_op {op : Operator} {r : R2} (ho : OpR X (binaryOp op) r) (ha : PE X a ta) (hb : PE X b tb) : PE X (.BinOp a op b pos) (tOp r ta tb) := by
  intro pins s σ H Q I h
  exact wpAny_BinOp (binT ha hb I h fun v u s2 x y H2 I2 rx ry q => ho pins s2 σ H2 x y v u Q I2 rx ry q)
theorem pe_un {op : UnaryOp} {r : V → Hp → VK → Prop} (ho : UnR X (unaryOp op) r) (ha : PE X a ta) : PE X (.UnaryOp op a pos) (tUn r ta) := by
  intro pins s σ H Q I h
  exact UnaryOp_ (thn (ha pins s σ H _ I h) fun v s1 ⟨x, H1, I1, r1, q1⟩ => ho pins s1 σ H1 x v Q I1 r1 q1)
theorem opI {f : Value → Value → Sem Value} {C : Int → Int → Prop} {g : Int → Int → Int}
    (rule : ∀ (i j : Int) (t u : Tok) (s : Shared) (Q : Value → Shared → Prop) (E : Value → Shared → Prop), C i j → Q (.int (g i j) s.toks) { s with toks := s.toks + 1 } → wpAny (model X.prog X.w) X.A (f (.int i t) (.int j u)) Q E s) :
    OpR X f (rI C fun i j => .int (g i j)) := by
  intro pins s σ H x y v u Q I rx ry h
  obtain ⟨i, j, rfl, rfl, hc, q⟩ := h
  obtain ⟨t, rfl⟩ := rx
  obtain ⟨t', rfl⟩ := ry
  exact rule i j t t' s _ _ hc ⟨.int (g i j), H, I.tok _, ⟨_, rfl⟩, q⟩
theorem opI0 {f : Value → Value → Sem Value} {g : Int → Int → Int}
    (rule : ∀ (i j : Int) (t u : Tok) (s : Shared) (Q : Value → Shared → Prop) (E : Value → Shared → Prop), Q (.int (g i j) s.toks) { s with toks := s.toks + 1 } → wpAny (model X.prog X.w) X.A (f (.int i t) (.int j u)) Q E s) :
    OpR X f (rI0 fun i j => .int (g i j)) := by
  intro pins s σ H x y v u Q I rx ry h
  obtain ⟨i, j, rfl, rfl, q⟩ := h
  obtain ⟨t, rfl⟩ := rx
  obtain ⟨t', rfl⟩ := ry
  exact rule i j t t' s _ _ ⟨.int (g i j), H, I.tok _, ⟨_, rfl⟩, q⟩
theorem opB0 {f : Value → Value → Sem Value} {g : Int → Int → Bool}
    (rule : ∀ (i j : Int) (t u : Tok) (s : Shared) (Q : Value → Shared → Prop) (E : Value → Shared → Prop), Q (.bool (g i j)) s → wpAny (model X.prog X.w) X.A (f (.int i t) (.int j u)) Q E s) :
    OpR X f (rI0 fun i j => .bl (g i j)) := by
  intro pins s σ H x y v u Q I rx ry h
  obtain ⟨i, j, rfl, rfl, q⟩ := h
  obtain ⟨t, rfl⟩ := rx
  obtain ⟨t', rfl⟩ := ry
  exact rule i j t t' s _ _ ⟨.bl (g i j), H, I, rfl, q⟩

def CPow (i j : Int) : Prop := 0 ≤ j ∧ j ≤ 1000000 ∧ i.natAbs < 2 ^ 64
def CMul (i j : Int) : Prop := (-(2 ^ 64) < i ∧ i < 2 ^ 64) ∨ (-(2 ^ 64) < j ∧ j < 2 ^ 64)
theorem CMul.ok {i j : Int} (h : CMul i j) : IntMulOk i j := by
  rcases h with ⟨h1, h2⟩ | ⟨h1, h2⟩
  · exact .of_left (intBits_le_64 h1 h2)
  · exact .of_right (intBits_le_64 h1 h2)
theorem two_pow_nn (k : Nat) : (0 : Int) ≤ 2 ^ k := by
  rw [two_pow_cast]
  exact Int.natCast_nonneg _

theorem op_add : OpR X (binaryOp .Add) (rI0 fun i j => .int (i + j)) := opI0 fun _ _ _ _ _ _ _ q => add_int q
theorem op_sub : OpR X (binaryOp .Sub) (rI0 fun i j => .int (i - j)) := opI0 fun _ _ _ _ _ _ _ q => sub_int q
/-- % by a positive divisor of any size -/
theorem op_mod : OpR X (binaryOp .Mod) (rI (fun _ j => 0 < j) fun i j => .int (i % j)) := opI fun i j _ _ _ _ _ hc q => by
  have h1 : (0 : Int) < j := hc
  exact mod_int' (by omega) (by rw [Int.fmod_eq_emod_of_nonneg i (by omega)]; exact q)
theorem op_pow : OpR X (binaryOp .Pow) (rI CPow fun i j => .int (i ^ j.toNat)) := opI fun _ _ _ _ _ _ _ hc q => pow_int_small hc.1 hc.2.1 hc.2.2 q
theorem op_shr : OpR X (binaryOp .RShift) (rI (fun _ j => 0 ≤ j) fun i j => .int (i / 2 ^ j.toNat)) := opI fun i j _ _ _ _ _ hc q =>
  rshift_int hc (by rw [Int.fdiv_eq_ediv_of_nonneg i (two_pow_nn _)]; exact q)
theorem op_and : OpR X (binaryOp .BitAnd) (rI0 fun i j => .int (Builtin.bitAnd i j)) := opI0 fun _ _ _ _ _ _ _ q => and_int q
theorem op_or : OpR X (binaryOp .BitOr) (rI0 fun i j => .int (Builtin.bitOr i j)) := opI0 fun _ _ _ _ _ _ _ q => or_int q
theorem op_xor : OpR X (binaryOp .BitXor) (rI0 fun i j => .int (Builtin.bitXor i j)) := opI0 fun _ _ _ _ _ _ _ q => xor_int q

theorem unI {f : Value → Sem Value} {g : Int → Int}
    (rule : ∀ (i : Int) (t : Tok) (s : Shared) (Q : Value → Shared → Prop) (E : Value → Shared → Prop), Q (.int (g i) s.toks) { s with toks := s.toks + 1 } → wpAny (model X.prog X.w) X.A (f (.int i t)) Q E s) :
    UnR X f (rU fun i => .int (g i)) := by
  intro pins s σ H x v Q I rx h
  obtain ⟨i, rfl, q⟩ := h
  obtain ⟨t, rfl⟩ := rx
  exact rule i t s _ _ ⟨.int (g i), H, I.tok _, ⟨_, rfl⟩, q⟩
theorem un_neg : UnR X (unaryOp .USub) (rU fun i => .int (-i)) := unI fun _ _ _ _ _ q => neg_int q
end

/-- the scalars that == tells apart as data does -/
def scal : V → V → Bool
  | .non, .non => true | .non, .int _ => true | .int _, .non => true | .non, .bl _ => true | .bl _, .non => true | .non, .str _ => true | .str _, .non => true
  | .int _, .int _ => true | .bl _, .bl _ => true | .str _, .str _ => true | .byt _, .byt _ => true
  | .int _, .str _ => true | .str _, .int _ => true | .bl _, .str _ => true | .str _, .bl _ => true
  | _, _ => false
def rEq : R2 := fun x y H Q => scal x y = true ∧ Q (.bl (decide (x = y))) H
def rNe : R2 := fun x y H Q => scal x y = true ∧ Q (.bl (!decide (x = y))) H

theorem dec_int {i j : Int} : decide (V.int i = V.int j) = (i == j) := by
  rw [Bool.eq_iff_iff]
  simp
theorem dec_bl {i j : Bool} : decide (V.bl i = V.bl j) = (i == j) := by
  rw [Bool.eq_iff_iff]
  simp
theorem dec_str {i j : Str} : decide (V.str i = V.str j) = (i == j) := by
  rw [Bool.eq_iff_iff]
  simp
theorem dec_byt {i j : Array UInt8} : decide (V.byt i = V.byt j) = (i.toList == j.toList) := by
  rw [Bool.eq_iff_iff]
  cases i
  cases j
  simp

section
variable {X : Cx} {a b c : Expr} {ta tb tc : TE} {pos : Pos}
theorem fin_bl {pins : List (Addr × Obj)} {σ : St} {H : Hp} {s : Shared} {Q : VK} {k k' : Bool} (I : Inv X pins σ H s) (q : Q (.bl k) H) (e : k = k') : EP X pins σ Q (.bool k') s := by
  subst e
  exact ⟨.bl k, H, I, rfl, q⟩
theorem op_eq : OpR X (compareOp .Eq) rEq := by
  intro pins s σ H x y v u Q I rx ry h
  obtain ⟨hs, q⟩ := h
  cases x with
  | non =>
    cases rx
    cases y with
    | non => cases ry; exact PySem.EqNone.eq_none_none (fin_bl I q (by simp))
    | bl j => cases ry; exact PySem.EqNone.eq_none_bool (fin_bl I q (by simp))
    | int j => obtain ⟨t', rfl⟩ := ry; exact PySem.EqNone.eq_none_int (fin_bl I q (by simp))
    | str j => obtain ⟨t', rfl⟩ := ry; exact PySem.EqNone.eq_none_str (fin_bl I q (by simp))
    | _ => exact absurd (show false = true from hs) Bool.false_ne_true
  | bl i =>
    cases rx
    cases y with
    | non => cases ry; exact PySem.EqNone.eq_bool_none (fin_bl I q (by simp))
    | bl j => cases ry; exact eq_bool (fin_bl I q dec_bl)
    | str j => obtain ⟨t', rfl⟩ := ry; exact PySem.EqMixed.eq_bool_str (fin_bl I q (by simp))
    | _ => exact absurd (show false = true from hs) Bool.false_ne_true
  | int i =>
    obtain ⟨t, rfl⟩ := rx
    cases y with
    | non => cases ry; exact PySem.EqNone.eq_int_none (fin_bl I q (by simp))
    | int j => obtain ⟨t', rfl⟩ := ry; exact eq_int (fin_bl I q dec_int)
    | str j => obtain ⟨t', rfl⟩ := ry; exact PySem.EqMixed.eq_int_str (fin_bl I q (by simp))
    | _ => exact absurd (show false = true from hs) Bool.false_ne_true
  | str i =>
    obtain ⟨t, rfl⟩ := rx
    cases y with
    | non => cases ry; exact PySem.EqNone.eq_str_none (fin_bl I q (by simp))
    | bl j => cases ry; exact PySem.EqMixed.eq_str_bool (fin_bl I q (by simp))
    | int j => obtain ⟨t', rfl⟩ := ry; exact PySem.EqMixed.eq_str_int (fin_bl I q (by simp))
    | str j => obtain ⟨t', rfl⟩ := ry; exact eq_str (fin_bl I q dec_str)
    | _ => exact absurd (show false = true from hs) Bool.false_ne_true
  | byt i =>
    obtain ⟨t, rfl⟩ := rx
    cases y with
    | byt j => obtain ⟨t', rfl⟩ := ry; exact PySem.W.eq_bytes (fin_bl I q dec_byt)
    | _ => exact absurd (show false = true from hs) Bool.false_ne_true
  | _ => cases y <;> exact absurd (show false = true from hs) Bool.false_ne_true
theorem op_ne : OpR X (compareOp .NotEq) rNe := by
  intro pins s σ H x y v u Q I rx ry h
  obtain ⟨hs, q⟩ := h
  cases x with
  | non =>
    cases rx
    cases y with
    | non => cases ry; exact PySem.EqNone.ne_none_none (fin_bl I q (by simp))
    | bl j => cases ry; exact PySem.EqNone.ne_none_bool (fin_bl I q (by simp))
    | int j => obtain ⟨t', rfl⟩ := ry; exact PySem.EqNone.ne_none_int (fin_bl I q (by simp))
    | str j => obtain ⟨t', rfl⟩ := ry; exact PySem.EqNone.ne_none_str (fin_bl I q (by simp))
    | _ => exact absurd (show false = true from hs) Bool.false_ne_true
  | bl i =>
    cases rx
    cases y with
    | non => cases ry; exact PySem.EqNone.ne_bool_none (fin_bl I q (by simp))
    | bl j => cases ry; exact ne_bool (fin_bl I q (congrArg not dec_bl))
    | str j => obtain ⟨t', rfl⟩ := ry; exact PySem.EqMixed.ne_bool_str (fin_bl I q (by simp))
    | _ => exact absurd (show false = true from hs) Bool.false_ne_true
  | int i =>
    obtain ⟨t, rfl⟩ := rx
    cases y with
    | non => cases ry; exact PySem.EqNone.ne_int_none (fin_bl I q (by simp))
    | int j => obtain ⟨t', rfl⟩ := ry; exact ne_int (fin_bl I q (congrArg not dec_int))
    | str j => obtain ⟨t', rfl⟩ := ry; exact PySem.EqMixed.ne_int_str (fin_bl I q (by simp))
    | _ => exact absurd (show false = true from hs) Bool.false_ne_true
  | str i =>
    obtain ⟨t, rfl⟩ := rx
    cases y with
    | non => cases ry; exact PySem.EqNone.ne_str_none (fin_bl I q (by simp))
    | bl j => cases ry; exact PySem.EqMixed.ne_str_bool (fin_bl I q (by simp))
    | int j => obtain ⟨t', rfl⟩ := ry; exact PySem.EqMixed.ne_str_int (fin_bl I q (by simp))
    | str j => obtain ⟨t', rfl⟩ := ry; exact ne_str (fin_bl I q (congrArg not dec_str))
    | _ => exact absurd (show false = true from hs) Bool.false_ne_true
  | byt i =>
    obtain ⟨t, rfl⟩ := rx
    cases y with
    | byt j => obtain ⟨t', rfl⟩ := ry; exact PySem.W.ne_bytes (fin_bl I q (congrArg not dec_byt))
    | _ => exact absurd (show false = true from hs) Bool.false_ne_true
  | _ => cases y <;> exact absurd (show false = true from hs) Bool.false_ne_true

theorem op_lt : OpR X (compareOp .Lt) (rI0 fun i j => .bl (decide (i < j))) := opB0 fun _ _ _ _ _ _ _ q => lt_int q
theorem op_gt : OpR X (compareOp .Gt) (rI0 fun i j => .bl (decide (j < i))) := opB0 fun _ _ _ _ _ _ _ q => gt_int q
/-- is None, is not None: the right side a value none -/
theorem op_isN : OpR X (compareOp .Is) (fun x y H Q => y = .non ∧ Q (.bl (decide (x = .non))) H) := by
  intro pins s σ H x y v u Q I rx ry h
  obtain ⟨rfl, q⟩ := h
  cases ry
  refine is_none_gen (fin_bl I q ?_)
  cases x <;> first
    | (cases rx; rfl)
    | (obtain ⟨t, rfl⟩ := rx; rfl)
/-- two rules for one operation: by cases -/
theorem OpR.or {f : Value → Value → Sem Value} {r r' : R2} (h : OpR X f r) (h' : OpR X f r') : OpR X f (fun x y H Q => r x y H Q ∨ r' x y H Q) := by
  intro pins s σ H x y v u Q I rx ry q
  rcases q with q | q
  · exact h pins s σ H x y v u Q I rx ry q
  · exact h' pins s σ H x y v u Q I rx ry q

theorem nomark (b : Expr) {op : CmpOp} (h : op ≠ .In := by decide) (h2 : op ≠ .NotIn := by decide) : behindInMarks op b = false := by
  have e1 : (op == CmpOp.In) = false := by cases op <;> first | rfl | exact absurd rfl h
  have e2 : (op == CmpOp.NotIn) = false := by cases op <;> first | rfl | exact absurd rfl h2
  cases b <;> simp [behindInMarks, e1, e2]
/-- a comparison as a value; hm: nomark b, or (for in, not in) by with_unfolding_all rfl -/
theorem pe_cmpR {op : CmpOp} {r : R2} (ho : OpR X (compareOp op) r) (ha : PE X a ta) (hb : PE X b tb) (hm : behindInMarks op b = false) : PE X (.Compare a [op] [b] pos) (tOp r ta tb) := by
  intro pins s σ H Q I h
  exact wpAny_Compare1 (binT ha hb I h fun v u s2 x y H2 I2 rx ry q => ho pins s2 σ H2 x y v u Q I2 rx ry q) hm
/-- a reading of a value as a test -/
def tTest (t : TE) : TT := fun σ H Q => t σ H fun x H' => ∃ k, x = .bl k ∧ Q k H'
theorem pt_cmpR {op : CmpOp} {r : R2} (ho : OpR X (compareOp op) r) (ha : PE X a ta) (hb : PE X b tb) (hm : behindInMarks op b = false) : PT X (.Compare a [op] [b] pos) (tTest (tOp r ta tb)) := by
  intro pins s σ H Q I h
  refine wpAny_isTrue_Compare1 (thn (ha pins s σ H _ I h) fun v s1 ⟨x, H1, I1, r1, q1⟩ => thn (hb pins s1 σ H1 _ I1 q1) fun u s2 ⟨y, H2, I2, r2, q2⟩ =>
    thn (ho pins s2 σ H2 x y v u _ I2 r1 r2 q2) fun c s3 ⟨z, H3, I3, r3, k, e, q3⟩ => ?_) hm
  subst e
  cases r3
  exact wpAny_truthy_bool ⟨H3, I3, q3⟩
/-- a op1 b op2 c -/
def tChain (r r' : R2) (ta tb tc : TE) : TE := fun σ H Q => ta σ H fun x H1 => tb σ H1 fun y H2 => r x y H2 fun z H3 => ∃ k, z = .bl k ∧
  (if k = true then tc σ H3 fun w' H4 => r' y w' H4 Q else Q (.bl false) H3)
/-- a value's truth by the abstract heap -/
def TruV (K : PySem.W.Frag) (x : V) (H : Hp) (k : Bool) : Prop :=
  match x with
  | .non => k = false
  | .bl b => k = b
  | .int i => k = (i != 0)
  | .str y => y.length ≤ sizeLine ∧ k = ((y.length : Int) != 0)
  | .byt y => y.size ≤ sizeLine ∧ k = ((y.size : Int) != 0)
  | .ref p => (∃ xs, SqL K H p xs ∧ k = !xs.isEmpty) ∨ (∃ xs, SqT K H p xs ∧ k = !xs.isEmpty) ∨ ∃ kvs, H p = some (.dK kvs) ∧ k = !kvs.isEmpty
  | _ => False
theorem isEmpty_kv {κ : Type} {kvs : List (κ × V)} {vs : List (κ × Value)} (r : KV kvs vs) : (!vs.isEmpty) = !kvs.isEmpty := by
  cases r <;> rfl
theorem isEmpty_of {xs : List V} {its : List Value} (r : Vals xs its) : (!its.toArray.isEmpty) = !xs.isEmpty := by
  cases r <;> simp
theorem line63 : (sizeLine : Nat) < 2 ^ 63 := by rw [sizeLine_eq]; decide
theorem tru_ok : TruR X (fun x H Q => ∃ k, TruV X.K x H k ∧ Q k H) := by
  intro pins s σ H x v Q I rx h
  obtain ⟨k, e, q⟩ := h
  have hl := line63
  have hs : sizeLine = 16777216 := sizeLine_eq
  cases x with
  | non =>
    cases rx
    have e' : k = false := e
    subst e'
    exact truthy_none ⟨H, I, q⟩
  | bl b =>
    cases rx
    have e' : k = b := e
    subst e'
    exact wpAny_truthy_bool ⟨H, I, q⟩
  | int i =>
    obtain ⟨t, rfl⟩ := rx
    have e' : k = (i != 0) := e
    subst e'
    exact PySem.P.truthy_int ⟨H, I, q⟩
  | str y =>
    obtain ⟨t, rfl⟩ := rx
    obtain ⟨hy, e'⟩ : y.length ≤ sizeLine ∧ k = ((y.length : Int) != 0) := e
    subst e'
    exact PySem.P.truthy_str (by omega) ⟨H, I.tok _, q⟩
  | byt y =>
    obtain ⟨t, rfl⟩ := rx
    obtain ⟨hy, e'⟩ : y.size ≤ sizeLine ∧ k = ((y.size : Int) != 0) := e
    subst e'
    exact PySem.W.truthy_bytes (by omega) ⟨H, I.tok _, q⟩
  | ref p =>
    cases rx
    have e' : (∃ xs, SqL X.K H p xs ∧ k = !xs.isEmpty) ∨ (∃ xs, SqT X.K H p xs ∧ k = !xs.isEmpty) ∨ ∃ kvs, H p = some (.dK kvs) ∧ k = !kvs.isEmpty := e
    rcases e' with ⟨xs, hx, e'⟩ | ⟨xs, hx, e'⟩ | ⟨kvs, hx, e'⟩
    · subst e'
      obtain ⟨its, r, pl, hz⟩ := I.list hx
      have hlen := r.length
      exact wpAny_truthy_list pl.isList (by simp only [List.size_toArray]; omega) ⟨H, I.tok _, by rw [isEmpty_of r]; exact q⟩
    · subst e'
      obtain ⟨its, r, pl, hz⟩ := I.tuple hx
      have hlen := r.length
      exact truthy_tuple pl (by simp only [List.size_toArray]; omega) ⟨H, I.tok _, by rw [isEmpty_of r]; exact q⟩
    · subst e'
      obtain ⟨hz, hS, vs, r, m⟩ : kvs.length ≤ sizeLine ∧ (p == sysModules) = false ∧ ∃ vs, KV kvs vs ∧ s.heap.DictOf (mixKind X.prog X.w) p vs := I.hok p _ hx
      have hlen : kvs.length = vs.length := Paired.length r
      exact wpAny_truthy_dict hS m (by omega) ⟨H, I.tok _, by rw [isEmpty_kv r]; exact q⟩
  | _ => exact (show False from e).elim
theorem vals1 {x : V} {us : List Value} (r : Vals [x] us) : ∃ u, us = [u] ∧ RelV x u := by
  cases r with
  | cons r1 r2 => cases r2; exact ⟨_, rfl, r1⟩
theorem vals2 {x y : V} {us : List Value} (r : Vals [x, y] us) : ∃ u w', us = [u, w'] ∧ RelV x u ∧ RelV y w' := by
  cases r with
  | cons r1 r2 =>
    cases r2 with
    | cons r3 r4 => cases r4; exact ⟨_, _, rfl, r1, r3⟩
theorem call_abs : CallR X (.builtin "abs") (fun xs H Q => ∃ i, xs = [.int i] ∧ Q (.int (if i < 0 then -i else i)) H) := by
  intro pins s σ H xs us Q I r h
  obtain ⟨i, rfl, q⟩ := h
  obtain ⟨u, rfl, t, rfl⟩ := vals1 r
  exact call_abs_int fun u tk => ⟨.int (if i < 0 then -i else i), H, I.tok _, ⟨_, rfl⟩, q⟩
end
end L2

namespace L2
open PySem PySem.Spec PyProof.Rows

structure ObjM (h : Heap) (x dx C : Addr) (mA : Str → Option Value) : Prop where
  obj : h.get? x = some (PySem.W.instObj C dx)
  ns : h.Ns1 dx mA
  ne : dx ≠ x

theorem lookIn_ns {h : Heap} {dx : Addr} {mA : Str → Option Value} (n : h.Ns1 dx mA) : ∃ od, h.get? dx = some od ∧ ∀ name, PySem.W.lookIn name od = some (mA name) := by
  obtain ⟨o, es, ep, ho, hd, hk, _, hm⟩ := n
  refine ⟨o, ho, fun name => ?_⟩
  have e := hm name
  unfold nsFind findBy at e
  rw [← Array.find?_toList] at e
  unfold PySem.W.lookIn
  rw [hd]
  dsimp only
  split
  · rename_i y q
    rw [q] at e
    exact congrArg some e
  · rename_i q
    rw [q] at e
    have a : es.toList.any (·.refKey) = false := by
      rw [List.any_eq_false]
      intro y hy
      obtain ⟨z, t, hkey⟩ := hk y (Array.mem_toList_iff.mp hy)
      simp [DictEntry.refKey, hkey]
    have a' : ¬ es.toList.any (·.refKey) = true := by rw [a]; exact Bool.false_ne_true
    rw [if_neg a']
    exact congrArg some e

theorem ObjM.look {h : Heap} {x dx C : Addr} {mA : Str → Option Value} (I : ObjM h x dx C mA) : ∃ od, PySem.W.InstAt h x (PySem.W.instObj C dx) C (some od) ∧ ∀ name, PySem.W.lookIn name od = some (mA name) :=
  let ⟨od, ho, hl⟩ := lookIn_ns I.ns
  ⟨od, ⟨I.obj, rfl, rfl, ho⟩, hl⟩

section
variable {prog : Program} {w : World} {A : Around} {E : Value → Shared → Prop} {s : Shared} {K : PySem.W.Frag} {x dx C f : Addr} {mA : Str → Option Value} {name : Str} {v : Value}

theorem get_map {expr : Bool} {Q : Value → Shared → Prop} (X : K.In s.heap) (I : ObjM s.heap x dx C mA) (hg : PySem.W.plainGet K C name = true) (hh : PySem.W.hasDictIn K C = true)
    (ha : PySem.W.findIn K (.ref C) name = some none) (hv : mA name = some v) (hv' : PySem.W.handedIn v = true) (h : Q v { s with toks := s.toks + 1 }) :
    wpAny (model prog w) A (getAttr (.ref x) name expr) Q E s := by
  obtain ⟨od, J, hl⟩ := I.look
  exact PySem.W.get_value X J (PySem.W.plainGet_of hg).1 (PySem.W.findObj_own hh ha rfl (by rw [hl, hv])) hv' h

theorem get_meth {pl : Sem Bool} {Q : Value × List Value → Shared → Prop} (X : K.In s.heap) (I : ObjM s.heap x dx C mA) (hg : PySem.W.plainGet K C name = true)
    (hf : PySem.W.findIn K (.ref C) name = some (some (.ref f))) (ht : PySem.W.isFn K (.ref f) = true) (hv : mA name = none) (h : Q (.ref f, [.ref x]) s) :
    wpAny (model prog w) A (getMethod (.ref x) name pl) Q E s := by
  obtain ⟨od, J, hl⟩ := I.look
  exact PySem.W.method_fn X J (PySem.W.plainGet_of hg).1 (PySem.W.plainGet_of hg).2 hf (beq_iff_eq.mp ht) (by show (PySem.W.lookIn name od).map (·.isSome) = some false; rw [hl, hv]; rfl) h

theorem set_map {ns : List Str} {Q : Unit → Shared → Prop} (X : K.In s.heap) (I : ObjM s.heap x dx C mA)
    (hs : PySem.W.findIn K (.ref C) "__setattr__" = some (some (.builtin "object.__setattr__"))) (hp : PySem.W.plainOver K C = true) (ht : PySem.W.takerIn K C name = some none) (hh : PySem.W.hasDictIn K C = true)
    (hw : PySem.Within mA ns) (hsz : ns.length ≤ sizeLine)
    (h : ∀ h', ObjM h' x dx C (fun y => if y = name then some v else mA y) → Heap.SameBut dx s.heap h' → Q () { s with heap := h', toks := s.toks + 2 }) :
    wpAny (model prog w) A (setAttr (.ref x) name v) Q E s := by
  obtain ⟨od, J, hl⟩ := I.look
  refine PySem.W.set_plain X J hs (PySem.W.osa_open (s := { s with toks := s.toks + 1 }) (r := none) X J hp ht fun b => ?_)
  obtain ⟨cd, hc, hd'⟩ := PySem.W.any_some hh
  have hx : s.heap.get? x = some ⟨.ref C, some dx, .plain, #[]⟩ := I.obj
  refine wpAny_bind (wpAny_pure (wpAny_bind (wpAny_bind (wpAny_loadPart hx (wpAny_bind (PySem.W.Looks.here (s := { s with toks := s.toks + 1 }) (PySem.W.looks_clsIn X hc) ?_))))))
  rw [hd']
  refine wpAny_pure (a := some dx) (wpAny_bind (wpAny_pure (wpAny_bind ?_)))
  refine wpAny_nsSet1 (s := { s with toks := s.toks + 1 }) I.ns fun h' hn2 hs2 => ?_
  obtain ⟨oD, esD, epD, hoD, hdD, hcD⟩ := hn2.count (PySem.Within.cons name v hw)
  refine wpAny_bind (wpAny_lookBehind hoD (by rw [hdD]; exact pastItsLine_dict (Nat.le_trans hcD (by rw [List.length_cons]; omega))) ?_)
  exact wpAny_pure (h _ ⟨(hs2.2 _ (Ne.symm I.ne)).trans I.obj, hn2, I.ne⟩ hs2)

/-- C(..): the dict at the heap's end, the instance behind it; then its __init__ -/
theorem make_map {R : Result → Shared → Prop} {vs : List Value} {kw : List (Str × Value)} (X : K.In s.heap) (hm : PySem.W.makesIn K C = true)
    (hi : PySem.W.findIn K (.ref C) "__init__" = some (some (.ref f))) (hf : PySem.W.typeIn K (.ref f) = some (.type "function"))
    (h : codeAny (model prog w) (A.under (.builtin "type.__call__" ⟨.ref C :: vs, kw⟩)) (.call (.ref f) ⟨.ref (s.heap.objs.size + 1) :: vs, kw⟩) (PySem.W.InitBack (s.heap.objs.size + 1) R)
      { s with heap := (s.heap.push PySem.W.emptyDict).push (PySem.W.instObj C s.heap.objs.size) }) :
    codeAny (model prog w) A (.call (.ref C) ⟨vs, kw⟩) R s := by
  obtain ⟨hh, g, d, t, os⟩ := s
  exact PySem.W.make_core (PySem.W.makes_of X hm) (PySem.W.looks_findIn X hi) (fun self => PySem.W.bind_fn X self hf) (.inl rfl) h
end

def putF (f : Str) (v : V) : List (Str × V) → List (Str × V)
  | [] => [(f, v)]
  | (g, x) :: r => if g = f then (g, v) :: r else (g, x) :: putF f v r
theorem lookup_putF (f g : Str) (v : V) : ∀ fs : List (Str × V), (putF f v fs).lookup g = if g = f then some v else fs.lookup g
  | [] => by
    show List.lookup g [(f, v)] = _
    by_cases h : g = f
    · have hb : (g == f) = true := beq_iff_eq.mpr h
      simp only [List.lookup, hb, if_pos h]
    · have hb : (g == f) = false := beq_eq_false_iff_ne.mpr h
      simp only [List.lookup, hb, if_neg h]
  | (k, x) :: r => by
    have ih := lookup_putF f g v r
    rw [show putF f v ((k, x) :: r) = (if k = f then (k, v) :: r else (k, x) :: putF f v r) from rfl]
    by_cases hk : k = f
    · rw [if_pos hk]
      by_cases h : g = k
      · have hb : (g == k) = true := beq_iff_eq.mpr h
        simp only [List.lookup, hb, if_pos (h.trans hk)]
      · have hb : (g == k) = false := beq_eq_false_iff_ne.mpr h
        simp only [List.lookup, hb, if_neg (fun e : g = f => h (e.trans hk.symm))]
    · rw [if_neg hk]
      by_cases h : g = k
      · have hb : (g == k) = true := beq_iff_eq.mpr h
        simp only [List.lookup, hb, if_neg (fun e : g = f => hk (h.symm.trans e))]
      · have hb : (g == k) = false := beq_eq_false_iff_ne.mpr h
        simp only [List.lookup, hb]
        exact ih
theorem keys_putF (f : Str) (v : V) : ∀ fs : List (Str × V), f ∈ (putF f v fs).map (·.1) ∧ ∀ g, g ∈ fs.map (·.1) → g ∈ (putF f v fs).map (·.1)
  | [] => ⟨by simp [putF], fun g h => by simp at h⟩
  | (k, x) :: r => by
    obtain ⟨i1, i2⟩ := keys_putF f v r
    rw [show putF f v ((k, x) :: r) = (if k = f then (k, v) :: r else (k, x) :: putF f v r) from rfl]
    by_cases hk : k = f
    · rw [if_pos hk]
      subst hk
      exact ⟨by simp, fun g h => by simpa using h⟩
    · rw [if_neg hk]
      refine ⟨?_, fun g h => ?_⟩
      · rw [List.map_cons]
        exact List.mem_cons_of_mem _ i1
      · rw [List.map_cons] at h ⊢
        rcases List.mem_cons.mp h with e | e
        · exact List.mem_cons.mpr (.inl e)
        · exact List.mem_cons_of_mem _ (i2 g e)
theorem length_putF (f : Str) (v : V) : ∀ fs : List (Str × V), (putF f v fs).length ≤ fs.length + 1
  | [] => by simp [putF]
  | (k, x) :: r => by
    have ih := length_putF f v r
    rw [show putF f v ((k, x) :: r) = (if k = f then (k, v) :: r else (k, x) :: putF f v r) from rfl]
    by_cases hk : k = f
    · rw [if_pos hk, List.length_cons, List.length_cons]; omega
    · rw [if_neg hk, List.length_cons, List.length_cons]; omega

theorem RelO.some_of {v : V} {o : Option Value} (r : RelO (some v) o) : ∃ u, o = some u ∧ RelV v u := by
  cases o with
  | none => exact (show False from r).elim
  | some u => exact ⟨u, rfl, r⟩
theorem RelO.none_of {o : Option Value} (r : RelO none o) : o = none := by
  cases o with
  | none => rfl
  | some u => exact (show False from r).elim
theorem handed_of {v : V} {u : Value} (r : RelV v u) : PySem.W.handedIn u = true := by
  cases v with
  | non => cases (show u = Value.none from r); rfl
  | bl b => cases (show u = Value.bool b from r); rfl
  | int i => obtain ⟨t, e⟩ := (show ∃ t, u = Value.int i t from r); cases e; rfl
  | str x => obtain ⟨t, e⟩ := (show ∃ t, u = Value.str x t from r); cases e; rfl
  | byt b => obtain ⟨t, e⟩ := (show ∃ t, u = Value.bytes b t from r); cases e; rfl
  | flt b => obtain ⟨t, e⟩ := (show ∃ t, u = Value.float b t from r); cases e; rfl
  | ref a => cases (show u = Value.ref a from r); rfl
  | ty n => cases (show u = Value.type n from r); rfl

section
variable {P : Program} {w : World} {H H' : Hp} {h h' : Heap} {a C dx : Addr} {fs fs' : List (Str × V)}
theorem ins_get (hok : HOk P w H h) (e : H a = some (.ins C dx fs)) : ∃ mA, ObjM h a dx C mA ∧ (∀ f, RelO (fs.lookup f) (mA f)) ∧ PySem.Within mA (fs.map (·.1)) ∧ fs.length ≤ 1000 ∧ H dx = some (.own a) := by
  obtain ⟨d, z, ne, ob, mA, n, r, q⟩ := (show ObjOk P w H h a (.ins C dx fs) from hok a _ e)
  exact ⟨mA, ⟨ob, n, ne⟩, r, q, z, d⟩
end

structure Cls (K : PySem.W.Frag) (C : Addr) : Prop where
  pg : PySem.W.plainGet K C Str.empty = true
  hd : PySem.W.hasDictIn K C = true
  po : PySem.W.plainOver K C = true
  sa : PySem.W.findIn K (.ref C) "__setattr__" = some (some (.builtin "object.__setattr__"))
theorem Cls.get {K : PySem.W.Frag} {C : Addr} (c : Cls K C) (f : Str) : PySem.W.plainGet K C f = true := c.pg
/-- no class of it has the name -/
def NoAttr (K : PySem.W.Frag) (C : Addr) (f : Str) : Prop := PySem.W.findIn K (.ref C) f = some none
theorem NoAttr.taker {K : PySem.W.Frag} {C : Addr} {f : Str} (n : NoAttr K C f) : PySem.W.takerIn K C f = some none := by
  unfold PySem.W.takerIn
  rw [show PySem.W.findIn K (.ref C) f = some none from n]
  rfl
/-- a method: a plain def of the class or of one above it -/
structure Meth (K : PySem.W.Frag) (C : Addr) (m : Str) (f : Addr) : Prop where
  at_ : PySem.W.findIn K (.ref C) m = some (some (.ref f))
  fn : PySem.W.isFn K (.ref f) = true
  kp : PySem.W.keepIn K (.ref f) = true

section
variable {X : Cx} {pins : List (Addr × Obj)} {σ : St} {H : Hp} {s : Shared} {a C dx : Addr} {fs : List (Str × V)} {f : Str} {v : V} {A : Around} {E : Value → Shared → Prop}

theorem getattr_ok {b : Bool} {Q : Value → Shared → Prop} (I : Inv X pins σ H s) (e : H a = some (.ins C dx fs)) (c : Cls X.K C) (n : NoAttr X.K C f) (l : fs.lookup f = some v)
    (h : ∀ u s', Inv X pins σ H s' → RelV v u → Q u s') : wpAny (model X.prog X.w) A (getAttr (.ref a) f b) Q E s := by
  obtain ⟨mA, O, r, _, _, _⟩ := ins_get I.hok e
  obtain ⟨u, hu, ru⟩ := RelO.some_of (v := v) (o := mA f) (by rw [← l]; exact r f)
  exact get_map I.kIn O (c.get f) c.hd n hu (handed_of ru) (h u _ (I.tok _) ru)

theorem getmeth_ok {m : Str} {g : Addr} {pl : Sem Bool} {Q : Value × List Value → Shared → Prop} (I : Inv X pins σ H s) (e : H a = some (.ins C dx fs)) (c : Cls X.K C) (k : Meth X.K C m g) (l : fs.lookup m = none)
    (h : Q (.ref g, [.ref a]) s) : wpAny (model X.prog X.w) A (getMethod (.ref a) m pl) Q E s := by
  obtain ⟨mA, O, r, _, _, _⟩ := ins_get I.hok e
  have hn : mA m = none := RelO.none_of (by rw [← l]; exact r m)
  exact get_meth I.kIn O (c.get m) k.at_ k.fn hn h

theorem setattr_ok {y : V} {u : Value} {Q : Unit → Shared → Prop} (I : Inv X pins σ H s) (e : H a = some (.ins C dx fs)) (c : Cls X.K C) (n : NoAttr X.K C f) (hl : fs.length < 1000) (ry : RelV y u)
    (h : ∀ s', Inv X pins σ (upd H a (.ins C dx (putF f y fs))) s' → Q () s') : wpAny (model X.prog X.w) A (setAttr (.ref a) f u) Q E s := by
  obtain ⟨mA, O, r, wi, _, ho⟩ := ins_get I.hok e
  have hz : (fs.map (·.1)).length ≤ sizeLine := by rw [List.length_map, sizeLine_eq]; omega
  refine set_map I.kIn O c.sa c.po n.taker c.hd wi hz fun h' O' sb => h _ ?_
  have hd : ∃ o, h'.get? dx = some o := let ⟨o, _, _, e', _⟩ := O'.ns; ⟨o, e'⟩
  refine I.write (x := a) (e := dx) (by rw [e]; exact True.intro) (.inr ho) (fun b q hb z => (sb.2 b hb).trans z) hd ?_
  refine ⟨by rw [upd_ne O.ne]; exact ho, ?_, O.ne, O'.obj, _, O'.ns, fun g => ?_, fun g hg => ?_⟩
  · have := length_putF f y fs; omega
  · show RelO ((putF f y fs).lookup g) (if g = f then some u else mA g)
    rw [lookup_putF]
    by_cases q : g = f
    · rw [if_pos q, if_pos q]; exact ry
    · rw [if_neg q, if_neg q]; exact r g
  · by_cases q : g = f
    · rw [q]; exact (keys_putF f y fs).1
    · refine (keys_putF f y fs).2 g (wi g fun z => hg ?_)
      show (if g = f then some u else mA g) = none
      rw [if_neg q]; exact z

/-- a new instance, tracked, without attributes -/
theorem Inv.made (I : Inv X pins σ H s) : Inv X pins σ (upd (upd H s.heap.objs.size (.own (s.heap.objs.size + 1))) (s.heap.objs.size + 1) (.ins C s.heap.objs.size []))
    { s with heap := (s.heap.push PySem.W.emptyDict).push (PySem.W.instObj C s.heap.objs.size) } := by
  have e1 : (s.heap.push PySem.W.emptyDict).get? s.heap.objs.size = some PySem.W.emptyDict := Heap.get?_push_size s.heap rfl
  have e2 : ((s.heap.push PySem.W.emptyDict).push (PySem.W.instObj C s.heap.objs.size)).get? (s.heap.objs.size + 1) = some (PySem.W.instObj C s.heap.objs.size) := by
    have := Heap.get?_push_size (s.heap.push PySem.W.emptyDict) (o := PySem.W.instObj C s.heap.objs.size) rfl
    rwa [Heap.size_push] at this
  have e3 : (s.heap.push PySem.W.emptyDict).Ns s.heap.objs.size (fun _ => none) := ⟨PySem.W.emptyDict, #[], _, e1, rfl, (fun e he => absurd he (by simp)), fun _ => rfl⟩
  have I1 := I.laid (a := s.heap.objs.size) (o := .own (s.heap.objs.size + 1)) (h' := s.heap.push PySem.W.emptyDict) (t' := s.toks) (fun b u q => Heap.get?_push_of_some _ q) (Nat.le_refl _) ⟨_, e1⟩
  refine I1.laid (a := s.heap.objs.size + 1) (o := .ins C s.heap.objs.size []) (t' := s.toks) (fun b u q => Heap.get?_push_of_some _ q) (Nat.le_of_eq (Heap.size_push _ _)) ?_
  have ne : s.heap.objs.size ≠ s.heap.objs.size + 1 := Nat.ne_of_lt (Nat.lt_succ_self _)
  refine ⟨by rw [upd_ne ne, upd_same], Nat.zero_le _, ne, e2, fun _ => none, (Heap.Ns1.of_empty e3).at fun o q => Heap.get?_push_of_some _ q, fun _ => True.intro, fun y hy => absurd rfl hy⟩

/-- e.f where nothing but the object is asked: through attributeBase (super) and the last hold -/
theorem attr_of {prog : Program} {w : World} {env : Env} {e : Expr} {f : Str} {pos : Pos} {s : Shared} {Q : Value → Shared → Prop} (hb : attributeBase e f env (eval e env) = eval e env)
    (h : wpAny (model prog w) A (eval e env) (fun o s₁ => wpAny (model prog w) A (getAttr o f true) Q E s₁) E s) : wpAny (model prog w) A (eval (.Attribute e f pos) env) Q E s :=
  Attribute_any_ h (by rw [arm_eval_Attribute, hb])
end

/-- e.f, an attribute of the instance -/
def tFld (K : PySem.W.Frag) (ta : TE) (f : Str) : TE := fun σ H Q => ta σ H fun x H1 => ∃ a C dx fs v, x = .ref a ∧ H1 a = some (.ins C dx fs) ∧ Cls K C ∧ NoAttr K C f ∧ fs.lookup f = some v ∧ Q v H1
/-- e.f = value -/
def sFld (K : PySem.W.Frag) (ta tv : TE) (f : Str) : TS := fun D σ H => tv σ H fun y H1 => ta σ H1 fun x H2 => ∃ a C dx fs, x = .ref a ∧ H2 a = some (.ins C dx fs) ∧ Cls K C ∧ NoAttr K C f ∧ fs.length < 1000 ∧
  D.nx σ (upd H2 a (.ins C dx (putF f y fs)))
section
variable {X : Cx} {o e value : Expr} {f : Str} {pos pos' tpos : Pos} {ta tv : TE}
theorem pe_fld (he : PE X e ta) (hb : attributeBase e f X.env (eval e X.env) = eval e X.env) : PE X (.Attribute e f pos) (tFld X.K ta f) := by
  intro pins s σ H Q I h
  refine attr_of hb (thn (he pins s σ H _ I h) fun u s1 ⟨x, H1, I1, rx, a, C, dx, fs, v, ex, ea, c, n, l, q⟩ => ?_)
  subst ex
  obtain rfl : u = Value.ref a := rx
  exact getattr_ok I1 ea c n l fun u' s2 I2 ru => ⟨v, H1, I2, ru, q⟩
theorem ps_fld (ha : PE X o ta) (hv : PE X value tv) (hs : swapsWith value (some (.Attribute o f pos')) pos.line X.env = pure false) : PS X (.Assign [.Attribute o f pos'] value pos) (sFld X.K ta tv f) := by
  intro pins s σ H D I h
  refine plainObj_wpAny_Assign_Attribute (thn (hv pins s σ H _ I h) fun u s1 ⟨y, H1, I1, ry, q⟩ => thn (ha pins s1 σ H1 _ I1 q) fun ov s2 ⟨x, H2, I2, rx, a, C, dx, fs, ex, ea, c, n, l, q2⟩ => ?_) hs
  subst ex
  obtain rfl : ov = Value.ref a := rx
  exact setattr_ok I2 ea c n l ry fun s3 I3 => ⟨σ, _, I3, q2⟩
end

section
variable {X : Cx} {pins : List (Addr × Obj)} {σ : St} {H : Hp} {s : Shared} {A : Around} {E : Value → Shared → Prop} {Q : Value → Shared → Prop} {c : Value} {b : Bool}
/-- the type of a value, as the fragment's deciders take it; for an instance its class -/
inductive TyOf (K : PySem.W.Frag) (H : Hp) : V → Value → Prop where
  | non : TyOf K H .non (.type "NoneType")
  | bl (x : Bool) : TyOf K H (.bl x) (.type "bool")
  | int (i : Int) : TyOf K H (.int i) (.type "int")
  | str (x : Str) : TyOf K H (.str x) (.type "str")
  | flt (x : UInt64) : TyOf K H (.flt x) (.type "float")
  | lst {a : Addr} {xs : List V} (e : H a = some (.lst xs)) : TyOf K H (.ref a) (.type "list")
  | frz {a : Addr} {o : Obj} {xs : List V} (e : H a = some (.frz o (.lst xs))) : TyOf K H (.ref a) (.type "list")
  | tup {a : Addr} {xs : List V} (e : H a = some (.tup xs)) : TyOf K H (.ref a) (.type "tuple")
  | dK {a : Addr} {kvs : List (Key × V)} (e : H a = some (.dK kvs)) : TyOf K H (.ref a) (.type "dict")
  | dT {a : Addr} {kvs : List (List Key × V)} (e : H a = some (.dT kvs)) : TyOf K H (.ref a) (.type "dict")
  | ins {a C dx : Addr} {fs : List (Str × V)} (e : H a = some (.ins C dx fs)) (cl : Cls K C) (ha : PySem.W.findIn K (.ref C) "__class__" = some (some (.builtin "object.__class__")))
      (hn : PySem.W.specialIn K (.builtin "object.__class__") "__get__" = some (some (.builtin "getset_descriptor.__get__"))) (htk : PySem.W.takesIn K (.builtin "object.__class__") = some true)
      (hm : PySem.W.mroIn K C (.type "object") = some true) : TyOf K H (.ref a) (.ref C)
/-- isinstance(x, c) for one class c, a built-in or an own one: kitOne's answer -/
theorem isinst_ok {x : V} {u t : Value} (I : Inv X pins σ H s) (rx : RelV x u) (ty : TyOf X.K H x t) (e : PySem.W.kitOne X.K t c = some b) (h : ∀ tk, Q (.bool b) { s with toks := tk }) :
    wpAny (model X.prog X.w) A (call (.builtin "isinstance") [u, c]) Q E s := by
  cases ty with
  | non => cases (show u = Value.none from rx); exact PySem.W.kia_one PySem.W.kitx_none I.kIn True.intro e (fun z => nomatch z) h
  | bl y => cases (show u = Value.bool y from rx); exact PySem.W.kia_one PySem.W.kitx_bool I.kIn True.intro e (fun z => nomatch z) h
  | int i => obtain ⟨t, q⟩ := (show ∃ t, u = Value.int i t from rx); cases q; exact PySem.W.kia_one PySem.W.kitx_int I.kIn True.intro e (fun z => nomatch z) h
  | str y => obtain ⟨t, q⟩ := (show ∃ t, u = Value.str y t from rx); cases q; exact PySem.W.kia_one PySem.W.kitx_str I.kIn True.intro e (fun z => nomatch z) h
  | flt y => obtain ⟨t, q⟩ := (show ∃ t, u = Value.float y t from rx); cases q; exact PySem.W.kia_one PySem.W.kitx_float I.kIn True.intro e (fun z => nomatch z) h
  | @lst a xs ea =>
    cases (show u = Value.ref a from rx)
    obtain ⟨_, _, n, _, h1⟩ := (show ObjOk X.prog X.w H s.heap a (.lst xs) from I.hok a _ ea)
    exact PySem.W.kia_one PySem.W.kitx_list I.kIn ⟨_, h1, rfl⟩ e (fun z => nomatch z) h
  | @frz a ob xs ea =>
    cases (show u = Value.ref a from rx)
    obtain ⟨_, _, _, n, _, h1⟩ := (show ObjOk X.prog X.w H s.heap a (.frz ob (.lst xs)) from I.hok a _ ea)
    exact PySem.W.kia_one PySem.W.kitx_list I.kIn ⟨_, h1, rfl⟩ e (fun z => nomatch z) h
  | @tup a xs ea =>
    cases (show u = Value.ref a from rx)
    obtain ⟨_, _, _, p⟩ := (show ObjOk X.prog X.w H s.heap a (.tup xs) from I.hok a _ ea)
    obtain ⟨o, h1, h2, _⟩ := p
    exact PySem.W.kia_one PySem.W.kitx_tuple I.kIn ⟨o, h1, h2⟩ e (fun z => nomatch z) h
  | @dK a kvs ea =>
    cases (show u = Value.ref a from rx)
    obtain ⟨_, _, vs, _, p⟩ := (show ObjOk X.prog X.w H s.heap a (.dK kvs) from I.hok a _ ea)
    obtain ⟨o, es, ep, h1, h2, _⟩ := p
    exact PySem.W.kia_one PySem.W.kitx_dict I.kIn ⟨o, h1, h2.1⟩ e (fun z => nomatch z) h
  | @dT a kvs ea =>
    cases (show u = Value.ref a from rx)
    obtain ⟨_, _, xs, _, o, es, ep, h1, h2, _⟩ := (show ObjOk X.prog X.w H s.heap a (.dT kvs) from I.hok a _ ea)
    exact PySem.W.kia_one PySem.W.kitx_dict I.kIn ⟨o, h1, h2.1⟩ e (fun z => nomatch z) h
  | @ins a C dx fs ea cl ha hn htk hm =>
    cases (show u = Value.ref a from rx)
    obtain ⟨mA, O, _⟩ := ins_get I.hok ea
    obtain ⟨od, J, _⟩ := O.look
    exact PySem.W.kia_one (PySem.W.kitx_own (cl.get _) cl.hd ha hn htk hm) I.kIn J e (fun z => nomatch z) h
end
end L2

namespace L2
open PySem PySem.Spec PyProof.Rows

structure Room (k : Nat) (A : Around) : Prop where
  hd : A.handled = none
  dp : A.depth + 3 * k + 5 < recursionLimit
  un : A.units + 16 * k + 200 < cLine
  gd : A.guards = some []
theorem Room.mono {j k : Nat} {A : Around} (r : Room k A) (h : j ≤ k) : Room j A := ⟨r.hd, by have := r.dp; omega, by have := r.un; omega, r.gd⟩
theorem Room.deeper {k : Nat} {A : Around} (r : Room (k + 1) A) (env : Env) : Room k (A.deeper env) :=
  ⟨r.hd, by have := r.dp; show A.depth + 1 + 3 * k + 5 < _; omega, by have := r.un; show A.units + 3 + 16 * k + 200 < _; omega, r.gd⟩
theorem make_depth {A : Around} {C : Addr} {us : List Value} {kw : List (Str × Value)} : (A.under (.builtin "type.__call__" ⟨.ref C :: us, kw⟩)).depth = A.depth + 1 := by
  first | rfl | simp [Around.under, Code.weight, Code.isCreation, Code.isGuard, Code.isCaller, Code.frames, Code.isFrame, guardIds]
theorem make_units {A : Around} {C : Addr} {us : List Value} {kw : List (Str × Value)} : (A.under (.builtin "type.__call__" ⟨.ref C :: us, kw⟩)).units = A.units + 1 := by
  first | rfl | simp [Around.under, Code.cUnits, Code.frames, Code.isFrame]
theorem make_guards {A : Around} {C : Addr} {us : List Value} {kw : List (Str × Value)} (h : A.guards = some []) : (A.under (.builtin "type.__call__" ⟨.ref C :: us, kw⟩)).guards = some [] := by
  have e : (Code.builtin "type.__call__" ⟨.ref C :: us, kw⟩).guards = [] := by
    unfold Code.guards
    rw [if_neg (by show ¬ guardIds.contains "type.__call__" = true; decide)]
  have e2 : (A.under (.builtin "type.__call__" ⟨.ref C :: us, kw⟩)).guards = pushGuards (Code.builtin "type.__call__" ⟨.ref C :: us, kw⟩).guards A.guards := rfl
  rw [e2, e, h]; rfl
theorem Room.make {k : Nat} {A : Around} (r : Room (k + 1) A) (C : Addr) (us : List Value) (kw : List (Str × Value)) : Room k (A.under (.builtin "type.__call__" ⟨.ref C :: us, kw⟩)) :=
  ⟨r.hd, by have := r.dp; rw [make_depth]; omega, by have := r.un; rw [make_units]; omega, make_guards r.gd⟩
theorem Room.depth {k : Nat} {A : Around} (r : Room k A) : A.depth < recursionLimit := by have := r.dp; omega
theorem Room.units {k : Nat} {A : Around} (r : Room k A) : A.units + 64 < cLine := by have := r.un; omega
theorem Room.units0 {k : Nat} {A : Around} (r : Room k A) : A.units < cLine := by have := r.un; omega

def tNil : TA := fun _ H Q => Q [] H
def tCons (ta : TE) (tr : TA) : TA := fun σ H Q => ta σ H fun x H1 => tr σ H1 fun xs H2 => Q (x :: xs) H2
section
variable {X : Cx} {e : Expr} {es : List Expr} {te : TE} {t : TA} {pos : Pos}
theorem pa_nil : PA X [] tNil := fun _ _ _ _ H Q I h => Calls.spliced_nil ⟨[], H, I, .nil, h⟩
theorem pa_cons (ha : PE X e te) (hr : PA X es t) (hs : starEach (e :: es) X.env = (false, eval e X.env) :: starEach es X.env := by rfl) : PA X (e :: es) (tCons te t) := by
  intro pos pins s σ H Q I h
  rw [hs]
  show wpAny _ _ (spliced ((false, eval e X.env) :: backTo pos (starEach es X.env))) _ _ s
  refine Calls.spliced_cons (thn (ha pins s σ H _ I h) fun u s1 ⟨x, H1, I1, r1, q1⟩ => ?_)
  exact thn (hr pos pins s1 σ H1 _ I1 q1) fun us s2 ⟨xs, H2, I2, r2, q2⟩ => ⟨x :: xs, H2, I2, .cons r1 r2, q2⟩

/-- a tuple, a list of written items -/
def tTup (t : TA) : TE := fun σ H Q => t σ H fun xs H1 => xs.length ≤ sizeLine ∧ ∀ p, H1 p = none → Q (.ref p) (upd H1 p (.tup xs))
def tLst (t : TA) : TE := fun σ H Q => t σ H fun xs H1 => xs.length ≤ sizeLine ∧ ∀ p, H1 p = none → Q (.ref p) (upd H1 p (.lst xs))
theorem pe_tup {x1} (h : PA X es t) : PE X (.Tuple es x1 pos) (tTup t) := by
  intro pins s σ H Q I hq
  refine wpAny_Tuple_spliced (thn (h pos pins s σ H _ I hq) fun us s1 ⟨xs, H1, I1, r, z, q⟩ => ⟨by rw [← r.length]; exact z, ?_⟩)
  have hf : H1 s1.heap.objs.size = none := I1.hok.fresh (Nat.le_refl _)
  refine ⟨.ref s1.heap.objs.size, upd H1 s1.heap.objs.size (.tup xs), I1.laid (t' := s1.toks) (fun b u e => Heap.get?_push_of_some _ e) (Nat.le_refl _) ?_, rfl, q _ hf⟩
  exact ⟨z, us, r, ⟨_, Heap.get?_push_size _ rfl, rfl, _, rfl⟩⟩
theorem pe_lst (h : PA X es t) : PE X (.List es pos) (tLst t) := by
  intro pins s σ H Q I hq
  refine wpAny_List_spliced (thn (h pos pins s σ H _ I hq) fun us s1 ⟨xs, H1, I1, r, z, q⟩ => ⟨by rw [← r.length]; exact z, ?_⟩)
  have hf : H1 s1.heap.objs.size = none := I1.hok.fresh (Nat.le_refl _)
  refine ⟨.ref s1.heap.objs.size, upd H1 s1.heap.objs.size (.lst xs), I1.laid (t' := s1.toks) (fun b u e => Heap.get?_push_of_some _ e) (Nat.le_refl _) ?_, rfl, q _ hf⟩
  exact ⟨z, us, 0, r, Heap.get?_push_size _ rfl⟩
end

/-- a def's promise: the bound arguments in the parameters' order, the heap, the wanted end, the wanted exception -/
abbrev Sp := List V → Hp → VK → XK → Prop
/-- how an exception lies behind a call (file 08 gives it): the callers' frames, abstract heap and state ahead of the call, the wish, the exception, the state -/
abbrev CXT := List Env → Hp → Shared → XK → Value → Shared → Prop

/-- the state at a call -/
structure Env0 (P : Program) (w : World) (K : PySem.W.Frag) (mg : Str → Option Value) (base : Heap) (A : Around) (outer : List Env) (s : Shared) (H : Hp) : Prop where
  frames : A.frames = some outer
  mod : Mod K mg base
  bs : ∀ b o, base.get? b = some o → s.heap.get? b = some o ∧ H b = none
  bsz : base.objs.size ≤ s.heap.objs.size
  funs : s.heap.FunFrames base outer
  frf : ∀ b ∈ frs outer, H b = none
  hok : HOk P w H s.heap
  bare : AllBare s.gens
/-- a call's end -/
def CE (outer : List Env) (P : Program) (w : World) (H : Hp) (s : Shared) (Q : VK) (u : Value) (s' : Shared) : Prop :=
  ∃ v H', s'.os = s.os ∧ AllBare s'.gens ∧ Un (frs outer) [] H H' s.heap s'.heap ∧ HOk P w H' s'.heap ∧ RelV v u ∧ Q v H'
def CR (CX : CXT) (outer : List Env) (P : Program) (w : World) (H : Hp) (s : Shared) (Q : VK) (E : XK) (r : Result) (s' : Shared) : Prop :=
  match r with
  | .ok (.ret u) => CE outer P w H s Q u s'
  | .ok _ => False
  | .error e => CX outer H s E e s'
structure FnOk (P : Program) (w : World) (K : PySem.W.Frag) (mg : Str → Option Value) (base : Heap) (CX : CXT) (k : Nat) (f : Addr) (fd : FuncData) (ps : List Str) (sp : Sp) : Prop where
  len : ∀ vs H Q E, sp vs H Q E → vs.length = ps.length
  run : ∀ (A : Around) (outer : List Env) (s : Shared) (H : Hp) (args : Args) (us : List Value) (vs : List V) (Q : VK) (E : XK), Room k A → Env0 P w K mg base A outer s H → BindsTo s fd args (ps.zip us) → Vals vs us → sp vs H Q E →
    codeAny (model P w) A (.call (.ref f) args) (CR CX outer P w H s Q E) s
theorem FnOk.mono {P : Program} {w : World} {K : PySem.W.Frag} {mg : Str → Option Value} {base : Heap} {CX : CXT} {j k : Nat} {f : Addr} {fd : FuncData} {ps : List Str} {sp : Sp} (F : FnOk P w K mg base CX j f fd ps sp) (h : j ≤ k) :
    FnOk P w K mg base CX k f fd ps sp := ⟨F.len, fun A outer s H args us vs Q E hr => F.run A outer s H args us vs Q E (hr.mono h)⟩
/-- a weaker promise -/
theorem FnOk.imp {P : Program} {w : World} {K : PySem.W.Frag} {mg : Str → Option Value} {base : Heap} {CX : CXT} {k : Nat} {f : Addr} {fd : FuncData} {ps : List Str} {sp sp' : Sp} (F : FnOk P w K mg base CX k f fd ps sp)
    (h : ∀ vs H Q E, sp' vs H Q E → sp vs H Q E) : FnOk P w K mg base CX k f fd ps sp' :=
  ⟨fun vs H Q E q => F.len vs H Q E (h _ _ _ _ q), fun A outer s H args us vs Q E hr he hb hv hs => F.run A outer s H args us vs Q E hr he hb hv (h _ _ _ _ hs)⟩

theorem Env0.make {P : Program} {w : World} {K : PySem.W.Frag} {mg : Str → Option Value} {base : Heap} {A : Around} {outer : List Env} {s : Shared} {H : Hp} (e : Env0 P w K mg base A outer s H) (C : Addr) (us : List Value) (kw : List (Str × Value)) :
    Env0 P w K mg base (A.under (.builtin "type.__call__" ⟨.ref C :: us, kw⟩)) outer s H := ⟨by first | exact e.frames | (simpa [Around.under, Code.envs, Code.isFrame, pushEnvs] using e.frames), e.mod, e.bs, e.bsz, e.funs, e.frf, e.hok, e.bare⟩
section
variable {X : Cx} {pins : List (Addr × Obj)} {σ : St} {H : Hp} {s s' : Shared}
/-- from a body: what a callee wants -/
theorem Inv.env0 (I : Inv X pins σ H s) : Env0 X.prog X.w X.K X.mg X.base X.A X.stack s H :=
  ⟨I.ok.frames, I.ok.mod, I.bs, Nat.le_trans I.ok.bsz I.sz, I.stack, I.stkFree, I.hok, I.bare⟩
/-- behind a call -/
theorem Inv.after {Q : VK} {u : Value} (I : Inv X pins σ H s) (h : CE X.stack X.prog X.w H s Q u s') : EP X pins σ Q u s' := by
  obtain ⟨v, H', os, bare, un, hok, r, q⟩ := h
  obtain ⟨hh, g, d, t, os'⟩ := s'
  obtain rfl : os' = s.os := os
  exact ⟨v, H', I.call (h' := hh) (g' := g) (d' := d) (t' := t) (ch := []) un hok bare (fun b z => absurd z (by simp)), r, q⟩
end

/-- f(..): the written arguments, then the defaults dvs; E: what is wanted of an exception -/
def tCall (sp : Sp) (dvs : List V) (E : XK) (t : TA) : TE := fun σ H Q => t σ H fun vs H1 => sp (vs ++ dvs) H1 Q E
/-- o.m(..) of an instance of the class at C -/
def tMeth (C : Addr) (m : Str) (sp : Sp) (dvs : List V) (E : XK) (ta : TE) (t : TA) : TE := fun σ H Q => ta σ H fun x H1 => ∃ a dx fs, x = .ref a ∧ H1 a = some (.ins C dx fs) ∧ fs.lookup m = none ∧
  t σ H1 fun vs H2 => sp (x :: (vs ++ dvs)) H2 Q E
/-- C(..): a new instance and its dict, then __init__ -/
def tMake (C : Addr) (sp : Sp) (dvs : List V) (E : XK) (t : TA) : TE := fun σ H Q => t σ H fun vs H1 => ∀ x dx, H1 x = none → H1 dx = none → dx ≠ x →
  sp (.ref x :: (vs ++ dvs)) (upd (upd H1 dx (.own x)) x (.ins C dx [])) (fun v H2 => v = .non ∧ Q (.ref x) H2) E

/-- how the parameters are bound: us the positional arguments, kw the keywords' values by name, ds the defaults that fill up -/
def Binds (K : PySem.W.Frag) (fd : FuncData) (ps : List Str) (ds : List Value) : Prop :=
  ∀ (s : Shared) (us : List Value), K.In s.heap → (us ++ ds).length = ps.length → BindsTo s fd ⟨us, []⟩ (ps.zip (us ++ ds))
/-- every parameter is given -/
theorem Binds.all {K : PySem.W.Frag} {fd : FuncData} {ps : List Str} (h : ∀ us : List Value, us.length = ps.length → bindArgs fd ⟨us, []⟩ = pure (ps.zip us)) : Binds K fd ps [] := fun s us _ hl => by
  rw [List.append_nil] at hl ⊢
  exact .of_eq (h us hl)

/-- an exception of a callee reaches what this body wants of exceptions -/
def Passes (CX : CXT) (X : Cx) (E : XK) : Prop := ∀ (pins : List (Addr × Obj)) (σ : St) (H : Hp) (s : Shared) (e : Value) (s' : Shared), Inv X pins σ H s → CX X.stack H s E e s' → X.xe e s'

section
variable {X : Cx} {CX : CXT} {k : Nat} {f C : Addr} {fd : FuncData} {ps : List Str} {sp : Sp} {dvs : List V} {ds : List Value} {E : XK} {x m : Str} {p pos apos : Pos} {e o : Expr} {es : List Expr} {ta : TE} {t : TA}

/-- the callee runs -/
theorem run_fn {pins : List (Addr × Obj)} {σ : St} {H : Hp} {s : Shared} {Q : VK} {us : List Value} {vs : List V} (F : FnOk X.prog X.w X.K X.mg X.base CX k f fd ps sp) (hr : Room k X.A) (hb : Binds X.K fd ps ds) (hd : Vals dvs ds) (hx : Passes CX X E)
    (I : Inv X pins σ H s) (r : Vals vs us) (h : sp (vs ++ dvs) H Q E) : wpAny (model X.prog X.w) X.A (call (.ref f) us) (EP X pins σ Q) X.xe s := by
  have r2 : Vals (vs ++ dvs) (us ++ ds) := r.append hd
  have hl : (us ++ ds).length = ps.length := by rw [← r2.length]; exact F.len _ _ _ _ h
  refine wpAny_call (codeAny_mono (F.run X.A X.stack s H ⟨us, []⟩ (us ++ ds) (vs ++ dvs) Q E hr I.env0 (hb s us I.kIn hl) r2 h) fun r s' hq => ?_)
  cases r with
  | error e => exact hx pins σ H s e s' I hq
  | ok fl =>
    cases fl with
    | ret u => exact I.after hq
    | next => exact False.elim hq
    | brk => exact False.elim hq
    | cont => exact False.elim hq

theorem pe_call (F : FnOk X.prog X.w X.K X.mg X.base CX k f fd ps sp) (hr : Room k X.A) (hg : Gl X x) (hm : X.mg x = some (.ref f)) (hk : PySem.W.keepIn X.K (.ref f) = true) (hb : Binds X.K fd ps ds) (hd : Vals dvs ds) (hx : Passes CX X E)
    (ha : PA X (e :: es) t) (hdb : (x == ("__debug__" : Str)) = false := by decide) (he : starEach (e :: es) X.env = (false, eval e X.env) :: starEach es X.env := by rfl) (hpl : (backTo pos (starEach es X.env)).any (·.1) = false := by rfl) :
    PE X (.Call (.Name x p) (e :: es) [] pos) (tCall sp dvs E t) := by
  intro pins s σ H Q I h
  refine wpAny_Call_Name_kw (ld_glob I hg hm ?_ hdb)
  refine PySem.W.callWith_K (h₀ := X.base) I.ok.mod.kin hk (thn (ha pos pins s σ H _ I h) fun us s1 ⟨vs, H1, I1, r, q⟩ => ⟨I1.kIn, ?_⟩) he hpl
  exact run_fn F hr hb hd hx I1 r q
/-- what a class must have to be made -/
structure Mk (K : PySem.W.Frag) (C f : Addr) : Prop where
  makes : PySem.W.makesIn K C = true
  init : PySem.W.findIn K (.ref C) "__init__" = some (some (.ref f))
  fn : PySem.W.isFn K (.ref f) = true
  kp : PySem.W.keepIn K (.ref C) = true

theorem run_make {pins : List (Addr × Obj)} {σ : St} {H : Hp} {s : Shared} {Q : VK} {us : List Value} {vs : List V} (M : Mk X.K C f) (F : FnOk X.prog X.w X.K X.mg X.base CX k f fd ps sp) (hr : Room (k + 1) X.A) (hb : Binds X.K fd ps ds) (hd : Vals dvs ds)
    (hx : Passes CX X E) (I : Inv X pins σ H s) (r : Vals vs us)
    (h : ∀ x dx, H x = none → H dx = none → dx ≠ x → sp (.ref x :: (vs ++ dvs)) (upd (upd H dx (.own x)) x (.ins C dx [])) (fun v H2 => v = .non ∧ Q (.ref x) H2) E) :
    wpAny (model X.prog X.w) X.A (call (.ref C) us) (EP X pins σ Q) X.xe s := by
  have hq := h (s.heap.objs.size + 1) s.heap.objs.size (I.hok.fresh (Nat.le_succ _)) (I.hok.fresh (Nat.le_refl _)) (Nat.ne_of_lt (Nat.lt_succ_self _))
  have I2 := Inv.made (C := C) I
  have r2 : Vals (V.ref (s.heap.objs.size + 1) :: (vs ++ dvs)) (Value.ref (s.heap.objs.size + 1) :: (us ++ ds)) := .cons rfl (r.append hd)
  have hl : (Value.ref (s.heap.objs.size + 1) :: us ++ ds).length = ps.length := by
    have e := r2.length
    rw [F.len _ _ _ _ hq] at e
    exact e.symm
  refine wpAny_call (make_map (f := f) I.kIn M.makes M.init (beq_iff_eq.mp M.fn) (codeAny_mono (F.run _ X.stack _ _ ⟨Value.ref (s.heap.objs.size + 1) :: us, []⟩ (Value.ref (s.heap.objs.size + 1) :: (us ++ ds)) _ _ E (hr.make C us [])
    (I2.env0.make C us []) (hb _ (Value.ref (s.heap.objs.size + 1) :: us) I2.kIn hl) r2 hq) fun r s' hq' => ?_))
  cases r with
  | error e => exact hx pins σ _ _ e s' I2 hq'
  | ok fl =>
    cases fl with
    | ret u =>
      obtain ⟨v, H', I3, rv, ev, q3⟩ := I2.after hq'
      subst ev
      exact ⟨rv, ⟨V.ref (s.heap.objs.size + 1), H', I3, rfl, q3⟩⟩
    | next => exact False.elim hq'
    | brk => exact False.elim hq'
    | cont => exact False.elim hq'
theorem pe_make (M : Mk X.K C f) (F : FnOk X.prog X.w X.K X.mg X.base CX k f fd ps sp) (hr : Room (k + 1) X.A) (hg : Gl X x) (hm : X.mg x = some (.ref C)) (hb : Binds X.K fd ps ds) (hd : Vals dvs ds) (hx : Passes CX X E)
    (ha : PA X (e :: es) t) (hdb : (x == ("__debug__" : Str)) = false := by decide) (he : starEach (e :: es) X.env = (false, eval e X.env) :: starEach es X.env := by rfl) (hpl : (backTo pos (starEach es X.env)).any (·.1) = false := by rfl) :
    PE X (.Call (.Name x p) (e :: es) [] pos) (tMake C sp dvs E t) := by
  intro pins s σ H Q I h
  refine wpAny_Call_Name_kw (ld_glob I hg hm ?_ hdb)
  refine PySem.W.callWith_K (h₀ := X.base) I.ok.mod.kin M.kp (thn (ha pos pins s σ H _ I h) fun us s1 ⟨vs, H1, I1, r, q⟩ => ⟨I1.kIn, ?_⟩) he hpl
  exact run_make M F hr hb hd hx I1 r q
theorem pe_make0 (M : Mk X.K C f) (F : FnOk X.prog X.w X.K X.mg X.base CX k f fd ps sp) (hr : Room (k + 1) X.A) (hg : Gl X x) (hm : X.mg x = some (.ref C)) (hb : Binds X.K fd ps ds) (hd : Vals dvs ds) (hx : Passes CX X E)
    (hdb : (x == ("__debug__" : Str)) = false := by decide) : PE X (.Call (.Name x p) [] [] pos) (tMake C sp dvs E tNil) := by
  intro pins s σ H Q I h
  refine wpAny_Call_Name_kw (ld_glob I hg hm ?_ hdb)
  exact PySem.W.callWith_K0 I.kIn M.kp (run_make (us := []) M F hr hb hd hx I .nil h)
end

section
variable {X : Cx} {CX : CXT} {k : Nat} {f C : Addr} {fd : FuncData} {ps ks : List Str} {sp : Sp} {E : XK} {x m : Str} {p pos apos kpos : Pos} {e o : Expr} {es : List Expr} {kws : List Keyword} {te ta : TE} {t tk : TA} {nm : Option Str}
variable {g : List Value → List Value → List Value} {gV : List V → List V → List V}
end

/-- names: the parameters first -/
structure FnScope (N P : List Str) (sc : Scope) : Prop where
  kind : sc.kind = .function
  co : sc.isCoroutine = false
  gen : sc.isGenerator = false
  nd : N.Nodup
  pre : N.take P.length = P
  par : ∀ x ∈ P, sc.names.lookup x = some .local ∨ sc.names.lookup x = some .cell
  nofree : ∀ y ∈ sc.names, y.2 ≠ .free

theorem bindL_out {kindOf : Str → Option NameKind} {x : Str} : ∀ {binds : List (Str × Value)} {m : Str → Option Value}, (∀ v, (x, v) ∉ binds) → bindL kindOf binds m x = m x
  | [], _, _ => rfl
  | (n, v) :: r, m, h => by
    unfold bindL
    rw [bindL_out fun w hw => h w (List.mem_cons_of_mem _ hw)]
    split
    · have : x ≠ n := by rintro rfl; exact h v List.mem_cons_self
      simp [this]
    · rfl
theorem bindC_out {kindOf : Str → Option NameKind} {x : Str} : ∀ {binds : List (Str × Value)} {m : Str → Option Value}, (∀ v, (x, v) ∉ binds) → bindC kindOf binds m x = m x
  | [], _, _ => rfl
  | (n, v) :: r, m, h => by
    unfold bindC
    rw [bindC_out fun w hw => h w (List.mem_cons_of_mem _ hw)]
    split
    · rfl
    · have : x ≠ n := by rintro rfl; exact h v List.mem_cons_self
      simp [this]
theorem bindL_get {kindOf : Str → Option NameKind} {x : Str} {v : Value} : ∀ {P : List Str} {vs : List Value} {i : Nat} {m : Str → Option Value}, P.Nodup → P[i]? = some x → vs[i]? = some v → kindOf x = some .local →
    bindL kindOf (P.zip vs) m x = some v
  | [], _, _, _, _, h, _, _ => by simp at h
  | _ :: _, [], _, _, _, _, h, _ => by simp at h
  | p :: P, w :: vs, 0, m, nd, h1, h2, hk => by
    simp at h1 h2; subst h1; subst h2
    show bindL kindOf ((p, w) :: P.zip vs) m p = _
    unfold bindL
    rw [bindL_out fun v hv => (List.nodup_cons.mp nd).1 (List.of_mem_zip hv).1, if_pos hk]
    simp
  | p :: P, w :: vs, i + 1, m, nd, h1, h2, hk => by
    show bindL kindOf ((p, w) :: P.zip vs) m x = _
    unfold bindL
    exact bindL_get (i := i) (List.nodup_cons.mp nd).2 (by simpa using h1) (by simpa using h2) hk
theorem bindC_get {kindOf : Str → Option NameKind} {x : Str} {v : Value} : ∀ {P : List Str} {vs : List Value} {i : Nat} {m : Str → Option Value}, P.Nodup → P[i]? = some x → vs[i]? = some v → kindOf x ≠ some .local →
    bindC kindOf (P.zip vs) m x = some v
  | [], _, _, _, _, h, _, _ => by simp at h
  | _ :: _, [], _, _, _, _, h, _ => by simp at h
  | p :: P, w :: vs, 0, m, nd, h1, h2, hk => by
    simp at h1 h2; subst h1; subst h2
    show bindC kindOf ((p, w) :: P.zip vs) m p = _
    unfold bindC
    rw [bindC_out fun v hv => (List.nodup_cons.mp nd).1 (List.of_mem_zip hv).1, if_neg hk]
    simp
  | p :: P, w :: vs, i + 1, m, nd, h1, h2, hk => by
    show bindC kindOf ((p, w) :: P.zip vs) m x = _
    unfold bindC
    exact bindC_get (i := i) (List.nodup_cons.mp nd).2 (by simpa using h1) (by simpa using h2) hk

/-- the names' values at the entry -/
def start (N : List Str) (vs : List V) : St := vs.map some ++ List.replicate (N.length - vs.length) none

/-- the context of a def's body, at its entry; an exception leaves the frame, then lies as CX says -/
def cxOf (CX : CXT) (P : Program) (w : World) (K : PySem.W.Frag) (mg : Str → Option Value) (base : Heap) (N : List Str) (qual : Str) (scope : Scope) (f : Addr) (cd : Value) (A : Around) (outer : List Env) (s : Shared) (H : Hp) (E : XK) : Cx where
  prog := P
  w := w
  K := K
  mg := mg
  base := base
  A := A.deeper (envOfC qual scope s.heap.objs.size f cd)
  N := N
  s₀ := s
  H₀ := H
  env := envOfC qual scope s.heap.objs.size f cd
  outer := outer
  stack := envOfC qual scope s.heap.objs.size f cd :: outer
  ex := []
  calm := true
  fn := fun _ => true
  pn := []
  xe := fun e s' => wpAny (model P w) (A.deeper (envOfC qual scope s.heap.objs.size f cd)) (leaving (envOfC qual scope s.heap.objs.size f cd) e) (fun _ s'' => CX outer H s E e s'') (fun e' s'' => CX outer H s E e' s'') s'

theorem cell_has {sc : Scope} {n : Nat} {x : Str} (h : sc.names.lookup x = some .cell) : ∃ c, (cellsFrom n sc.names []).lookup x = some c := by
  have q := PySem.W.cellsFrom_some sc.names n [] (.inl h)
  exact Option.isSome_iff_exists.mp q

theorem inv_start {CX : CXT} {P : Program} {w : World} {K : PySem.W.Frag} {mg : Str → Option Value} {base : Heap} {N ps : List Str} {qual : Str} {scope : Scope} {f : Addr} {cd : Value} {A : Around} {outer : List Env} {s s1 : Shared} {H : Hp} {E : XK} {us : List Value} {vs : List V}
    (S : FnScope N ps scope) (hd : A.handled = none) (e0 : Env0 P w K mg base A outer s H) (hl : vs.length = ps.length) (r : Vals vs us)
    (x : InCallC s s.heap.objs.size (bindL (envOfC qual scope s.heap.objs.size f cd).kindOf (ps.zip us) fun _ => none) (cellsFrom (s.heap.objs.size + 1) scope.names []) (bindC (envOfC qual scope s.heap.objs.size f cd).kindOf (ps.zip us) fun _ => none) s1) :
    Inv (cxOf CX P w K mg base N qual scope f cd A outer s H E) [] (start N vs) H s1 := by
  have hpl : ps.length ≤ N.length := by have := congrArg List.length S.pre; rw [List.length_take] at this; omega
  obtain ⟨h1, tk, rfl, hk⟩ := x.done
  have noA : ∀ b : Addr, b ∉ (cxOf CX P w K mg base N qual scope f cd A outer s H E).ex := fun b z => absurd (show b ∈ ([] : List Addr) from z) (by simp)
  refine ⟨⟨e0.mod, S.kind, rfl, rfl, Nat.le_refl _, fun y z c h1 h2 => ?_, fun y hy => ?_, fun y c _ h => ?_, fun _ => hd, Around.frames_deeper e0.frames, .inr ⟨rfl, rfl⟩, fun b z => absurd z (noA b), e0.bs, e0.bsz, fun b _ _ => noA b, fun b z => absurd z (noA b), e0.funs, e0.frf⟩,
    rfl, e0.bare, Un.kept hk, ⟨_, x.toInCall.ns, fun i y v h1 h2 h3 => ?_⟩, fun y c h => ⟨_, x.cell y c h⟩, e0.hok.fresh (Nat.le_refl _), fun y c h => ?_, fun p hp => absurd (show p ∈ ([] : List (Addr × Obj)) from hp) (by simp), e0.hok.kept hk, ?_⟩
  · exact name_of_addr x.apart (PySem.mem_of_lookup h1) (PySem.mem_of_lookup h2)
  · have hy : scope.names.lookup y = some .cell ∨ scope.names.lookup y = some .free := hy
    rcases hy with hy | hy
    · exact cell_has hy
    · exact absurd rfl (S.nofree _ (PySem.mem_of_lookup hy))
  · exact Nat.le_of_lt (x.above y c (PySem.mem_of_lookup h))
  · have hi : i < vs.length := by
      unfold start at h2
      by_cases hi : i < vs.length
      · exact hi
      · rw [List.getElem?_append_right (by simpa using hi)] at h2
        rw [List.getElem?_replicate] at h2
        split at h2 <;> cases h2
    have ha : vs[i]? = some v := by
      unfold start at h2
      rw [List.getElem?_append_left (by simpa using hi), List.getElem?_map] at h2
      cases e : vs[i]? with
      | none => rw [e] at h2; cases h2
      | some a => rw [e] at h2; cases h2; rfl
    obtain ⟨u, hu, rv⟩ := r.get ha
    have hp : ps[i]? = some y := by
      rw [← S.pre, List.getElem?_take_of_lt (by omega)]; exact h1
    have ndP : ps.Nodup := by rw [← S.pre]; exact S.nd.sublist (List.take_sublist _ _)
    refine ⟨u, rv, ?_⟩
    rcases S.par y (List.mem_of_getElem? hp) with k | k
    · exact .inl ⟨k, bindL_get ndP hp hu k⟩
    · obtain ⟨c, e⟩ := cell_has (n := s.heap.objs.size + 1) k
      refine .inr ⟨.inl k, c, e, ?_⟩
      have q := x.cell y c e
      rw [bindC_get ndP hp hu (by show scope.names.lookup y ≠ _; rw [k]; decide)] at q
      exact q
  · exact e0.hok.fresh (Nat.le_of_lt (x.above y c (PySem.mem_of_lookup h)))
  · unfold start
    show _ = N.length
    rw [List.length_append, List.length_map, List.length_replicate]
    omega

/-- THE RULE: a def (or a method) of the text, by its body. The body's reading t is chosen for each entry; it is run at the parameters' values -/
theorem fn_of {CX : CXT} {P : Program} {w : World} {K : PySem.W.Frag} {mg : Str → Option Value} {base : Heap} {k : Nat} {f : Addr} {name qual : Str} {params : Arguments} {body : List Stmt} {scope : Scope} {dV kV doc pm cdv ct oc : Value} {an od : Option Addr}
    {osl : Array (Option Value)} {N ps : List Str} {sp : Sp} (lk : K.lookup f = some ⟨oc, od, .func (PySem.W.fnOf name qual params body scope dV kV doc pm an cdv ct), osl⟩) (hcd : PySem.W.codeIn K cdv qual = true) (S : FnScope N ps scope)
    (len : ∀ vs H Q E, sp vs H Q E → vs.length = ps.length)
    (hbody : ∀ (A : Around) (outer : List Env) (s : Shared) (H : Hp) (vs : List V) (Q : VK) (E : XK), Room k (A.deeper (envOfC qual scope s.heap.objs.size f cdv)) → sp vs H Q E →
      ∃ t, PSs (cxOf CX P w K mg base N qual scope f cdv A outer s H E) body t ∧ t { nx := fun _ H' => Q .non H', rt := Q } (start N vs) H) :
    FnOk P w K mg base CX (k + 1) f (PySem.W.fnOf name qual params body scope dV kV doc pm an cdv ct) ps sp := by
  refine ⟨len, fun A outer s H args us vs Q E hr e0 hb r hsp => ?_⟩
  have hl := len _ _ _ _ hsp
  have KX : K.In s.heap := e0.mod.kin.keeps fun b o e => (e0.bs b o e).1
  have lim : s.heap.NoLimit := e0.mod.nolimit.keeps fun b o e => (e0.bs b o e).1
  have hkind : ∀ y ∈ ps.zip us, scope.names.lookup y.1 = some .local ∨ (scope.names.lookup y.1 = some .cell ∧ ((cellsFrom (s.heap.objs.size + 1) scope.names []).lookup y.1).isSome = true) := fun ⟨n, v⟩ hy => by
    rcases S.par n (List.of_mem_zip hy).1 with q | q
    · exact .inl q
    · exact .inr ⟨q, PySem.W.cellsFrom_some _ _ _ (.inl q)⟩
  refine codeAny_call_function hr.depth (KX _ _ lk) rfl S.co S.gen rfl (PySem.W.codeRec_of KX hcd) (hb _ _ _ _ ?_)
  refine wpAny_newFunctionEnv_cells S.kind hkind fun env he s1 x => ?_
  subst he
  refine ⟨lim.keeps x.toInCall.keep, codeAny_func ?_⟩
  obtain ⟨t, ht, hq⟩ := hbody A outer s H vs Q E (hr.deeper _) hsp
  have I : Inv (cxOf CX P w K mg base N qual scope f cdv A outer s H E) [] (start N vs) H s1 := inv_start S hr.hd e0 hl r x
  refine wpAny_mono (ht [] s1 (start N vs) H _ I hq) (fun fl s' hs => ?_) fun e s' hs => hs
  have fin : ∀ {σ' : St} {H' : Hp} {v : V} {u : Value}, Inv (cxOf CX P w K mg base N qual scope f cdv A outer s H E) [] σ' H' s' → RelV v u → Q v H' → CE outer P w H s Q u s' :=
    fun {σ' H' v u} J rv q => ⟨v, H', J.os, J.bare, J.base, J.hok, rv, q⟩
  cases fl with
  | ret u =>
    obtain ⟨v, σ', H', J, rv, q⟩ := hs
    exact fin J rv q
  | next =>
    obtain ⟨σ', H', J, q⟩ := hs
    exact fin (v := V.non) (u := Value.none) J rfl q
  | brk =>
    obtain ⟨_, _, _, q⟩ := hs
    exact False.elim q
  | cont =>
    obtain ⟨_, _, _, q⟩ := hs
    exact False.elim q
end L2

namespace L2
open PySem PySem.Spec PyProof.Rows
section
variable {X : Cx} {x : Str} {p pos : Pos} {e : Expr} {es : List Expr} {t : TA} {id T : String} {r : List V → Hp → VK → Prop}

def tCB (r : List V → Hp → VK → Prop) (t : TA) : TE := fun σ H Q => t σ H fun vs H1 => r vs H1 Q
/-- f(e, ..), f a built-in function -/
theorem pe_callB (hc : CallR X (.builtin id) r) (hg : Gl X x) (hm : X.mg x = none) (hv : bootBuiltins x = some (.builtin id)) (ha : PA X (e :: es) t) (hn : x ≠ "__name__" := by decide) (hdb : (x == ("__debug__" : Str)) = false := by decide)
    (he : starEach (e :: es) X.env = (false, eval e X.env) :: starEach es X.env := by rfl) (hpl : (backTo pos (starEach es X.env)).any (·.1) = false := by rfl) : PE X (.Call (.Name x p) (e :: es) [] pos) (tCB r t) := by
  intro pins s σ H Q I h
  refine wpAny_Call_Name_kw (ld_blt I hg hm hv ?_ hn hdb)
  exact PyProof.Rows.callWith_builtin1 (thn (ha pos pins s σ H _ I h) fun us s1 ⟨vs, H1, I1, r1, q1⟩ => hc pins s1 σ H1 vs us Q I1 r1 q1) he hpl
end
end L2

namespace HT
open PySem PyProof.Rows

section
open PySem.SeqAt
open PySem.AutoSeq1 (wpAny_loadPart')
open PySem.MeetsSeq PySem.MeetsSeq2 PySem.MeetsSeq3

end

section
variable {prog : Program} {w : World} {A : Around} {E : Value → Shared → Prop} {s : Shared}

/-- a slice's bound as a place among n (d where it is left out) -/
def sIx (n d : Nat) : Option Int → Nat
  | none => d
  | some v => if v < 0 then (v + (n : Int)).toNat else min v.toNat n
theorem sIx_none (n d : Nat) : sIx n d none = d := rfl
theorem sIx_nat (n d k : Nat) : sIx n d (some (k : Int)) = min k n := by
  show (if (k : Int) < 0 then ((k : Int) + (n : Int)).toNat else min (k : Int).toNat n) = min k n
  rw [if_neg (by omega), Int.toNat_natCast]
end
end HT

namespace L2
open PySem PySem.Spec PyProof.Rows

abbrev TO := St → Hp → (Option Int → Hp → Prop) → Prop
/-- a slice's part (left out, or an int) -/
def PO (X : Cx) (e : Option Expr) (t : TO) : Prop :=
  ∀ (pins : List (Addr × Obj)) (s : Shared) (σ : St) (H : Hp) (Q : Option Int → Hp → Prop), Inv X pins σ H s → t σ H Q →
    wpAny (model X.prog X.w) X.A (evalPart e X.env) (fun u s' => ∃ o H', Inv X pins σ H' s' ∧ IsPart u o ∧ Q o H') X.xe s
def tNoPart : TO := fun _ H Q => Q none H
def tPart (t : TE) : TO := fun σ H Q => t σ H fun x H1 => ∃ i, x = .int i ∧ Q (some i) H1

section
variable {X : Cx} {e : Expr} {te : TE} {lo hi : Option Expr} {tl th : TO} {pos p2 : Pos}

theorem po_none : PO X none tNoPart := by
  intro pins s σ H Q I h
  rw [evalPart_none]
  exact wpAny_pure ⟨none, H, I, .none, h⟩
theorem po_some (h : PE X e te) : PO X (some e) (tPart te) := by
  intro pins s σ H Q I hw
  rw [evalPart_some]
  refine thn (h pins s σ H _ I hw) fun u s1 ⟨x, H1, I1, r1, q1⟩ => ?_
  obtain ⟨i, rfl, q⟩ := q1
  obtain ⟨t, rfl⟩ := r1
  exact ⟨some i, H1, I1, .int i t, q⟩

/-- what a slice of a value is, by values: the slice object stands at sl -/
def SlR (X : Cx) (r : V → Option Int → Option Int → Hp → VK → Prop) : Prop :=
  ∀ (pins : List (Addr × Obj)) (s : Shared) (σ : St) (H : Hp) (x : V) (v vl vu : Value) (lo hi : Option Int) (sl : Addr) (Q : VK), Inv X pins σ H s → RelV x v → s.heap.IsSliceOf sl vl vu .none → IsPart vl lo → IsPart vu hi → r x lo hi H Q →
    ∃ T id, typeLookup (.type T) "__getitem__" = pure (some (.builtin id)) ∧ s.TypeIs v T ∧ wpAny (model X.prog X.w) X.A (getItem v (.ref sl)) (EP X pins σ Q) X.xe s
theorem SlR.or {r r' : V → Option Int → Option Int → Hp → VK → Prop} (h : SlR X r) (h' : SlR X r') : SlR X (fun x lo hi H Q => r x lo hi H Q ∨ r' x lo hi H Q) := by
  intro pins s σ H x v vl vu lo hi sl Q I rx hs pl pu q
  rcases q with q | q
  · exact h pins s σ H x v vl vu lo hi sl Q I rx hs pl pu q
  · exact h' pins s σ H x v vl vu lo hi sl Q I rx hs pl pu q
def tSl (r : V → Option Int → Option Int → Hp → VK → Prop) (te : TE) (tl th : TO) : TE := fun σ H Q => te σ H fun x H1 => tl σ H1 fun l H2 => th σ H2 fun u H3 => r x l u H3 Q
/-- a[lo:hi], any a -/
theorem pe_slice {r : V → Option Int → Option Int → Hp → VK → Prop} (hr : SlR X r) (he : PE X e te) (hl : PO X lo tl) (hu : PO X hi th) : PE X (.Subscript e (.Slice lo hi none p2) pos) (tSl r te tl th) := by
  intro pins s σ H Q I h
  refine Subscript_ (thn (he pins s σ H _ I h) fun v s1 ⟨x, H1, I1, r1, q1⟩ => ?_)
  refine wpAny_Slice (thn (hl pins s1 σ H1 _ I1 q1) fun vl s2 ⟨l, H2, I2, pl, q2⟩ => thn (hu pins s2 σ H2 _ I2 q2) fun vu s3 ⟨u, H3, I3, pu, q3⟩ => ?_)
  rw [evalPart_none]
  refine wpAny_pure ?_
  have I4 : Inv X pins σ H3 { s3 with heap := s3.heap.push { cls := .type "slice", data := .fields #[vl, vu, .none] } } := I3.kept (t' := s3.toks) fun b ob q => Heap.get?_push_of_some _ q
  obtain ⟨T, id, hT, ht, hg⟩ := hr pins { s3 with heap := s3.heap.push { cls := .type "slice", data := .fields #[vl, vu, .none] } } σ H3 x v vl vu l u s3.heap.objs.size Q I4 r1 (Heap.IsSliceOf.new ..) pl pu q3
  show wpAny (model X.prog X.w) X.A (subscriptTail e (.Slice lo hi none p2) v (.ref s3.heap.objs.size)) (EP X pins σ Q) X.xe { s3 with heap := s3.heap.push { cls := .type "slice", data := .fields #[vl, vu, .none] } }
  exact tail_any (ops := [.ref s3.heap.objs.size, v]) ht hT hg (by with_unfolding_all rfl)

/-- the items of xs[lo:hi] -/
def cutV (xs : List V) (lo hi : Option Int) : List V := (xs.drop (HT.sIx xs.length 0 lo)).take (HT.sIx xs.length xs.length hi - HT.sIx xs.length 0 lo)
theorem cutV_length (xs : List V) (lo hi : Option Int) : (cutV xs lo hi).length ≤ xs.length := by
  unfold cutV
  rw [List.length_take, List.length_drop]
  omega
end
end L2

namespace L2
open PySem PySem.Spec PyProof.Rows

/-- the place that an index of any sign means -/
def ixN (n : Nat) (i : Int) : Option Nat := if 0 ≤ i then (if i < n then some i.toNat else none) else if -(n : Int) ≤ i then some (i + n).toNat else none
def atI {α : Type} (xs : List α) (i : Int) : Option α := (ixN xs.length i).bind fun j => xs[j]?
theorem ixN_seq {n : Nat} {i : Int} {j : Nat} (h : ixN n i = some j) : seqIndex? i n = some j ∧ j < n ∧ -(n : Int) ≤ i ∧ i < n := by
  unfold ixN at h
  by_cases h0 : 0 ≤ i
  · rw [if_pos h0] at h
    by_cases h1 : i < n
    · rw [if_pos h1] at h
      have e : i.toNat = j := Option.some.inj h
      exact ⟨by rw [seqIndex_of h0 h1, e], by omega, by omega, h1⟩
    · rw [if_neg h1] at h; cases h
  · rw [if_neg h0] at h
    by_cases h1 : -(n : Int) ≤ i
    · rw [if_pos h1] at h
      have e : (i + n).toNat = j := Option.some.inj h
      exact ⟨by rw [seqIndex_neg (by omega) h1, e], by omega, h1, by omega⟩
    · rw [if_neg h1] at h; cases h
theorem atI_get {α : Type} {xs : List α} {i : Int} {v : α} (h : atI xs i = some v) : ∃ j, seqIndex? i xs.length = some j ∧ xs[j]? = some v ∧ j < xs.length ∧ -(xs.length : Int) ≤ i ∧ i < xs.length := by
  unfold atI at h
  cases e : ixN xs.length i with
  | none => rw [e] at h; cases h
  | some j =>
    rw [e] at h
    obtain ⟨h1, h2, h3, h4⟩ := ixN_seq e
    exact ⟨j, h1, h, h2, h3, h4⟩
theorem atI_nat {α : Type} {xs : List α} {j : Nat} {v : α} (h : xs[j]? = some v) : atI xs (j : Int) = some v := by
  have hj : j < xs.length := (List.getElem?_eq_some_iff.mp h).1
  have e : ixN xs.length (j : Int) = some j := by
    unfold ixN
    rw [if_pos (by omega), if_pos (by omega)]; simp
  unfold atI; rw [e]; exact h
/-- what stands as an index of a plain subscript -/
def PlainIx (b : Expr) : Prop := ∀ o i, subscripted b false o i = operate [o, i] (getItem o i)
/-- a subscript by values -/
def IxR (X : Cx) (r : R2) : Prop :=
  ∀ (value slice : Expr) (pins : List (Addr × Obj)) (s : Shared) (σ : St) (H : Hp) (x y : V) (v u : Value) (Q : VK), Inv X pins σ H s → RelV x v → RelV y u → r x y H Q →
    subscripted slice false v u = operate [v, u] (getItem v u) → wpAny (model X.prog X.w) X.A (subscriptTail value slice v u) (EP X pins σ Q) X.xe s
/-- a call of a builtin's method by values: the receiver, the arguments -/
def MtR (X : Cx) (id : String) (r : V → List V → Hp → VK → Prop) : Prop :=
  ∀ (pins : List (Addr × Obj)) (s : Shared) (σ : St) (H : Hp) (x : V) (xs : List V) (v : Value) (us : List Value) (Q : VK), Inv X pins σ H s → RelV x v → Vals xs us → r x xs H Q →
    wpAny (model X.prog X.w) X.A (call (.builtin id) (v :: us)) (EP X pins σ Q) X.xe s
section
variable {X : Cx} {a b : Expr} {ta tb : TE} {pos : Pos}
theorem IxR.or {r r' : R2} (h : IxR X r) (h' : IxR X r') : IxR X (fun x y H Q => r x y H Q ∨ r' x y H Q) := by
  intro value slice pins s σ H x y v u Q I rx ry q hs
  rcases q with q | q
  · exact h value slice pins s σ H x y v u Q I rx ry q hs
  · exact h' value slice pins s σ H x y v u Q I rx ry q hs
theorem MtR.or {id : String} {r r' : V → List V → Hp → VK → Prop} (h : MtR X id r) (h' : MtR X id r') : MtR X id (fun x xs H Q => r x xs H Q ∨ r' x xs H Q) := by
  intro pins s σ H x xs v us Q I rx rs q
  rcases q with q | q
  · exact h pins s σ H x xs v us Q I rx rs q
  · exact h' pins s σ H x xs v us Q I rx rs q
/-- a[b] -/
theorem pe_ix {r : R2} (hr : IxR X r) (ha : PE X a ta) (hb : PE X b tb) (hs : PlainIx b) : PE X (.Subscript a b pos) (tOp r ta tb) := by
  intro pins s σ H Q I h
  exact Subscript_ (binT ha hb I h fun v u s2 x y H2 I2 rx ry q => hr a b pins s2 σ H2 x y v u Q I2 rx ry q (hs _ _))

def rIxL (K : PySem.W.Frag) : R2 := fun x y H Q => ∃ p xs i v, x = .ref p ∧ y = .int i ∧ SqL K H p xs ∧ atI xs i = some v ∧ Q v H
def rIxT (K : PySem.W.Frag) : R2 := fun x y H Q => ∃ p xs i v, x = .ref p ∧ y = .int i ∧ SqT K H p xs ∧ atI xs i = some v ∧ Q v H
theorem ix_list : IxR X (rIxL X.K) := by
  intro value slice pins s σ H x y v u Q I rx ry h hs
  obtain ⟨p, xs, i, z, rfl, rfl, hq, he, q⟩ := h
  cases rx
  obtain ⟨t, rfl⟩ := ry
  obtain ⟨its, r, pl, hz⟩ := I.list hq
  obtain ⟨j, h1, h2, h3, h4, h5⟩ := atI_get he
  obtain ⟨w, ew, rw'⟩ := r.get h2
  have hl := r.length
  have hn := line63
  have fin : EP X pins σ Q w s := ⟨z, H, I, rw', q⟩
  by_cases h0 : 0 ≤ i
  · have hj : i.toNat = j := by
      rw [seqIndex_of h0 h5] at h1
      exact Option.some.inj h1
    exact item_listR pl.isList h0 (by omega) (by rw [hj]; simpa using ew) fin hs
  · have hj : (i + (its.toArray.size : Int)).toNat = j := by
      rw [seqIndex_neg (by omega) h4] at h1
      rw [List.size_toArray, ← hl]
      exact Option.some.inj h1
    exact subscriptTail_builtinR (x := w) pl.isList.typeIs slot_list_getitem.lookup
      (wpAny_getItem_list_neg (Q := fun r s' => r = w ∧ EP X pins σ Q r s') pl.isList (by omega) (by rw [List.size_toArray] <;> omega) (by omega) (by rw [hj]; simpa using ew) ⟨rfl, fin⟩) hs
theorem ix_tup : IxR X (rIxT X.K) := by
  intro value slice pins s σ H x y v u Q I rx ry h hs
  obtain ⟨p, xs, i, z, rfl, rfl, hq, he, q⟩ := h
  cases rx
  obtain ⟨t, rfl⟩ := ry
  obtain ⟨its, r, pl, hz⟩ := I.tuple hq
  obtain ⟨j, h1, h2, h3, h4, h5⟩ := atI_get he
  obtain ⟨w, ew, rw'⟩ := r.get h2
  have hl := r.length
  have hn := line63
  have fin : EP X pins σ Q w s := ⟨z, H, I, rw', q⟩
  exact subscriptTail_builtinR (x := w) pl.typeIs slot_tuple_getitem.lookup
    (getItem_tuple (j := j) (Q := fun r s' => r = w ∧ EP X pins σ Q r s') pl (by omega) (by omega) (by rw [List.size_toArray, ← hl]; exact h1) (by simpa using ew) ⟨rfl, fin⟩) hs
/-- the list's object behind a store -/
theorem mapSeq_set (its : List Value) (n j : Nat) (u : Value) : Obj.mapSeq (·.setIfInBounds j u) { cls := .type "list", data := .seq its.toArray n } = { cls := .type "list", data := .seq (its.set j u).toArray n } := by
  simp [Obj.mapSeq]
theorem Inv.lst {pins : List (Addr × Obj)} {σ : St} {H : Hp} {s : Shared} {p : Addr} {xs : List V} (I : Inv X pins σ H s) (h : H p = some (.lst xs)) :
    ∃ (its : List Value) (n : Nat), Vals xs its ∧ s.heap.get? p = some { cls := .type "list", data := .seq its.toArray n } ∧ xs.length ≤ sizeLine := by
  obtain ⟨z, its, n, r, e⟩ := I.hok p _ h
  exact ⟨its, n, r, e, z⟩
/-- the list at p is written by an update of its object -/
theorem Inv.lstUpd {pins : List (Addr × Obj)} {σ : St} {H : Hp} {s : Shared} {p : Addr} {xs ys : List V} {its its' : List Value} {n n' : Nat} {f : Obj → Obj} (I : Inv X pins σ H s) (h : H p = some (.lst xs))
    (ho : s.heap.get? p = some { cls := .type "list", data := .seq its.toArray n }) (hf : f { cls := .type "list", data := .seq its.toArray n } = { cls := .type "list", data := .seq its'.toArray n' }) (r : Vals ys its') (hz : ys.length ≤ sizeLine) (t : Nat) :
    Inv X pins σ (upd H p (.lst ys)) { s with heap := s.heap.update p f, toks := t } := by
  have e : (s.heap.update p f).get? p = some { cls := .type "list", data := .seq its'.toArray n' } := by
    rw [Heap.get?_update_self f ho (by rw [hf] <;> rfl), hf]
  refine I.write (x := p) (e := p) (by rw [h]; trivial) (.inl rfl) (fun b u hb q => (Heap.get?_update_other _ _ (Ne.symm hb)).trans q) ⟨_, e⟩ ?_
  exact ⟨hz, its', n', r, e⟩
def rSetL : V → V → V → Hp → (Hp → Prop) → Prop := fun o i v H Q => ∃ p xs k j, o = .ref p ∧ i = .int k ∧ H p = some (.lst xs) ∧ ixN xs.length k = some j ∧ Q (upd H p (.lst (xs.set j v)))
theorem set_list : PSet X rSetL := by
  intro pins s σ H o i v ov iv u Q I ro ri rv h
  obtain ⟨p, xs, k, j, rfl, rfl, hp, hj, q⟩ := h
  cases ro
  obtain ⟨t, rfl⟩ := ri
  obtain ⟨its, n, r, ho, hz⟩ := I.lst hp
  obtain ⟨h1, h2, h3, h4⟩ := ixN_seq hj
  have hl := r.length
  have hn := line63
  have I' : Inv X pins σ (upd H p (.lst (xs.set j v))) { s with heap := s.heap.update p (Obj.mapSeq (·.setIfInBounds j u)) } :=
    I.lstUpd hp ho (mapSeq_set its n j u) (r.set rv j) (by rw [List.length_set]; exact hz) s.toks
  by_cases h0 : 0 ≤ k
  · have hk : k.toNat = j := by
      rw [seqIndex_of h0 h4] at h1
      exact Option.some.inj h1
    exact PySem.W.ki_setAt ho h0 (by omega) (by rw [List.size_toArray, ← hl]; exact h4) (by rw [hk]; exact ⟨_, I', q⟩)
  · have hk : (k + (its.toArray.size : Int)).toNat = j := by
      rw [seqIndex_neg (by omega) h3] at h1
      rw [List.size_toArray, ← hl]
      exact Option.some.inj h1
    exact PySem.W.ki_setBack ho (by omega) (by rw [List.size_toArray, ← hl]; exact h3) (by omega) (by rw [hk]; exact ⟨_, I', q⟩)

theorem slice_bounds (lo hi : Option Int) (n : Nat) : (sliceBounds lo hi none n).1 = ((HT.sIx n 0 lo : Nat) : Int) ∧ (sliceBounds lo hi none n).2.1 = ((HT.sIx n n hi : Nat) : Int) ∧ (sliceBounds lo hi none n).2.2 = 1 := by
  refine ⟨?_, ?_, rfl⟩
  · cases lo with
    | none => simp [sliceBounds, HT.sIx]
    | some i =>
      simp only [sliceBounds, HT.sIx, Option.getD_none, show (1 : Int) > 0 by decide, if_true]
      by_cases h : i < 0
      · simp only [h, if_true] <;> omega
      · simp only [h, if_false] <;> omega
  · cases hi with
    | none => simp [sliceBounds, HT.sIx]
    | some i =>
      simp only [sliceBounds, HT.sIx, Option.getD_none, show (1 : Int) > 0 by decide, if_true]
      by_cases h : i < 0
      · simp only [h, if_true] <;> omega
      · simp only [h, if_false] <;> omega
theorem slicePick_cut (its : List Value) (lo hi : Option Int) : slicePick its.toArray lo hi none = ((its.drop (HT.sIx its.length 0 lo)).take (HT.sIx its.length its.length hi - HT.sIx its.length 0 lo)).toArray := by
  obtain ⟨h1, h2, h3⟩ := slice_bounds lo hi its.toArray.size
  unfold slicePick
  rw [h1, h2, h3]
  simp only [sliceRange_one, pick_run, List.size_toArray] <;> rfl
/-- xs[lo:hi] of a list: a new list -/
def rSlL (K : PySem.W.Frag) : V → Option Int → Option Int → Hp → VK → Prop := fun x lo hi H Q => ∃ a xs, x = .ref a ∧ SqL K H a xs ∧ ∀ p, H p = none → Q (.ref p) (upd H p (.lst (cutV xs lo hi)))
theorem sl_list : SlR X (rSlL X.K) := by
  intro pins s σ H x v vl vu lo hi sl Q I rx hs pl pu h
  obtain ⟨a, xs, rfl, hx, q⟩ := h
  cases rx
  obtain ⟨its, r, ht, hz⟩ := I.list hx
  have hlen := r.length
  refine ⟨"list", _, slot_list_getitem.lookup, ht.isList.typeIs, ?_⟩
  refine wpAny_getItem_list_slice ht.isList hs pl pu .none (by simp) ?_ (by rw [List.size_toArray] <;> omega)
  rw [slicePick_cut, ← hlen]
  refine ⟨.ref s.heap.objs.size, _, I.laid (t' := s.toks) (o := .lst (cutV xs lo hi)) (fun b ob q => Heap.get?_push_of_some _ q) (Nat.le_refl _) ?_, rfl, q _ (I.hok.fresh (Nat.le_refl _))⟩
  exact ⟨Nat.le_trans (cutV_length xs lo hi) hz, _, 0, (r.drop (HT.sIx xs.length 0 lo)).take (HT.sIx xs.length xs.length hi - HT.sIx xs.length 0 lo), Heap.get?_push_size _ rfl⟩

def flatV : V → Bool
  | .non => true
  | .bl _ => true
  | .int _ => true
  | .str _ => true
  | _ => false
/-- == of flat values -/
def eqV : V → V → Bool
  | .non, .non => true
  | .bl a, .bl b => a == b
  | .bl a, .int b => (if a then 1 else 0) == b
  | .int a, .bl b => a == (if b then 1 else 0)
  | .int a, .int b => a == b
  | .str a, .str b => a == b
  | _, _ => false
theorem eqAt_V {A : Around} {s : Shared} {y x : V} {u v : Value} (ry : RelV y u) (rx : RelV x v) (fy : flatV y = true) (fx : flatV x = true) : SeqAt.EqAt A s u v (eqV y x) := by
  cases y with
  | non =>
    cases ry
    cases x with
    | non => cases rx; exact SeqAt.EqAt.same _
    | bl b => cases rx; exact SeqAt.EqAt.none_bool b
    | int b => obtain ⟨t, rfl⟩ := rx; exact SeqAt.EqAt.none_int b t
    | str b => obtain ⟨t, rfl⟩ := rx; exact SeqAt.EqAt.none_str b t
    | _ => exact absurd (show false = true from fx) Bool.false_ne_true
  | bl a =>
    cases ry
    cases x with
    | non => cases rx; exact SeqAt.EqAt.bool_none a
    | bl b => cases rx; exact SeqAt.EqAt.bool_bool a b
    | int b => obtain ⟨t, rfl⟩ := rx; exact SeqAt.EqAt.bool_int a b t
    | str b => obtain ⟨t, rfl⟩ := rx; exact SeqAt.EqAt.bool_str a b t
    | _ => exact absurd (show false = true from fx) Bool.false_ne_true
  | int a =>
    obtain ⟨t', rfl⟩ := ry
    cases x with
    | non => cases rx; exact SeqAt.EqAt.int_none a t'
    | bl b => cases rx; exact SeqAt.EqAt.int_bool a t' b
    | int b => obtain ⟨t, rfl⟩ := rx; exact SeqAt.EqAt.int_int a t' b t
    | str b => obtain ⟨t, rfl⟩ := rx; exact SeqAt.EqAt.int_str a t' b t
    | _ => exact absurd (show false = true from fx) Bool.false_ne_true
  | str a =>
    obtain ⟨t', rfl⟩ := ry
    cases x with
    | non => cases rx; exact SeqAt.EqAt.str_none a t'
    | bl b => cases rx; exact SeqAt.EqAt.str_bool a t' b
    | int b => obtain ⟨t, rfl⟩ := rx; exact SeqAt.EqAt.str_int a t' b t
    | str b => obtain ⟨t, rfl⟩ := rx; exact SeqAt.EqAt.str_str a t' b t
    | _ => exact absurd (show false = true from fx) Bool.false_ne_true
  | _ => exact absurd (show false = true from fy) Bool.false_ne_true
theorem call_len_seq : CallR X (.builtin "len") (fun xs H Q => ∃ p ys, xs = [.ref p] ∧ (SqL X.K H p ys ∨ SqT X.K H p ys) ∧ Q (.int ys.length) H) := by
  intro pins s σ H xs us Q I r h
  obtain ⟨p, ys, rfl, hq, q⟩ := h
  obtain ⟨u, rfl, rx⟩ := vals1 r
  cases rx
  have hn := line63
  rcases hq with hq | hq
  · obtain ⟨its, r', pl, hz⟩ := I.list hq
    have hlen := r'.length
    exact Calls.call_len_list pl.isList (by simp only [List.size_toArray] <;> omega) ⟨.int ys.length, H, I.tok _, ⟨s.toks + 1, by rw [List.size_toArray, hlen]⟩, q⟩
  · obtain ⟨its, r', pl, hz⟩ := I.tuple hq
    have hlen := r'.length
    exact len_tuple pl (by simp only [List.size_toArray] <;> omega) ⟨.int ys.length, H, I.tok _, ⟨s.toks + 1, by rw [List.size_toArray, hlen]⟩, q⟩
theorem CallR.or {f : Value} {r r' : List V → Hp → VK → Prop} (h : CallR X f r) (h' : CallR X f r') : CallR X f (fun xs H Q => r xs H Q ∨ r' xs H Q) := by
  intro pins s σ H xs us Q I rs q
  rcases q with q | q
  · exact h pins s σ H xs us Q I rs q
  · exact h' pins s σ H xs us Q I rs q
/-- the value is of that builtin type -/
def tyV (K : PySem.W.Frag) (T : String) (x : V) (H : Hp) : Prop := match x with
  | .str _ => T = "str"
  | .int _ => T = "int"
  | .ref p => (T = "list" ∧ ∃ xs, SqL K H p xs) ∨ (T = "tuple" ∧ ∃ o, K.lookup p = some o ∧ o.cls = .type "tuple" ∧ o.dict = none) ∨
      (T = "dict" ∧ ((∃ kvs, H p = some (.dK kvs)) ∨ ∃ kvs, H p = some (.dT kvs))) ∨ (T = "set" ∧ ∃ S n, H p = some (.set S n))
  | _ => False
theorem tyV_is {pins : List (Addr × Obj)} {σ : St} {H : Hp} {s : Shared} {T : String} {x : V} {v : Value} (I : Inv X pins σ H s) (r : RelV x v) (ty : tyV X.K T x H) :
    s.TypeIs v T ∧ ∀ a, v = .ref a → ∃ ob, s.heap.get? a = some ob ∧ ob.dict = none := by
  cases x with
  | str z =>
    obtain ⟨t, rfl⟩ := r
    cases (show T = "str" from ty)
    exact ⟨typeIs_str s z t, fun _ e => nomatch e⟩
  | int i =>
    obtain ⟨t, rfl⟩ := r
    cases (show T = "int" from ty)
    exact ⟨typeIs_int s i t, fun _ e => nomatch e⟩
  | ref p =>
    cases r
    rcases ty with ⟨rfl, xs, hq⟩ | ⟨rfl, o, hk, hc, hd⟩ | ⟨rfl, hk⟩ | ⟨rfl, S, n, hk⟩
    · obtain ⟨its, _, pl, _⟩ := I.list hq
      refine ⟨pl.isList.typeIs, fun a e => ?_⟩
      cases e
      obtain ⟨o, n, e, c, hd, _⟩ := pl
      exact ⟨o, e, hd⟩
    · refine ⟨⟨o, I.kIn p o hk, hc⟩, fun a e => ?_⟩
      cases e
      exact ⟨o, I.kIn _ o hk, hd⟩
    · have z : ∃ o, s.heap.get? p = some o ∧ o.ExactDict := by
        rcases hk with ⟨kvs, hk⟩ | ⟨kvs, hk⟩
        · obtain ⟨_, _, _, _, o, _, _, e, ex, _⟩ := I.hok p _ hk
          exact ⟨o, e, ex⟩
        · obtain ⟨_, _, _, _, o, _, _, e, ex, _⟩ := I.hok p _ hk
          exact ⟨o, e, ex⟩
      obtain ⟨o, e, ex⟩ := z
      refine ⟨⟨o, e, ex.1⟩, fun a e2 => ?_⟩
      cases e2
      exact ⟨o, e, ex.2.1⟩
    · obtain ⟨o, _, _, _, e, ex, _⟩ := I.hok p _ hk
      refine ⟨⟨o, e, ex.1⟩, fun a e2 => ?_⟩
      cases e2
      exact ⟨o, e, ex.2.1⟩
  | _ => exact False.elim ty
def tBM0 (K : PySem.W.Frag) (T : String) (r : V → List V → Hp → VK → Prop) (to : TE) : TE := fun σ H Q => to σ H fun x H1 => tyV K T x H1 ∧ r x [] H1 Q
def tBM (K : PySem.W.Frag) (T : String) (r : V → List V → Hp → VK → Prop) (to : TE) (t : TA) : TE := fun σ H Q => to σ H fun x H1 => tyV K T x H1 ∧ t σ H1 fun xs H2 => r x xs H2 Q
variable {o e : Expr} {es : List Expr} {to : TE} {t : TA} {name : Str} {apos cpos : Pos} {T id : String} {r : V → List V → Hp → VK → Prop}
theorem pe_bm0 (pa : PlainAttrs T) (slot : Slot T name id) (hty : typeOf (.builtin id) = pure (.type "method_descriptor")) (hm : MtR X id r) (ho : PE X o to)
    (hbase : attributeBase o name X.env (eval o X.env) = eval o X.env := by rfl) (hline : (apos.endLine == cpos.line) = true := by rfl) : PE X (.Call (.Attribute o name apos) [] [] cpos) (tBM0 X.K T r to) := by
  intro pins s σ H Q I h
  refine wpAny_Call_method0_late hbase hline (thn (ho pins s σ H _ I h) fun v s1 ⟨x, H1, I1, r1, ty, q1⟩ => ?_)
  obtain ⟨h1, h2⟩ := tyV_is I1 r1 ty
  exact ⟨T, id, pa, slot, hty, h1, h2, Calls.callWith_builtin rfl (PySem.evalArgs_none (hm pins s1 σ H1 x [] v [] Q I1 r1 .nil q1))⟩
theorem pe_bm (pa : PlainAttrs T) (slot : Slot T name id) (hty : typeOf (.builtin id) = pure (.type "method_descriptor")) (hm : MtR X id r) (ho : PE X o to) (ha : PA X (e :: es) t)
    (hbase : attributeBase o name X.env (eval o X.env) = eval o X.env := by rfl)
    (hfew : ((backTo cpos (starEach (e :: es) X.env)).all (fun x => !x.1) && (backToKw cpos (keywordEach [] X.env)).all (fun x => x.1.isSome)
      && decide ((e :: es).length + ([] : List Keyword).length + (if ([] : List Keyword).isEmpty then 0 else 1) < 30)) = true := by rfl)
    (hline : (apos.endLine == cpos.line) = true := by rfl) (hs : starEach (e :: es) X.env = (false, eval e X.env) :: starEach es X.env := by rfl) (hplain : (backTo cpos (starEach es X.env)).any (·.1) = false := by rfl) :
    PE X (.Call (.Attribute o name apos) (e :: es) [] cpos) (tBM X.K T r to t) := by
  intro pins s σ H Q I h
  refine wpAny_Call_method_late hbase hfew hline rfl (thn (ho pins s σ H _ I h) fun v s1 ⟨x, H1, I1, r1, ty, q1⟩ => ?_)
  obtain ⟨h1, h2⟩ := tyV_is I1 r1 ty
  refine ⟨T, id, pa, slot, hty, h1, h2, ?_⟩
  have hA := ha cpos pins s1 σ H1 _ I1 q1
  rw [hs] at hA ⊢
  refine Calls.callWith_builtin (by show (false || (backTo cpos (starEach es X.env)).any (·.1)) = false; rw [hplain] <;> rfl) (Calls.evalArgs_plain ?_)
  exact thn hA fun us s2 ⟨vs, H2, I2, r2, q2⟩ => hm pins s2 σ H2 x vs v us Q I2 r1 r2 q2
end
end L2

namespace L2
open PySem PySem.Spec PyProof.Rows

def MtM (X : Cx) (id : String) (r : V → List V → Hp → VK → Prop) : Prop :=
  ∀ (pins : List (Addr × Obj)) (s : Shared) (σ : St) (H : Hp) (x : V) (xs : List V) (v : Value) (us : List Value) (Q : VK), Inv X pins σ H s → RelV x v → Vals xs us → r x xs H Q →
    wpAny (model X.prog X.w) X.A (call (.builtin id) (v :: us)) (EP X pins σ Q) X.xe s

theorem Vals.one : ∀ {x : V} {us : List Value}, Vals [x] us → ∃ u, us = [u] ∧ RelV x u
  | _, _, .cons r .nil => ⟨_, rfl, r⟩
theorem Vals.two : ∀ {x y : V} {us : List Value}, Vals [x, y] us → ∃ u v, us = [u, v] ∧ RelV x u ∧ RelV y v
  | _, _, _, .cons r (.cons q .nil) => ⟨_, _, rfl, r, q⟩
theorem Vals.zero : ∀ {us : List Value}, Vals [] us → us = []
  | _, .nil => rfl
theorem Vals.rep {xs : List V} {us : List Value} (h : Vals xs us) : ∀ k : Nat, Vals (List.replicate k xs).flatten (List.replicate k us).flatten
  | 0 => .nil
  | k + 1 => by
    rw [List.replicate_succ, List.replicate_succ, List.flatten_cons, List.flatten_cons]
    exact Vals.append h (Vals.rep h k)
theorem foldl_rep (its : List Value) : ∀ (k : Nat) (acc : List Value),
    List.foldl (fun x1 x2 => x1 ++ x2) acc.toArray (List.replicate k its.toArray) = (acc ++ (List.replicate k its).flatten).toArray
  | 0, acc => by simp
  | k + 1, acc => by
    have e : acc.toArray ++ its.toArray = (acc ++ its).toArray := by simp
    have e2 : (acc ++ its) ++ (List.replicate k its).flatten = acc ++ (List.replicate (k + 1) its).flatten := by
      rw [List.replicate_succ, List.flatten_cons, List.append_assoc]
    rw [← e2, ← foldl_rep its k (acc ++ its), ← e, List.replicate_succ, List.foldl_cons]

section
variable {X : Cx} {pins : List (Addr × Obj)} {σ : St} {H : Hp} {s : Shared} {l b : Addr} {xs ys zs : List V}

theorem Inv.lset {its its' : List Value} {n : Nat} {f : Array Value → Array Value} {t' : Nat} (I : Inv X pins σ H s) (hH : H l = some (.lst xs))
    (e : s.heap.get? l = some { cls := .type "list", data := .seq its.toArray n }) (hf : f its.toArray = its'.toArray) (hv : Vals ys its') (hz : ys.length ≤ sizeLine) :
    Inv X pins σ (upd H l (.lst ys)) { s with heap := s.heap.update l (Obj.mapSeq f), toks := t' } := by
  have q := PySem.IsL.update e f
  rw [hf] at q
  refine I.write (x := l) (e := l) (by rw [hH]; exact trivial) (.inl rfl) (fun b' u hb hu => (Heap.get?_update_other s.heap (Obj.mapSeq f) (Ne.symm hb)).trans hu) ⟨_, q⟩ ?_
  exact ⟨hz, its', _, hv, q⟩
theorem Inv.lnew {its : List Value} {t' : Nat} (I : Inv X pins σ H s) (hv : Vals ys its) (hz : ys.length ≤ sizeLine) :
    Inv X pins σ (upd H s.heap.objs.size (.lst ys)) { s with heap := s.heap.push { cls := .type "list", data := .seq its.toArray }, toks := t' } :=
  I.laid (fun _ _ q => Heap.get?_push_of_some _ q) (Nat.le_refl _) ⟨hz, its, 0, hv, Heap.get?_push_size _ rfl⟩
theorem Inv.fresh (I : Inv X pins σ H s) : H s.heap.objs.size = none := I.hok.fresh (Nat.le_refl _)
theorem Inv.lstM (I : Inv X pins σ H s) (hH : H l = some (.lst xs)) : xs.length ≤ sizeLine ∧ ∃ (its : List Value) (n : Nat), Vals xs its ∧ xs.length = its.length ∧ s.heap.get? l = some { cls := .type "list", data := .seq its.toArray n } := by
  obtain ⟨z, its, n, r, e⟩ := I.hok l _ hH
  exact ⟨z, its, n, r, r.length, e⟩

theorem notLongL {n : Nat} (h : n ≤ sizeLine) : Builtin.List.listTooLong n = false := by
  unfold Builtin.List.listTooLong
  exact decide_eq_false (by omega)
end

section
variable {X : Cx}

def rAppend : V → List V → Hp → VK → Prop := fun x vs H Q => ∃ l xs y, x = .ref l ∧ vs = [y] ∧ H l = some (.lst xs) ∧ xs.length < sizeLine ∧ Q .non (upd H l (.lst (xs ++ [y])))
theorem mt_append : MtM X "list.append" rAppend := by
  intro pins s σ H x vs v us Q I rx rv h
  obtain ⟨l, xs, y, rfl, rfl, hH, hz, q⟩ := h
  cases rx
  obtain ⟨u, rfl, ru⟩ := rv.one
  obtain ⟨z, its, n, r, hl, e⟩ := I.lstM hH
  refine call_meets F.slot_list_append ⟨_, e, rfl⟩ F.entry_list_append (F.args_list_append_2 _ _) (PySem.list_append l its.toArray n u (by rw [List.size_toArray]; omega)) ⟨e, ?_⟩
  refine ⟨.non, _, I.lset (its' := its ++ [u]) hH e (by simp) (r.append (.cons ru .nil)) ?_, rfl, q⟩
  rw [List.length_append, List.length_singleton]
  omega

def rExtend : V → List V → Hp → VK → Prop := fun x vs H Q => ∃ l b xs zs, x = .ref l ∧ vs = [.ref b] ∧ H l = some (.lst xs) ∧ H b = some (.lst zs) ∧ xs.length + zs.length ≤ sizeLine ∧ Q .non (upd H l (.lst (xs ++ zs)))
theorem mt_extend : MtM X "list.extend" rExtend := by
  intro pins s σ H x vs v us Q I rx rv h
  obtain ⟨l, b, xs, zs, rfl, rfl, hH, hB, hz, q⟩ := h
  cases rx
  obtain ⟨u, rfl, ru⟩ := rv.one
  cases ru
  obtain ⟨z, its, n, r, hl, e⟩ := I.lstM hH
  obtain ⟨z2, its2, n2, r2, hl2, e2⟩ := I.lstM hB
  have hsz : its.toArray.size + its2.toArray.size ≤ sizeLine := by rw [List.size_toArray, List.size_toArray]; omega
  have hlong : ¬ (!its.toArray.isEmpty && Builtin.List.listTooLong (its.toArray.size + its2.toArray.size)) = true := by
    rw [notLongL hsz, Bool.and_false]
    exact Bool.false_ne_true
  refine call_meets F.slot_list_extend ⟨_, e, rfl⟩ F.entry_list_extend (F.args_list_extend_2 _ _)
    (AutoSeq1.list_extend_list_list_0 l its.toArray n b its2.toArray n2 hlong (by rw [List.size_toArray]; omega) (by omega)) ⟨e, e2, ?_⟩
  refine ⟨.non, _, I.lset (its' := its ++ its2) hH e (by simp) (r.append r2) ?_, rfl, q⟩
  rw [List.length_append]
  omega

def rCat : R2 := fun x y H Q => ∃ l b xs zs, x = .ref l ∧ y = .ref b ∧ H l = some (.lst xs) ∧ H b = some (.lst zs) ∧ xs.length + zs.length ≤ sizeLine ∧ ∀ p, H p = none → Q (.ref p) (upd H p (.lst (xs ++ zs)))
theorem op_cat : OpR X (binaryOp .Add) rCat := by
  intro pins s σ H x y v u Q I rx ry h
  obtain ⟨l, b, xs, zs, rfl, rfl, hH, hB, hz, q⟩ := h
  cases rx
  cases ry
  obtain ⟨z, its, n, r, hl, e⟩ := I.lstM hH
  obtain ⟨z2, its2, n2, r2, hl2, e2⟩ := I.lstM hB
  refine PySem.P.add_list e e2 ?_ (by rw [List.size_toArray, List.size_toArray]; omega)
  have ea : its.toArray ++ its2.toArray = (its ++ its2).toArray := by simp
  rw [ea]
  exact ⟨.ref _, _, I.lnew (t' := s.toks) (r.append r2) (by rw [List.length_append]; omega), rfl, q _ I.fresh⟩
/-- a list times an int (a negative one is nothing) -/
def rRep : R2 := fun x y H Q => ∃ l k xs, x = .ref l ∧ y = .int k ∧ H l = some (.lst xs) ∧ -(2 ^ 63) ≤ k ∧ k < 2 ^ 63 ∧ xs.length * k.toNat ≤ sizeLine ∧
  ∀ p, H p = none → Q (.ref p) (upd H p (.lst (List.replicate k.toNat xs).flatten))
theorem len_rep {α : Type} (xs : List α) (k : Nat) : (List.replicate k xs).flatten.length = k * xs.length := by
  induction k with
  | zero => simp
  | succ k ih => rw [List.replicate_succ, List.flatten_cons, List.length_append, ih, Nat.succ_mul, Nat.add_comm]
theorem op_rep : OpR X (binaryOp .Mult) rRep := by
  intro pins s σ H x y v u Q I rx ry h
  obtain ⟨l, k, xs, rfl, rfl, hH, h1, h2, hz, q⟩ := h
  cases rx
  obtain ⟨t, rfl⟩ := ry
  obtain ⟨z, its, n, r, hl, e⟩ := I.lstM hH
  have hlen : its.toArray.size * k.toNat ≤ sizeLine := by rw [List.size_toArray, ← hl]; exact hz
  have hcap : ¬ its.toArray.size * k.toNat > (2 ^ 63 - 1) / 8 := by
    have : (sizeLine : Nat) ≤ (2 ^ 63 - 1) / 8 := by decide
    omega
  have hfit : ¬ (!Builtin.List.listFitsIndex k) = true := by
    rw [fitsIndex_both h1 h2]
    exact Bool.false_ne_true
  have hlong : ¬ Builtin.List.listTooLong (its.toArray.size * k.toNat) = true := by
    rw [notLongL hlen]
    exact Bool.false_ne_true
  have hnew : List.foldl (fun x1 x2 => x1 ++ x2) #[] (List.replicate (if its.toArray.isEmpty = true then 0 else k.toNat) its.toArray) = (List.replicate k.toNat its).flatten.toArray := by
    have f0 : ∀ m : Nat, List.foldl (fun x1 x2 => x1 ++ x2) #[] (List.replicate m its.toArray) = (List.replicate m its).flatten.toArray := fun m => by
      have := foldl_rep its m []
      rw [List.nil_append] at this
      exact this
    rw [f0]
    cases its with
    | nil => simp
    | cons a r' => rw [if_neg (by simp)]
  refine wpAny_binaryOp_repeat_ref (T := "list") (U := "int") (by decide) ⟨_, e, rfl⟩ (fun s' => typeIs_int s' k t) noFill_list_mul F.fills_int_mul F.slot_int_rmul repeat_list F.slot_int_index.lookup
    (call_meets F.slot_int_rmul (typeIs_int s k t) F.entry_int_rmul (F.args_int_rmul_2 _ _) (int___rmul___int_list k t l its.toArray n)
      ⟨e, rfl, ⟨_, e, rfl⟩, call_meets F.slot_list_mul ⟨_, e, rfl⟩ F.entry_list_mul (F.args_list_mul_2 _ _) (AutoListH.list___mul___list_int_3 l its.toArray n k t hfit hcap hlong) ⟨e, ?_⟩⟩)
  rw [hnew]
  exact ⟨.ref _, _, I.lnew (t' := s.toks) (r.rep k.toNat) (by rw [len_rep, Nat.mul_comm]; exact hz), rfl, q _ I.fresh⟩

end

section
variable {prog : Program} {w : World} {A : Around} {E : Value → Shared → Prop} {s : Shared}
end

section
variable {X : Cx}
end
end L2

namespace Att
open PySem PySem.W PySem.Calls PyProof.Rows

theorem ints_of_wellAll {P : Params} {h : Heap} : ∀ (ns : List Int) (vs : List Value), WellAll P h vs (ns.map WData.int) → IntsAre vs ns := by
  intro ns
  induction ns with
  | nil =>
    intro vs w
    rw [List.map_nil] at w
    cases w
    exact .nil
  | cons n ns ih =>
    intro vs w
    rw [List.map_cons] at w
    cases w with
    | cons a b =>
      cases a
      exact .cons _ _ (ih _ b)

theorem script_of {l : OpenLaw} {n : Nat} (hn : l.most = some n) {P : Params} {h : Heap} {args : List WData} {vals : List Value}
    (hpre : l.row.toRowW.claim.pre args = true) (hwl : WellAll P h vals args) :
    ∃ a vs ns, vals = [Value.ref a] ∧ args = [WData.list (ns.map WData.int)] ∧ h.get? a = some { cls := .type "list", data := .seq vs.toArray } ∧ IntsAre vs ns ∧ ns.length ≤ n := by
  have hsh : WShape.hasAll [] args [.list .int] = true := (pre_splitW hpre).1
  have hc : l.pre.holds [] { args := args } = true := (pre_splitW hpre).2
  obtain ⟨d, r, rfl, h1, h2⟩ := hasAllW_cons hsh
  obtain rfl := hasAllW_nil h2
  obtain ⟨xs, rfl, h3⟩ := hasW_list h1
  obtain ⟨ns, rfl⟩ := items_int h3
  have hlen : ns.length ≤ n := by
    unfold OpenLaw.pre at hc
    have h4 : (WTm.not (.lt (.lit (.int (n : Int))) (.len (.arg 0)))).holds [] { args := [.list (ns.map .int)] } = true := by
      have h4 := (holds_andW hc).1
      rw [hn] at h4
      exact h4
    have h5 := condW_of h4 (w_not (w_lt w_lit (w_len_list (w_arg rfl))))
    rw [List.length_map] at h5
    refine Nat.le_of_not_lt fun q => ?_
    have q' : (n : Int) < ((ns.length : Nat) : Int) := by omega
    first
      | (rw [decide_eq_true q'] at h5; exact absurd h5 (by decide))
      | (simp at h5; omega)
  cases hwl with
  | cons w1 w2 =>
    cases w2
    cases w1 with
    | list ho hall => exact ⟨_, _, ns, rfl, rfl, ho, ints_of_wellAll ns _ hall, hlen⟩

theorem post_true (l : OpenLaw) (args : List WData) : l.row.toRowW.claim.post args (.bool true) args = true :=
  postW_of (r := l.row.toRowW) (X := (true == true))
    (show WShape.has [] (.bool true) .bool = true by first | rfl | decide | simp [WShape.has, WShape.arms, WShape.armsAll])
    (show (WTm.eq .res (.lit (.bool true))).value [] { args := args, res := some (.bool true), after := args } = some (.bool (true == true)) from w_eq_bool (w_res rfl) w_lit) rfl

/-- the same from a codeAny of the CALL (for a layer whose function contracts speak of calls) -/
theorem attach_call {l : OpenLaw} {n : Nat} {q : Program} {loose : List Str} {XP : (Str → Option Value) → Heap → Prop} {YP : World → Heap → Prop} {d : DefRec}
    (hn : l.most = some n) (hdf : d.params.defaults = [])
    (call : ∀ (w : World) (s₀ s₁ : Shared) (mg mb : Str → Option Value) (fa : Addr) (o : Obj) (pm cd doc : Value) (a : Addr) (vs : List Value) (ns : List Int),
      Ground q loose [] XP w s₀ mg mb s₁.heap → YP w s₁.heap →
      s₁.heap.get? fa = some o → o.data = .func (docDef d.name d.params d.body d.scope pm cd doc) → s₁.heap.CodeRec cd d.name → mg d.name = some (.ref fa) →
      s₁.heap.get? a = some { cls := .type "list", data := .seq vs.toArray } → IntsAre vs ns → ns.length ≤ n → s₁.gens = #[] →
      codeAny (model l.prog w) callerA (.call (.ref fa) ⟨[.ref a], []⟩) (fun r s' => r = .ok (.ret (.bool true)) ∧ OldK s₁.heap s'.heap ∧ s'.os = s₁.os ∧ AllBare s'.gens) s₁) :
    WalkO q loose XP YP l.row.toRowW d [] (fun f vs => PySem.call f vs) := by
  intro w s₀ s₁ mg mb G Y fa o pm cd doc dV kV ho hd hcd hD hmg hg args vals as hpre hlay hrd hwl hlo
  obtain rfl : dV = .none := Dflts.none hD hdf
  obtain rfl : kV = .none := Dflts.noKw hD
  obtain ⟨a, vs, ns, rfl, rfl, hobj, hints, hlen⟩ := script_of hn hpre hwl
  refine enter_call (codeAny_mono (call w s₀ s₁ mg mb fa o pm cd doc a vs ns G Y ho (fd_plain hd) hcd hmg hobj hints hlen hg) fun r s' hq => ?_)
  obtain ⟨rfl, h2, h3, h4⟩ := hq
  exact ⟨.inl ⟨.bool true, .bool true, [], rfl, fun _ => rfl, .bool true, post_true l _, fun _ => ⟨List.Pairwise.nil, fun _ hm => (nomatch hm)⟩⟩, h2, h3, h4⟩

section
variable {prog : Program} {w : World} {A : Around} {E : Value → Shared → Prop} {s : Shared} {K : Frag}

end
end Att

namespace L2
open PySem PySem.Spec PyProof.Rows

theorem vals_ints : ∀ {vs : List Value} {ns : List Int}, IntsAre vs ns → Vals (ns.map V.int) vs
  | _, _, .nil => .nil
  | _, _, .cons n t h => .cons ⟨t, rfl⟩ (vals_ints h)

/-- nothing is tracked but the script, known to the object (or it is an object of the module) -/
def Only (H : Hp) : Prop := ∀ b, H b = none ∨ ∃ o xs, H b = some (.frz o (.lst xs))

/-- THE HEAD: the law's promise, at the heap behind the top. F, the promise of the law's def, may use that base is part of the heap (so K.In base, base.Ns mainGlobals mg stand in Mod) -/
theorem law_call {P : Program} {w : World} {K : PySem.W.Frag} {mg mb : Str → Option Value} {CX : CXT} {k : Nat} {fa a : Addr} {fd : FuncData} {x : Str} {sp : Sp} {s₁ : Shared} {vs : List Value} {ns : List Int}
    (KX : K.In s₁.heap) (hns : s₁.heap.Ns mainGlobals mg) (hb : s₁.heap.Ns builtinsNs mb) (hbb : ∀ x : Str, x ≠ "__name__" → mb x = bootBuiltins x) (hlim : s₁.heap.NoLimit) (hg : s₁.gens = #[])
    (ha : s₁.heap.get? a = some { cls := .type "list", data := .seq vs.toArray }) (hi : IntsAre vs ns) (hl : ns.length ≤ sizeLine) (hr : Room k callerA)
    (F : ∀ base : Heap, K.In base → base.Ns mainGlobals mg → FnOk P w K mg base CX k fa fd [x] sp) (hbind : ∀ (s : Shared) (u : Value), BindsTo s fd ⟨[u], []⟩ [(x, u)])
    (hsp : ∀ H : Hp, Only H → SqL K H a (ns.map V.int) → sp [.ref a] H (fun v _ => v = .bl true) fun _ _ _ => False)
    (hCX : ∀ H e s', CX [] H s₁ (fun _ _ _ => False) e s' → False) :
    codeAny (model P w) callerA (.call (.ref fa) ⟨[.ref a], []⟩) (fun r s' => r = .ok (.ret (.bool true)) ∧ OldK s₁.heap s'.heap ∧ s'.os = s₁.os ∧ AllBare s'.gens) s₁ := by
  have rv := vals_ints hi
  have lenV := hi.length
  -- from an abstract heap in which nothing but the script may be tracked
  have core : ∀ H : Hp, Only H → SqL K H a (ns.map V.int) → HOk P w H s₁.heap → (∀ b, H b ≠ none → b = a) → (H a ≠ none → K.lookup a = none) →
      codeAny (model P w) callerA (.call (.ref fa) ⟨[.ref a], []⟩) (fun r s' => r = .ok (.ret (.bool true)) ∧ OldK s₁.heap s'.heap ∧ s'.os = s₁.os ∧ AllBare s'.gens) s₁ := by
    intro H hO hS hok hA hK
    have base_of : ∀ {b : Addr} {o : Obj}, s₁.heap.get? b = some o → H b = none → (hidT s₁.heap H).get? b = some o := fun e n => hidT_get e n
    have noA : ∀ {b : Addr} {o : Obj} {es : Array DictEntry} {ep : Nat}, s₁.heap.get? b = some o → o.data = .dict es ep → H b = none := fun {b o es ep} e d => by
      cases q : H b with
      | none => rfl
      | some u =>
        have e' : b = a := hA b (by rw [q]; simp)
        subst e'
        rw [ha] at e; cases e
        have d' : Data.seq vs.toArray _ = Data.dict es ep := d
        cases d'
    have nsK : ∀ {b : Addr} {m : Str → Option Value}, s₁.heap.Ns b m → (hidT s₁.heap H).Ns b m := fun {b m} ⟨o, es, ep, e, d, r⟩ => ⟨o, es, ep, base_of e (noA e d), d, r⟩
    have hKb : K.In (hidT s₁.heap H) := fun b o e => base_of (KX b o e) (by
      cases q : H b with
      | none => rfl
      | some u =>
        have e' : b = a := hA b (by rw [q]; simp)
        subst e'
        rw [hK (by rw [q]; simp)] at e; cases e)
    have hM : Mod K mg (hidT s₁.heap H) := ⟨hKb, nsK hns, ⟨mb, nsK hb, hbb⟩, let ⟨mc, h1, h2⟩ := hlim; ⟨mc, nsK h1, h2⟩⟩
    have e0 : Env0 P w K mg (hidT s₁.heap H) callerA [] s₁ H := ⟨rfl, hM, fun b o e => of_hidT e, Nat.le_of_eq (hidT_size _ _), trivial, fun b hb => absurd (show b ∈ ([] : List Addr) from hb) (by simp), hok, .of_eq hg⟩
    refine codeAny_mono ((F _ hKb (nsK hns)).run callerA [] s₁ H ⟨[.ref a], []⟩ [.ref a] [.ref a] _ _ hr e0 (hbind s₁ (.ref a)) (.cons rfl .nil) (hsp H hO hS)) fun r s' h => ?_
    cases r with
    | error e => exact (hCX H e s' h).elim
    | ok fl =>
      cases fl with
      | next => exact False.elim h
      | brk => exact False.elim h
      | cont => exact False.elim h
      | ret u =>
        obtain ⟨v, H', os, bare, un, hok', r', q⟩ := h
        have q' : v = .bl true := q
        subst q'
        obtain rfl : u = Value.bool true := r'
        refine ⟨rfl, OldK.of_keep fun b o e => ?_, os, bare⟩
        cases q : H b with
        | none => exact un.keep b o e q (by intro z; exact absurd (show b ∈ ([] : List Addr) from z) (by simp)) (by simp)
        | some u =>
          rcases hO b with z | ⟨ob, xs, z⟩
          · rw [q] at z; cases z
          · have z2 := un.frzs b ob _ z
            obtain ⟨e1, _⟩ := hok b _ z
            obtain ⟨e2, _⟩ := hok' b _ z2
            rw [e] at e1; cases e1
            exact e2
  cases hk : K.lookup a with
  | some o =>
    -- the script is one of the module's own objects
    have e := KX a o hk
    rw [ha] at e
    cases e
    refine core (fun _ => none) (fun _ => .inl rfl) (.inr ⟨_, vs.toArray, _, hk, rfl, rfl, rfl, by rw [List.size_toArray, lenV]; exact hl, by simpa using rv⟩) (fun b u z => by have z' : (none : Option HO) = some u := z; cases z') (fun b z => absurd rfl z) fun z => absurd rfl z
  | none =>
    refine core (fun b => if b = a then some (.frz { cls := .type "list", data := .seq vs.toArray } (.lst (ns.map V.int))) else none) (fun b => ?_) (.inl (.inr ⟨{ cls := .type "list", data := .seq vs.toArray }, if_pos rfl⟩)) (fun b u z => ?_) (fun b z => ?_) fun _ => hk
    · by_cases hb : b = a
      · exact .inr ⟨_, _, if_pos hb⟩
      · exact .inl (if_neg hb)
    · by_cases hb : b = a
      · have z' := (if_pos hb).symm.trans z
        cases z'
        subst hb
        exact ⟨ha, by rw [List.length_map]; exact hl, vs, _, rv, ha⟩
      · have z' := (if_neg hb).symm.trans z
        cases z'
    · by_cases hb : b = a
      · exact hb
      · exact absurd (if_neg hb) z
end L2

namespace L2
open PySem PySem.Spec PyProof.Rows

abbrev KOf {K : PySem.W.Frag} {h : Heap} (_ : K.In h) : PySem.W.Frag := K

/-- the goal that k_head leaves (case hc), from the law's promise. F gives the function object fd (K's own) once, then the promise over every base -/
theorem walk_of {l : PySem.W.OpenLaw} {n k : Nat} {q : Program} {loose : List Str} {XP : (Str → Option Value) → Heap → Prop} {YP : World → Heap → Prop} {d : DefRec} {K : Params → PySem.W.Frag} {CX : World → CXT} {sp : World → Sp} {x : Str}
    (hn : l.most = some n) (hn2 : n ≤ sizeLine) (hdf : d.params.defaults = []) (hr : Room k callerA)
    (hY : ∀ (w : World) (h : Heap), YP w h → (K w.params).In h)
    (F : ∀ (w : World) (mg : Str → Option Value) (fa : Addr) (h : Heap), (K w.params).In h → h.Ns mainGlobals mg → mg d.name = some (.ref fa) →
      ∃ fd : FuncData, (∀ (s : Shared) (u : Value), BindsTo s fd ⟨[u], []⟩ [(x, u)]) ∧
        ∀ base : Heap, (K w.params).In base → base.Ns mainGlobals mg → FnOk l.prog w (K w.params) mg base (CX w) k fa fd [x] (sp w))
    (hsp : ∀ (w : World) (H : Hp) (a : Addr) (ns : List Int), ns.length ≤ n → Only H → SqL (K w.params) H a (ns.map V.int) → sp w [.ref a] H (fun v _ => v = .bl true) fun _ _ _ => False)
    (hCX : ∀ (w : World) (H : Hp) (s : Shared) (e : Value) (s' : Shared), CX w [] H s (fun _ _ _ => False) e s' → False) :
    PySem.W.WalkO q loose XP YP l.row.toRowW d [] (fun f vs => PySem.call f vs) := by
  refine Att.attach_call hn hdf fun w s₀ s₁ mg mb fa o pm cd doc a vs ns G Y ho hd hcd hmg hobj hints hlen hg => ?_
  have KX := hY w _ Y
  obtain ⟨fd, hb, hF⟩ := F w mg fa _ KX G.T.g hmg
  exact law_call KX G.T.g G.T.b G.T.builtins G.T.nolimit hg hobj hints (Nat.le_trans hlen hn2) hr hF hb (fun H hO hS => hsp w H a ns hlen hO hS) fun H e s' => hCX w H s₁ e s'
end L2

/- THE LAST THEOREM (shape; LID, My.* are yours):
   My.Adr: a structure of the addresses that your layer names (classes, functions); My.Txt K t: a structure (Prop) of the equations over K;
   My.txt_mk : {K} {implicit addresses ..} (e1 : nsIn K mainGlobals "law" = some (some (.ref f))) (e2 : K.lookup f = some ⟨oc, od, .func (fnOf "law" "law" params body scope dV kV doc pm an cdv ct), sl⟩) (e3 : codeIn K cdv "law" = true) .. : ∃ t, My.Txt K t

set_option maxRecDepth 100000 in
set_option maxHeartbeats 0 in
theorem PySem.Challenge.cw_LID_holds : PySem.Challenge.rw_LID.Holds := by
  w_on; o_law; k_head; (case hw => w_witness2)
  k_fill
  refine L2.walk_of (l := PySem.Challenge.rw_LID) (n := 63) (k := 40) (x := "script") (CX := fun w => ..) (sp := fun _ => My.sp_law) rfl (by decide) rfl ⟨rfl, by decide, by decide⟩ (fun w h Y => PySem.W.kIn_of Y) ?F ?S ?C
  case F =>
    intro w mg fa h KX G hmg
    have T : ∃ t, My.Txt (L2.KOf KX) t := by
      dsimp only [L2.KOf]                          -- K must stand as «<heap const> w.params» for k_is
      refine' My.txt_mk ?e1 ?e2 ?e3 ..
      (case e1 => PySem.W.k_is)                    -- in the order: a name -> its address -> its object -> its parts
      (case e2 => PySem.W.k_is)
      ..
    obtain ⟨t, T⟩ := T
    have e0 := hmg.symm.trans (PySem.W.mg_of KX G T.law)
    cases e0                                       -- fa is the law's own address
    exact ⟨_, fun s u => .of_eq rfl, fun base kb nb => My.law_fn T kb nb⟩     -- if «.of_eq rfl» comes too early: refine' ⟨_, ?b, fun base kb nb => My.law_fn T kb nb⟩; exact fun s u => .of_eq rfl
  case S => exact fun w H a ns hl hO hS => ..
  case C => exact ..
(the tactic k_is has no namespace: write k_is) -/

namespace L2
open PySem PySem.Spec PyProof.Rows

/-- the j-th statement of a class's body -/
def inClass (s : Stmt) (j : Nat) : Stmt := match s with
  | .ClassDef _ _ _ body _ _ _ _ _ _ _ => body.getD j (.Pass ⟨0, 0, 0, 0⟩)
  | _ => .Pass ⟨0, 0, 0, 0⟩
def defArgs (s : Stmt) : Arguments := match s with
  | .FunctionDef _ a _ _ _ _ _ _ _ _ => a
  | _ => { posonlyargs := [], args := [], vararg := none, kwonlyargs := [], kw_defaults := [], kwarg := none, defaults := [] }
def defBody (s : Stmt) : List Stmt := match s with
  | .FunctionDef _ _ b _ _ _ _ _ _ _ => b
  | _ => []
def defScope (s : Stmt) : Scope := match s with
  | .FunctionDef _ _ _ _ _ _ sc _ _ _ => sc
  | _ => { kind := .function, names := [], isGenerator := false, isCoroutine := false }

abbrev CX0 : CXT := fun _ _ _ _ _ _ => False
abbrev E0 : XK := fun _ _ _ => False
theorem pass0 {X : Cx} : Passes CX0 X E0 := fun _ _ _ _ _ _ _ h => h.elim

structure Fun (K : PySem.W.Frag) (x qual : Str) (st : Stmt) (f : Addr) (fd : FuncData) : Prop where
  ex : ∃ (oc : Value) (od : Option Addr) (kV doc pm : Value) (an : Option Addr) (cdv ct : Value) (osl : Array (Option Value)),
    fd = PySem.W.fnOf x qual (defArgs st) (defBody st) (defScope st) .none kV doc pm an cdv ct ∧ K.lookup f = some ⟨oc, od, .func fd, osl⟩ ∧ PySem.W.codeIn K cdv qual = true
  kp : PySem.W.keepIn K (.ref f) = true
section
variable {P : Program} {w : World} {K : PySem.W.Frag} {mg : Str → Option Value} {base : Heap}
/-- THE RULE for a def: its body as a term of rules, and the reading of that term -/
theorem Fun.ok {x qual : Str} {st : Stmt} {f : Addr} {fd : FuncData} {N ps : List Str} {k : Nat} {sp : Sp} (F : Fun K x qual st f fd) (S : FnScope N ps (defScope st)) (len : ∀ vs H Q E, sp vs H Q E → vs.length = ps.length)
    (hbody : ∀ (cdv : Value) (A : Around) (outer : List Env) (s : Shared) (H : Hp) (vs : List V) (Q : VK) (E : XK), Room k (A.deeper (envOfC qual (defScope st) s.heap.objs.size f cdv)) → sp vs H Q E →
      ∃ t, PSs (cxOf CX0 P w K mg base N qual (defScope st) f cdv A outer s H E).nox (defBody st) t ∧ t { nx := fun _ H' => Q .non H', rt := Q } (start N vs) H) : FnOk P w K mg base CX0 (k + 1) f fd ps sp := by
  obtain ⟨oc, od, kV, doc, pm, an, cdv, ct, osl, rfl, lk, hcd⟩ := F.ex
  refine fn_of lk hcd S len fun A outer s H vs Q E hr hsp => ?_
  obtain ⟨t, h, q⟩ := hbody cdv A outer s H vs Q E hr hsp
  exact ⟨t, h.nox, q⟩
/-- how its arguments bind (no defaults): h is «fun _ _ _ _ _ _ us hl => match us, hl with | [_, _], _ => rfl», one _ a parameter -/
theorem Fun.binds {x qual : Str} {st : Stmt} {f : Addr} {fd : FuncData} {ps : List Str} (F : Fun K x qual st f fd)
    (h : ∀ (kV doc pm : Value) (an : Option Addr) (cdv ct : Value) (us : List Value), us.length = ps.length → bindArgs (PySem.W.fnOf x qual (defArgs st) (defBody st) (defScope st) .none kV doc pm an cdv ct) ⟨us, []⟩ = pure (ps.zip us)) : Binds K fd ps [] := by
  obtain ⟨oc, od, kV, doc, pm, an, cdv, ct, osl, rfl, lk, hcd⟩ := F.ex
  exact .all (h kV doc pm an cdv ct)
theorem fun_mk {x qual : Str} {st : Stmt} {f : Addr} {oc : Value} {od an : Option Addr} {osl : Array (Option Value)} {kV doc pm cdv ct : Value} (l : K.lookup f = some ⟨oc, od, .func (PySem.W.fnOf x qual (defArgs st) (defBody st) (defScope st) .none kV doc pm an cdv ct), osl⟩)
    (c : PySem.W.codeIn K cdv qual = true) (k : PySem.W.keepIn K (.ref f) = true) : Fun K x qual st f (PySem.W.fnOf x qual (defArgs st) (defBody st) (defScope st) .none kV doc pm an cdv ct) := ⟨⟨oc, od, kV, doc, pm, an, cdv, ct, osl, rfl, l, c⟩, k⟩
end
theorem small1000 {n : Nat} (h : n ≤ 1000) : n < sizeLine := Nat.lt_of_le_of_lt h (by decide)

section
variable {X : Cx}
theorem pv (i : Nat) {x : Str} {pos : Pos} (hN : X.N[i]? = some x := by rfl) (hv : Vis X.env.scope x := by first | exact Or.inl rfl | exact Or.inr (Or.inl rfl) | exact Or.inr (Or.inr rfl)) (hd : (x == ("__debug__" : Str)) = false := by decide)
    (hcd : (x == ("__classdict__" : Str)) = false := by decide) : PE X (.Name x pos) (tVar i) := pe_var hN hv hd hcd
end

theorem iteF {A B : Prop} (h : B) : if false = true then A else B := by
  rw [if_neg Bool.false_ne_true]
  exact h
theorem iteT {A B : Prop} (h : A) : if true = true then A else B := by
  rw [if_pos rfl]
  exact h
theorem iteNS {c A B : Prop} [Decidable c] (hc : c) (h : B) : if (!decide c) = true then A else B := by
  rw [decide_eq_true hc]
  exact iteF h

/-- all that was tracked is as it was -/
def Same (H H' : Hp) : Prop := ∀ b o, H b = some o → H' b = some o
theorem Same.refl (H : Hp) : Same H H := fun _ _ h => h
theorem Same.trans {H H1 H2 : Hp} (a : Same H H1) (b : Same H1 H2) : Same H H2 := fun c o h => b c o (a c o h)
theorem Same.free {H H' : Hp} (e : Same H H') {l : Addr} (h : H' l = Option.none) : H l = Option.none := by
  cases q : H l with
  | none => rfl
  | some o =>
    rw [e l o q] at h
    cases h
theorem Same.seq {K : PySem.W.Frag} {H H' : Hp} {a : Addr} {xs : List V} (e : Same H H') (h : SqL K H a xs) : SqL K H' a xs := by
  rcases h with (h | ⟨o, h⟩) | h
  · exact .inl (.inl (e _ _ h))
  · exact .inl (.inr ⟨o, e _ _ h⟩)
  · exact .inr h

end L2

set_option Elab.async false
set_option linter.all false
set_option maxRecDepth 100000
set_option maxHeartbeats 4000000
namespace L2
open PySem PySem.Spec PyProof.Rows

def Bt (k : Nat) (x : Int) : Prop := x.natAbs < 2 ^ k
theorem Bt.bits {k : Nat} {x : Int} (h : Bt k x) : Builtin.Int.intBits x ≤ k := PySem.intBits_le_iff.mpr h
theorem Bt.mono {k m : Nat} {x : Int} (h : Bt k x) (l : k ≤ m) : Bt m x := Nat.lt_of_lt_of_le h (Nat.pow_le_pow_right (by decide) l)
theorem Bt.le {k : Nat} {x y : Int} (h : Bt k y) (l : x.natAbs ≤ y.natAbs) : Bt k x := Nat.lt_of_le_of_lt l h
def CMulB (i j : Int) : Prop := ∃ n m : Nat, Bt n i ∧ Bt m j ∧ n + m ≤ 134217728
theorem CMulB.ok {i j : Int} (h : CMulB i j) : IntMulOk i j := by
  obtain ⟨n, m, h1, h2, h3⟩ := h
  have a := h1.bits
  have b := h2.bits
  have hs : ((Builtin.Int.intBits i + Builtin.Int.intBits j : Nat) : Int) ≤ 2 ^ 27 := by
    have e : (2 : Int) ^ 27 = 134217728 := by decide
    rw [e]; omega
  have hb : Builtin.Int.intTooBig ((Builtin.Int.intBits i + Builtin.Int.intBits j : Nat) : Int) = false := decide_eq_false (Int.not_lt.mpr hs)
  unfold IntMulOk
  first
    | (rw [show (((Builtin.Int.intBits i : Nat) : Int) + ((Builtin.Int.intBits j : Nat) : Int)) = ((Builtin.Int.intBits i + Builtin.Int.intBits j : Nat) : Int) by omega, hb]; simp)
    | (rw [hb]; simp)
    | (intro z; simp only [Bool.and_eq_true] at z; simp_all)
section
variable {X : Cx} {a b c : Expr} {ta tb tc : TE} {pos : Pos}
theorem op_mulB : OpR X (binaryOp .Mult) (rI CMulB fun i j => .int (i * j)) := opI fun _ _ _ _ _ _ _ hc q => mul_int q hc.ok
theorem log2_lt9000 {j : Int} (h : Bt 9000 j) : j.natAbs.log2 < 9000 := by
  by_cases h0 : j.natAbs = 0
  · rw [h0]; decide +kernel
  · exact (Nat.log2_lt h0).mpr h
def CDivB (_ j : Int) : Prop := 0 < j ∧ Bt 9000 j
def CDivF (_ j : Int) : Prop := j ≠ 0 ∧ Bt 9000 j
theorem op_fdivB : OpR X (binaryOp .FloorDiv) (rI CDivB fun i j => .int (i / j)) := opI fun i j _ _ _ _ _ hc q => by
  have h1 : (0 : Int) < j := hc.1
  exact floordiv_int (by omega) (by rw [Int.fdiv_eq_ediv_of_nonneg i (by omega)]; exact q) (.inl (PyProof.noPylong_of_log2 (log2_lt9000 hc.2)))
theorem op_fdivF : OpR X (binaryOp .FloorDiv) (rI CDivF fun i j => .int (i.fdiv j)) := opI fun i j _ _ _ _ _ hc q =>
  floordiv_int hc.1 q (.inl (PyProof.noPylong_of_log2 (log2_lt9000 hc.2)))
def CShl (i j : Int) : Prop := 0 ≤ j ∧ ∃ n : Nat, Bt n i ∧ (n : Int) + j ≤ 134217728
theorem op_shlB : OpR X (binaryOp .LShift) (rI CShl fun i j => .int (i * 2 ^ j.toNat)) := opI fun i j _ _ _ _ _ hc q => by
  obtain ⟨h0, n, hn, h1⟩ := hc
  have := hn.bits
  refine lshift_int h0 ?_ q
  have e : (2 : Int) ^ 27 = 134217728 := by decide
  rw [e]; omega

def rIsi (K : PySem.W.Frag) : List V → Hp → VK → Prop := fun xs H Q => ∃ x c t b, xs = [x, .ty c] ∧ TyOf K H x t ∧ PySem.W.kitOne K t (.type c) = some b ∧ Q (.bl b) H
theorem call_isi : CallR X (.builtin "isinstance") (rIsi X.K) := by
  intro pins s σ H xs us Q I r h
  obtain ⟨x, c, t, b, rfl, ty, e, q⟩ := h
  obtain ⟨u, w', rfl, r1, r2⟩ := vals2 r
  cases (show w' = Value.type c from r2)
  exact isinst_ok I r1 ty e fun tk => ⟨.bl b, H, I.tok tk, rfl, q⟩

def eqVs : List V → List V → Bool
  | [], [] => true
  | x :: xs, y :: ys => eqV x y && eqVs xs ys
  | _, _ => false
theorem eqVs_range : ∀ {xs ys : List V} {us ws : List Value}, Vals xs us → Vals ys ws → xs.all flatV = true → ys.all flatV = true →
    ∃ e : Nat → Bool, (∀ (A : Around) (s : Shared) (j : Nat) (h1 : j < us.toArray.size) (h2 : j < ws.toArray.size), SeqAt.EqAt A s us.toArray[j] ws.toArray[j] (e j)) ∧
      ((List.range (min us.toArray.size ws.toArray.size)).all e && us.toArray.size == ws.toArray.size) = eqVs xs ys
  | [], [], _, _, .nil, .nil, _, _ => ⟨fun _ => true, fun _ _ j h1 _ => absurd h1 (by simp), rfl⟩
  | [], y :: ys, _, _, .nil, .cons _ _, _, _ => ⟨fun _ => true, fun _ _ j h1 _ => absurd h1 (by simp), by simp [eqVs]⟩
  | x :: xs, [], _, _, .cons _ _, .nil, _, _ => ⟨fun _ => true, fun _ _ j _ h2 => absurd h2 (by simp), by simp [eqVs]⟩
  | x :: xs, y :: ys, u :: us, w :: ws, .cons r t, .cons r' t', f, f' => by
    rw [List.all_cons, Bool.and_eq_true] at f f'
    obtain ⟨e, h1, h2⟩ := eqVs_range t t' f.2 f'.2
    refine ⟨fun j => match j with | 0 => eqV x y | j + 1 => e j, ?_, ?_⟩
    · intro A s j k1 k2
      cases j with
      | zero => simpa using eqAt_V r r' f.1 f'.1
      | succ j =>
        have k := h1 A s j (by simpa using k1) (by simpa using k2)
        simp only [List.getElem_toArray, List.getElem_cons_succ] at k ⊢
        exact k
    · show _ = (eqV x y && eqVs xs ys)
      rw [← h2]
      have e1 : min (u :: us).toArray.size (w :: ws).toArray.size = min us.toArray.size ws.toArray.size + 1 := by simp
      rw [e1, List.range_succ_eq_map, List.all_cons, List.all_map, Bool.and_assoc]
      congr 2
      simp
structure Cal (P : Program) (w : World) (K : PySem.W.Frag) (mg : Str → Option Value) (base : Heap) (k : Nat) (x : Str) (ps : List Str) (sp : Sp) : Prop where
  ex : ∃ (f : Addr) (fd : FuncData), FnOk P w K mg base CX0 k f fd ps sp ∧ Binds K fd ps [] ∧ PySem.W.keepIn K (.ref f) = true ∧ mg x = some (.ref f)
theorem pe_cal {k : Nat} {x : Str} {ps : List Str} {sp : Sp} {e : Expr} {es : List Expr} {t : TA} {p : Pos} (C : Cal X.prog X.w X.K X.mg X.base k x ps sp) (hr : Room k X.A) (hg : Gl X x) (ha : PA X (e :: es) t)
    (hdb : (x == ("__debug__" : Str)) = false := by decide) (he : starEach (e :: es) X.env = (false, eval e X.env) :: starEach es X.env := by rfl) (hpl : (backTo pos (starEach es X.env)).any (·.1) = false := by rfl) :
    PE X (.Call (.Name x p) (e :: es) [] pos) (tCall sp [] E0 t) := by
  obtain ⟨f, fd, F, b, kp, m⟩ := C.ex
  exact pe_call F hr hg m kp b .nil pass0 ha hdb he hpl

def tCut (t : TS) : TS := fun D σ H => ∃ J : St → Hp → Prop, t { D with nx := J } σ H ∧ ∀ σ' H', J σ' H' → D.nx σ' H'
theorem ps_cut {st : Stmt} {t : TS} (h : PS X st t) : PS X st (tCut t) := by
  intro pins s σ H D I hw
  obtain ⟨J, h1, h2⟩ := hw
  refine thn (h pins s σ H { D with nx := J } I h1) fun f s1 q => ?_
  cases f with
  | next =>
    obtain ⟨σ', H', I', q⟩ := q
    exact ⟨σ', H', I', h2 _ _ q⟩
  | ret v => exact q
  | brk => exact q
  | cont => exact q
theorem rd_cut {t : TS} {D : Ends} {σ : St} {H : Hp} (J : St → Hp → Prop) (h1 : t { D with nx := J } σ H) (h2 : ∀ σ' H', J σ' H' → D.nx σ' H') : tCut t D σ H := ⟨J, h1, h2⟩
theorem rd_var {i : Nat} {σ : St} {H : Hp} {Q : VK} {v : V} (e : σ[i]? = some (some v)) (h : Q v H) : tVar i σ H Q := ⟨v, e, h⟩
theorem rd_c {v : V} {σ : St} {H : Hp} {Q : VK} (h : Q v H) : tC v σ H Q := h
theorem rd_op {r : R2} {σ : St} {H : Hp} {Q : VK} (h : ta σ H fun x H1 => tb σ H1 fun y H2 => r x y H2 Q) : tOp r ta tb σ H Q := h
theorem rd_un {r : V → Hp → VK → Prop} {σ : St} {H : Hp} {Q : VK} (h : ta σ H fun x H1 => r x H1 Q) : tUn r ta σ H Q := h
theorem rd_i0 {g : Int → Int → V} {i j : Int} {H : Hp} {Q : VK} (h : Q (g i j) H) : rI0 g (.int i) (.int j) H Q := ⟨i, j, rfl, rfl, h⟩
theorem rd_i {C : Int → Int → Prop} {g : Int → Int → V} {i j : Int} {H : Hp} {Q : VK} (c : C i j) (h : Q (g i j) H) : rI C g (.int i) (.int j) H Q := ⟨i, j, rfl, rfl, c, h⟩
theorem rd_u {g : Int → V} {i : Int} {H : Hp} {Q : VK} (h : Q (g i) H) : rU g (.int i) H Q := ⟨i, rfl, h⟩
theorem rd_eq {x y : V} {H : Hp} {Q : VK} (s : scal x y = true) (h : Q (.bl (decide (x = y))) H) : rEq x y H Q := ⟨s, h⟩
theorem rd_ne {x y : V} {H : Hp} {Q : VK} (s : scal x y = true) (h : Q (.bl (!decide (x = y))) H) : rNe x y H Q := ⟨s, h⟩
theorem rd_test {t : TE} {σ : St} {H : Hp} {Q : Bool → Hp → Prop} (h : t σ H fun x H' => ∃ k, x = .bl k ∧ Q k H') : tTest t σ H Q := h
theorem rd_b {t : TE} {σ : St} {H : Hp} {Q : Bool → Hp → Prop} (h : t σ H fun x H' => ∃ k, x = .bl k ∧ Q k H') : L2.tB t σ H Q := h
theorem rd_bl {k : Bool} {Q : Bool → Prop} (h : Q k) : ∃ k', V.bl k = .bl k' ∧ Q k' := ⟨k, rfl, h⟩
theorem rel_ty (n : String) : RelV (.ty n) (.type n) := rfl
theorem rel_int (i : Int) (t : Tok) : RelV (.int i) (.int i t) := ⟨t, rfl⟩
theorem rd_not {t : TT} {σ : St} {H : Hp} {Q : Bool → Hp → Prop} (h : t σ H fun c H1 => Q (!c) H1) : tNot t σ H Q := h
theorem rd_and {t u : TT} {σ : St} {H : Hp} {Q : Bool → Hp → Prop} (h : t σ H fun c H1 => if c = true then u σ H1 Q else Q false H1) : tAnd t u σ H Q := h
theorem rd_or {t u : TT} {σ : St} {H : Hp} {Q : Bool → Hp → Prop} (h : t σ H fun c H1 => if c = true then Q true H1 else u σ H1 Q) : tOr t u σ H Q := h
theorem rd_andV {σ : St} {H : Hp} {Q : VK} (h : ta σ H fun x H1 => ∃ c, x = .bl c ∧ if c = true then tb σ H1 Q else Q (.bl false) H1) : tAndV ta tb σ H Q := h
theorem rd_orV {σ : St} {H : Hp} {Q : VK} (h : ta σ H fun x H1 => ∃ c, x = .bl c ∧ if c = true then Q (.bl true) H1 else tb σ H1 Q) : tOrV ta tb σ H Q := h
theorem rd_notV {σ : St} {H : Hp} {Q : VK} (h : ta σ H fun x H1 => ∃ c, x = .bl c ∧ Q (.bl (!c)) H1) : tNotV ta σ H Q := h
theorem rd_chain {r r' : R2} {σ : St} {H : Hp} {Q : VK} (h : ta σ H fun x H1 => tb σ H1 fun y H2 => r x y H2 fun z H3 => ∃ k, z = .bl k ∧ (if k = true then tc σ H3 fun w' H4 => r' y w' H4 Q else Q (.bl false) H3)) : tChain r r' ta tb tc σ H Q := h
theorem rd_call {sp : Sp} {dvs : List V} {E : XK} {t : TA} {σ : St} {H : Hp} {Q : VK} (h : t σ H fun vs H1 => sp (vs ++ dvs) H1 Q E) : tCall sp dvs E t σ H Q := h
theorem rd_cb {r : List V → Hp → VK → Prop} {t : TA} {σ : St} {H : Hp} {Q : VK} (h : t σ H fun vs H1 => r vs H1 Q) : tCB r t σ H Q := h
theorem rd_nil {σ : St} {H : Hp} {Q : List V → Hp → Prop} (h : Q [] H) : tNil σ H Q := h
theorem rd_cons {tr : TA} {σ : St} {H : Hp} {Q : List V → Hp → Prop} (h : ta σ H fun x H1 => tr σ H1 fun xs H2 => Q (x :: xs) H2) : tCons ta tr σ H Q := h
theorem rd_tup {t : TA} {σ : St} {H : Hp} {Q : VK} (h : t σ H fun xs H1 => xs.length ≤ sizeLine ∧ ∀ p, H1 p = none → Q (.ref p) (upd H1 p (.tup xs))) : tTup t σ H Q := h
theorem rd_lst {t : TA} {σ : St} {H : Hp} {Q : VK} (h : t σ H fun xs H1 => xs.length ≤ sizeLine ∧ ∀ p, H1 p = none → Q (.ref p) (upd H1 p (.lst xs))) : tLst t σ H Q := h
theorem rd_seq {t u : TS} {D : Ends} {σ : St} {H : Hp} (h : t { D with nx := u D } σ H) : tSeq t u D σ H := h
theorem rd_next {D : Ends} {σ : St} {H : Hp} (h : D.nx σ H) : tNext D σ H := h
theorem rd_ret {te : TE} {D : Ends} {σ : St} {H : Hp} (h : te σ H D.rt) : tRet te D σ H := h
theorem rd_ifS {c : TT} {t u : TS} {D : Ends} {σ : St} {H : Hp} (h : c σ H fun b H1 => if b = true then t D σ H1 else u D σ H1) : tIfS c t u D σ H := h
theorem rd_asg {te : TE} {g : TG} {D : Ends} {σ : St} {H : Hp} (h : te σ H fun x H1 => g x σ H1 D.nx) : tAsg te g D σ H := h
theorem rd_drop {te : TE} {D : Ends} {σ : St} {H : Hp} (h : te σ H fun _ H1 => D.nx σ H1) : tDrop te D σ H := h
theorem rd_gname {i : Nat} {v : V} {σ : St} {H : Hp} {Q : St → Hp → Prop} (h : Q (σ.set i (some v)) H) : gName i v σ H Q := h
theorem rd_gcons {t : TG} {u : TGs} {v : V} {r : List V} {σ : St} {H : Hp} {Q : St → Hp → Prop} (h : t v σ H fun σ' H' => u r σ' H' Q) : gCons t u (v :: r) σ H Q := ⟨v, r, rfl, h⟩
theorem rd_gnil {σ : St} {H : Hp} {Q : St → Hp → Prop} (h : Q σ H) : gNil [] σ H Q := ⟨rfl, h⟩
theorem rd_ixT {K : PySem.W.Frag} {p : Addr} {xs : List V} {i : Int} {v : V} {H : Hp} {Q : VK} (hs : SqT K H p xs) (e : atI xs i = some v) (h : Q v H) : rIxT K (.ref p) (.int i) H Q := ⟨p, xs, i, v, rfl, rfl, hs, e, h⟩
theorem rd_ixL {K : PySem.W.Frag} {p : Addr} {xs : List V} {i : Int} {v : V} {H : Hp} {Q : VK} (hs : SqL K H p xs) (e : atI xs i = some v) (h : Q v H) : rIxL K (.ref p) (.int i) H Q := ⟨p, xs, i, v, rfl, rfl, hs, e, h⟩
theorem rd_isi {K : PySem.W.Frag} {x : V} {c : String} {t : Value} {b : Bool} {H : Hp} {Q : VK} (ty : TyOf K H x t) (e : PySem.W.kitOne K t (.type c) = some b) (h : Q (.bl b) H) : rIsi K [x, .ty c] H Q := ⟨x, c, t, b, rfl, ty, e, h⟩
theorem iteD {c A B : Prop} [Decidable c] (hc : c) (h : A) : if decide c = true then A else B := by
  rw [decide_eq_true hc]; exact iteT h
theorem iteN {c A B : Prop} [Decidable c] (hc : ¬ c) (h : B) : if decide c = true then A else B := by
  rw [decide_eq_false hc]; exact iteF h
theorem iteNN {c A B : Prop} [Decidable c] (hc : ¬ c) (h : A) : if (!decide c) = true then A else B := by
  rw [decide_eq_false hc]; exact iteT h
theorem ite2d {c A B : Prop} [Decidable c] (h1 : c → A) (h2 : ¬ c → B) : if decide c = true then A else B := by
  by_cases h : c
  · exact iteD h (h1 h)
  · exact iteN h (h2 h)
theorem Same.tup {K : PySem.W.Frag} {H H' : Hp} {a : Addr} {xs : List V} (e : Same H H') (h : SqT K H a xs) : SqT K H' a xs := by
  rcases h with (h | ⟨o, h⟩) | h
  · exact .inl (.inl (e _ _ h))
  · exact .inl (.inr ⟨o, e _ _ h⟩)
  · exact .inr h
theorem same_new {H : Hp} {p : Addr} (h : H p = none) (o : HO) : Same H (upd H p o) := fun b u q => by rw [upd_ne (ne_of_none q h)]; exact q
theorem cdiv_small {i j : Int} (h0 : 0 < j) (h1 : j < 18446744073709551616) : CDivB i j := ⟨h0, Bt.mono (k := 64) (by unfold Bt; omega) (by decide)⟩
theorem pow2_pos (k : Nat) : (0 : Int) < 1 * 2 ^ k := by
  have e : (1 : Int) * 2 ^ k = ((2 ^ k : Nat) : Int) := by rw [Int.natCast_pow]; simp
  rw [e]
  have := Nat.two_pow_pos k
  omega
theorem bitAnd_nat (x y : Nat) : Builtin.bitAnd (x : Int) (y : Int) = ((x &&& y : Nat) : Int) := PyProof.Rows.bitAnd_pp (Int.natCast_nonneg x) (Int.natCast_nonneg y)
theorem bitNot_neg (x : Nat) : decide ((0 : Int) ≤ Builtin.bitNot (x : Int)) = false := decide_eq_false (by unfold Builtin.bitNot; omega)
theorem bitOr_nat (x y : Nat) : Builtin.bitOr (x : Int) (y : Int) = ((x ||| y : Nat) : Int) := by
  have e : ∀ z : Int, Builtin.bitNot (Builtin.bitNot z) = z := fun z => by unfold Builtin.bitNot; omega
  unfold Builtin.bitOr Builtin.bitAnd
  rw [bitNot_neg, bitNot_neg]
  dsimp only
  rw [e, e, e, Int.toNat_natCast, Int.toNat_natCast]
theorem bitXor_nat (x y : Nat) : Builtin.bitXor (x : Int) (y : Int) = ((x ^^^ y : Nat) : Int) := by
  show Builtin.bitOr (x : Int) (y : Int) - Builtin.bitAnd (x : Int) (y : Int) = _
  rw [bitOr_nat, bitAnd_nat]
  have h : x ||| y = (x ^^^ y) + (x &&& y) := by
    have a : (x ^^^ y) &&& (x &&& y) = 0 := by
      refine Nat.eq_of_testBit_eq fun i => ?_
      rw [Nat.testBit_and, Nat.testBit_xor, Nat.testBit_and, Nat.zero_testBit]
      cases x.testBit i <;> cases y.testBit i <;> rfl
    have b : x ||| y = (x ^^^ y) ||| (x &&& y) := by
      refine Nat.eq_of_testBit_eq fun i => ?_
      rw [Nat.testBit_or, Nat.testBit_or, Nat.testBit_xor, Nat.testBit_and]
      cases x.testBit i <;> cases y.testBit i <;> rfl
    have c := PyProof.Rows.bitOr_and ((x ^^^ y : Nat) : Int) ((x &&& y : Nat) : Int)
    rw [bitOr_nat, bitAnd_nat, a, ← b] at c
    omega
  omega
end
end L2

namespace Att
open PySem PySem.W PySem.Calls PyProof.Rows
theorem weight_item : ∀ {ns : List Int} {n : Int}, n ∈ ns → Builtin.Int.intBits n ≤ WData.weightAll (ns.map WData.int)
  | m :: ns, n, h => by
    rw [List.map_cons]
    show _ ≤ WData.weight (.int m) + 1 + WData.weightAll (ns.map WData.int)
    rcases List.mem_cons.mp h with rfl | h
    · have e : WData.weight (.int n) = Builtin.Int.intBits n := by first | rfl | (unfold Builtin.Int.intBits; rfl) | simp [WData.weight, Builtin.Int.intBits]
      omega
    · have := weight_item h
      omega
theorem bits_of_lay {ns : List Int} (h : WData.layableAll [WData.list (ns.map WData.int)] = true) : ∀ n ∈ ns, L2.Bt 1048576 n := fun n hn => by
  have h1 : WData.layable (WData.list (ns.map WData.int)) = true := (Bool.and_eq_true_iff.mp h).1
  have h2 : WData.weight (WData.list (ns.map WData.int)) ≤ 2 ^ 20 := of_decide_eq_true (Bool.and_eq_true_iff.mp h1).2
  have h3 := weight_item hn
  have e : WData.weight (WData.list (ns.map WData.int)) = WData.weightAll (ns.map WData.int) := by first | rfl | simp [WData.weight]
  refine PySem.intBits_le_iff.mp ?_
  omega
theorem attach_callB {l : OpenLaw} {n : Nat} {q : Program} {loose : List Str} {XP : (Str → Option Value) → Heap → Prop} {YP : World → Heap → Prop} {d : DefRec}
    (hn : l.most = some n) (hdf : d.params.defaults = [])
    (call : ∀ (w : World) (s₀ s₁ : Shared) (mg mb : Str → Option Value) (fa : Addr) (o : Obj) (pm cd doc : Value) (a : Addr) (vs : List Value) (ns : List Int),
      Ground q loose [] XP w s₀ mg mb s₁.heap → YP w s₁.heap →
      s₁.heap.get? fa = some o → o.data = .func (docDef d.name d.params d.body d.scope pm cd doc) → s₁.heap.CodeRec cd d.name → mg d.name = some (.ref fa) →
      s₁.heap.get? a = some { cls := .type "list", data := .seq vs.toArray } → IntsAre vs ns → ns.length ≤ n → (∀ n ∈ ns, L2.Bt 1048576 n) → s₁.gens = #[] →
      codeAny (model l.prog w) callerA (.call (.ref fa) ⟨[.ref a], []⟩) (fun r s' => r = .ok (.ret (.bool true)) ∧ OldK s₁.heap s'.heap ∧ s'.os = s₁.os ∧ AllBare s'.gens) s₁) :
    WalkO q loose XP YP l.row.toRowW d [] (fun f vs => PySem.call f vs) := by
  intro w s₀ s₁ mg mb G Y fa o pm cd doc dV kV ho hd hcd hD hmg hg args vals as hpre hlay hrd hwl hlo
  obtain rfl : dV = .none := Dflts.none hD hdf
  obtain rfl : kV = .none := Dflts.noKw hD
  obtain ⟨a, vs, ns, rfl, rfl, hobj, hints, hlen⟩ := script_of hn hpre hwl
  refine enter_call (codeAny_mono (call w s₀ s₁ mg mb fa o pm cd doc a vs ns G Y ho (fd_plain hd) hcd hmg hobj hints hlen (bits_of_lay hlay) hg) fun r s' hq => ?_)
  obtain ⟨rfl, h2, h3, h4⟩ := hq
  exact ⟨.inl ⟨.bool true, .bool true, [], rfl, fun _ => rfl, .bool true, post_true l _, fun _ => ⟨List.Pairwise.nil, fun _ hm => (nomatch hm)⟩⟩, h2, h3, h4⟩
end Att
namespace L2
open PySem PySem.Spec PyProof.Rows
/-- law's promise: a list of at most 63 ints of at most 2^20 bits is handed in, True comes out -/
def spLaw (K : PySem.W.Frag) : Sp := fun vs H Q _ => ∃ (a : Addr) (ns : List Int), vs = [.ref a] ∧ SqL K H a (ns.map V.int) ∧ ns.length ≤ 63 ∧ (∀ n ∈ ns, Bt 1048576 n) ∧ ∀ H', Q (.bl true) H'
theorem walk_ofB {l : PySem.W.OpenLaw} {k : Nat} {q : Program} {loose : List Str} {XP : (Str → Option Value) → Heap → Prop} {YP : World → Heap → Prop} {d : DefRec} {K : Params → PySem.W.Frag}
    (hn : l.most = some 63) (hdf : d.params.defaults = []) (hr : Room k callerA)
    (hY : ∀ (w : World) (h : Heap), YP w h → (K w.params).In h)
    (F : ∀ (w : World) (mg : Str → Option Value) (fa : Addr) (h : Heap), (K w.params).In h → h.Ns mainGlobals mg → mg d.name = some (.ref fa) →
      ∃ fd : FuncData, (∀ (s : Shared) (u : Value), BindsTo s fd ⟨[u], []⟩ [("_law_script", u)]) ∧
        ∀ base : Heap, (K w.params).In base → base.Ns mainGlobals mg → FnOk l.prog w (K w.params) mg base CX0 k fa fd ["_law_script"] (spLaw (K w.params))) :
    PySem.W.WalkO q loose XP YP l.row.toRowW d [] (fun f vs => PySem.call f vs) := by
  refine Att.attach_callB hn hdf fun w s₀ s₁ mg mb fa o pm cd doc a vs ns G Y ho hd hcd hmg hobj hints hlen hbits hg => ?_
  have KX := hY w _ Y
  obtain ⟨fd, hb, hF⟩ := F w mg fa _ KX G.T.g hmg
  exact law_call KX G.T.g G.T.b G.T.builtins G.T.nolimit hg hobj hints (Nat.le_trans hlen (by decide)) hr hF hb (fun H hO hS => ⟨a, ns, rfl, hS, hlen, hbits, fun _ => rfl⟩) fun H e s' => fun z => z
end L2

set_option Elab.async false
set_option linter.all false
set_option maxRecDepth 100000
set_option maxHeartbeats 4000000
namespace L2
open PySem PySem.Spec PyProof.Rows
/-- the context of a comprehension's block: its own name first, then the names around it -/
def compCx (X : Cx) (M : List Str) (x : Str) (scope : Scope) (cl : List (Str × Addr)) (C : Addr) (s₀ : Shared) (H₀ : Hp) (fp : List Addr) : Cx :=
  { X with N := x :: M, s₀ := s₀, H₀ := H₀, env := compEnvC scope cl C X.env, outer := X.stack, ex := fp, fn := fun _ => false, pn := [], xe := fun _ _ => False }
structure CompOk (X : Cx) (M : List Str) (x : Str) (scope : Scope) (cl : List (Str × Addr)) : Prop where
  clos : closureFor scope X.env = pure cl
  cell : ∀ y ∈ scope.names, y.2 ≠ .cell
  kind : scope.kind = .function
  names : ∀ y ∈ scope.names, y.2 = .local → scope.names.lookup y.1 = some .local
  xl : scope.names.lookup x = some .local
  nd : (x :: M).Nodup
  len : M.length = X.N.length
  sub : ∀ y c, cl.lookup y = some c → X.env.cells.lookup y = some c
  has : ∀ y, ((relabel scope X.env).names.lookup y = some .cell ∨ (relabel scope X.env).names.lookup y = some .free) → ∃ c, cl.lookup y = some c
  vis : ∀ (i : Nat) (y : Str), M[i]? = some y → Vis (relabel scope X.env) y → X.N[i]? = some y ∧ ((relabel scope X.env).names.lookup y = some .cell ∨ (relabel scope X.env).names.lookup y = some .free) ∧ (X.env.scope.names.lookup y = some .cell ∨ X.env.scope.names.lookup y = some .free)
/-- the tests of a clause -/
def PIfs (X : Cx) (ifs : List Expr) (t : TT) : Prop :=
  ∀ (pins : List (Addr × Obj)) (s : Shared) (σ : St) (H : Hp) (Q : Bool → Hp → Prop), Inv X pins σ H s → t σ H Q →
    wpAny (model X.prog X.w) X.A (forIn ifs true fun c r => if r = true then do let ok ← isTrue c X.env (eval c X.env); pure (ForInStep.yield ok) else pure (ForInStep.yield r)) (TP X pins σ Q) X.xe s
def tTrue : TT := fun _ H Q => Q true H
section
variable {X : Cx}
theorem pifs_nil : PIfs X [] tTrue := fun pins s σ H Q I h => by
  rw [List.forIn_nil]
  exact wpAny_pure ⟨H, I, h⟩
theorem pifs_one {c : Expr} {t : TT} (hc : PT X c t) : PIfs X [c] t := fun pins s σ H Q I h => by
  rw [List.forIn_cons]
  refine wpAny_bind ?_
  rw [if_pos rfl]
  refine wpAny_bind (thn (hc pins s σ H Q I h) fun b s1 q => wpAny_pure ?_)
  dsimp only
  rw [List.forIn_nil]
  exact wpAny_pure q
/-- W: the invariant by the turn, a measure, the items so far, the heap (in which the list stands at D) -/
def tComp (wi : TI) (tt : TT) (te : TE) : TE := fun σ H Q => wi σ H fun J H1 => ∀ D, H1 D = none → ∃ W : Nat → Nat → List V → Hp → Prop, (∃ m, W 0 m [] (upd H1 D (.lst []))) ∧
  ∀ i m ys H2, W i m ys H2 → H2 D = some (.lst ys) ∧ ((J.stop i H2 ∧ Q (.ref D) H2) ∨ (J.go i H2 ∧ ys.length < sizeLine ∧ ∃ m', m' < m ∧ ∀ x H3, J.yld i H2 x H3 →
    tt (some x :: σ) H3 fun b H4 => if b = true then te (some x :: σ) H4 fun y H5 => H5 D = some (.lst ys) ∧ W (i + 1) m' (ys ++ [y]) (upd H5 D (.lst (ys ++ [y]))) else W (i + 1) m' ys H4))

theorem comp_ok {M : List Str} {pins : List (Addr × Obj)} {σ : St} {H : Hp} {s : Shared} {x : Str} {scope : Scope} {cl : List (Str × Addr)} {C : Addr} {fp : List Addr} (I : Inv X pins σ H s) (ok : CompOk X M x scope cl) (hC : s.heap.objs.size ≤ C)
    (hf : ∀ b ∈ fp, FpOk X pins H b) (hb : ∀ b ∈ fp, b < s.heap.objs.size) : (compCx X M x scope cl C s H fp).Ok where
  mod := I.ok.mod
  kind := ok.kind
  glob := I.ok.glob
  blt := I.ok.blt
  above := hC
  inj := fun y z c h1 h2 => I.ok.inj y z c (ok.sub y c h1) (ok.sub z c h2)
  has := ok.has
  cab := fun y c h => by cases h
  hd := I.ok.hd
  frames := I.ok.frames
  stk := .inl rfl
  exf := fun b h => ⟨Nat.ne_of_lt (Nat.lt_of_lt_of_le (hb b h) hC), fun y c e => (hf b h).2.2.2.2.1 y c (ok.sub y c e)⟩
  bs := I.bs
  bsz := Nat.le_trans I.ok.bsz I.sz
  noex := fun b o e h => by
    rcases (hf b h).2.2.2.1 with z | z
    · exact I.ok.noex b o e z
    · exact absurd (Nat.lt_of_lt_of_le (Heap.lt_size (I.ok.bs b o e).1) z) (Nat.lt_irrefl _)
  exfs := fun b h z => by
    rcases List.mem_cons.mp (I.stkSub b z) with e | e
    · exact (hf b h).2.1 e
    · exact (hf b h).2.2.1 e
  funs := I.stack
  frf := I.stkFree

def CompR (tt : TT) (te : TE) (σ : St) (Q : VK) : It → Hp → Prop := fun J H1 => ∀ D, H1 D = none → ∃ W : Nat → Nat → List V → Hp → Prop, (∃ m, W 0 m [] (upd H1 D (.lst []))) ∧
  ∀ i m ys H2, W i m ys H2 → H2 D = some (.lst ys) ∧ ((J.stop i H2 ∧ Q (.ref D) H2) ∨ (J.go i H2 ∧ ys.length < sizeLine ∧ ∃ m', m' < m ∧ ∀ x H3, J.yld i H2 x H3 →
    tt (some x :: σ) H3 fun b H4 => if b = true then te (some x :: σ) H4 fun y H5 => H5 D = some (.lst ys) ∧ W (i + 1) m' (ys ++ [y]) (upd H5 D (.lst (ys ++ [y]))) else W (i + 1) m' ys H4))
theorem comp_core {M : List Str} {elt iter : Expr} {x : Str} {px pos : Pos} {ifs : List Expr} {scope : Scope} {cl : List (Str × Addr)} {tt : TT} {te : TE} (hc : X.calm = true) (ok : CompOk X M x scope cl)
    (ht : ∀ C s₀ H₀ fp, PIfs (compCx X M x scope cl C s₀ H₀ fp) ifs tt) (he : ∀ C s₀ H₀ fp, PE (compCx X M x scope cl C s₀ H₀ fp) elt te)
    {pins : List (Addr × Obj)} {σ : St} {H2 : Hp} {s2 : Shared} {it : Addr} {fp : List Addr} {tn : Nat → Heap → Prop} {J : It} {Q : VK} (I2 : Inv X pins σ H2 s2) (T : Turn X.prog X.w X.K (.Name x px) J fp it tn) (st2 : tn 0 s2.heap) (f2 : ∀ b ∈ fp, FpOk X pins H2 b)
    (hW : CompR tt te σ Q J H2) (post : Value → Addr → Result → Shared → Prop)
    (fin : ∀ D C H3 s4, Inv X pins σ H3 s4 → (∃ m, s4.heap.Ns C m) → FpOk X pins H3 C → Q (.ref D) H3 → post (.ref D) C (.ok .next) s4) :
    wpAny (model X.prog X.w) X.A (newList []) (fun acc s₃ => wpAny (model X.prog X.w) X.A (newFunctionEnv scope X.env.globals cl [] X.env.qual none .none (some X.env)) (fun cenv s₄ =>
      codeAny (model X.prog X.w) X.A (.compStart (.ListComp elt [⟨.Name x px, iter, ifs, 0⟩] scope pos) 0 (.ref it) acc { cenv with scope := relabel scope X.env }) (post acc cenv.locals) s₄) X.xe s₃) X.xe s2 := by
  refine wpAny_newObj_type (wpAny_newFunctionEnv ok.cell (by intro y hy; simp at hy) (fun h₁ hns₁ hsb₁ => ?_) ok.kind)
  dsimp only at hns₁ hsb₁ ⊢
  generalize hH2 : s2.heap.push { cls := .type "list", dict := none, data := .seq ([] : List Value).toArray } = G2 at hns₁ hsb₁ ⊢
  have hC : G2.objs.size = s2.heap.objs.size + 1 := by rw [← hH2, Heap.size_push]
  have hDC : s2.heap.objs.size ≠ G2.objs.size := by rw [hC]; exact Nat.ne_of_lt (Nat.lt_succ_self _)
  have hCle : s2.heap.objs.size ≤ G2.objs.size := by rw [hC]; exact Nat.le_succ _
  have below : ∀ b, b < s2.heap.objs.size → b ≠ G2.objs.size ∧ b ≠ s2.heap.objs.size := fun b hb => ⟨by rw [hC]; exact Nat.ne_of_lt (Nat.lt_succ_of_lt hb), Nat.ne_of_lt hb⟩
  have old : ∀ b o, s2.heap.get? b = some o → h₁.get? b = some o := fun b o e => hsb₁.extBut b o (below b (Heap.lt_size e)).1 (Heap.get?_push_of_some _ (hH2 ▸ Heap.get?_push_of_some _ e))
  have hacc : h₁.get? s2.heap.objs.size = some { cls := .type "list", data := .seq ([] : List Value).toArray } := hsb₁.extBut _ _ hDC (Heap.get?_push_of_some _ (hH2 ▸ Heap.get?_push_size _ rfl))
  have fpb : ∀ b ∈ fp, b < s2.heap.objs.size := fun b hb => by
    obtain ⟨o, e, _⟩ := T.obj _ _ st2 b hb
    exact Heap.lt_size e
  have hD0 : H2 s2.heap.objs.size = none := I2.hok.fresh (Nat.le_refl _)
  have hC0 : H2 G2.objs.size = none := I2.hok.fresh hCle
  generalize hDD : s2.heap.objs.size = D at *
  generalize hCC : G2.objs.size = C at *
  obtain ⟨W, ⟨m0, w0⟩, turn⟩ := hW D hD0
  have okX : (compCx X M x scope cl C s2 H2 fp).Ok := comp_ok I2 ok (by rw [hDD]; exact hCle) f2 (by rw [hDD]; exact fpb)
  have lenN : (none :: σ : St).length = (compCx X M x scope cl C s2 H2 fp).N.length := by
    show (none :: σ).length = (x :: M).length
    rw [List.length_cons, List.length_cons, I2.len, ok.len]
  -- the values of the names around it, seen from within
  have locs : ∀ (h' : Heap) (m : Str → Option Value) (w' : Option V), (∀ y c, X.env.cells.lookup y = some c → ∀ v, s2.heap.IsCell c v → h'.IsCell c v) → w' = none →
      ∀ (i : Nat) (y : Str) (v : V), (x :: M)[i]? = some y → (w' :: σ : St)[i]? = some (some v) → Vis (relabel scope X.env) y → ∃ u, RelV v u ∧ Look (compEnvC scope cl C X.env) h' m y u := by
    intro h' m w' hcell hw i y v e1 e2 e3
    subst hw
    cases i with
    | zero => simp at e2
    | succ i =>
      have e0 : M[i]? = some y := by simpa using e1
      have e2' : σ[i]? = some (some v) := by simpa using e2
      obtain ⟨e1', k1, k2⟩ := ok.vis i y e0 e3
      obtain ⟨m2, _, hl⟩ := I2.loc
      obtain ⟨u, r, l⟩ := hl i y v e1' e2' (k2.elim (fun z => .inr (.inl z)) fun z => .inr (.inr z))
      obtain ⟨c', hc'⟩ := ok.has y k1
      rcases l with ⟨z, _⟩ | ⟨_, c, hcc, z⟩
      · have z' : X.env.scope.names.lookup y = some .local := z
        rcases k2 with q | q <;> (rw [q] at z'; cases z')
      · have q := ok.sub y c' hc'
        rw [hcc] at q
        cases q
        exact ⟨u, r, .inr ⟨k1, c', hc', hcell y c' hcc _ z⟩⟩
  have I0 : Inv (compCx X M x scope cl C s2 H2 fp) [] (none :: σ) (upd H2 D (.lst [])) { s2 with heap := h₁, toks := s2.toks + ([] : List (Str × Value)).length } := by
    refine ⟨okX, rfl, I2.bare, ?_, ⟨_, hns₁, locs h₁ _ none (fun y c e v z => ?_) rfl⟩, fun y c e => ?_, ?_, fun y c e => ?_, fun p hp => ?_, ?_, lenN⟩
    · exact Un.laid old (Nat.le_of_eq hDD) hD0
    · obtain ⟨o, ho, hd⟩ := z
      exact ⟨o, old c o ho, hd⟩
    · obtain ⟨v, o, ho, hd⟩ := I2.cell y c (ok.sub y c e)
      exact ⟨v, o, old c o ho, hd⟩
    · show upd H2 D (.lst []) C = none
      rw [upd_ne (Ne.symm hDC)]
      exact hC0
    · have hn := I2.freeC y c (ok.sub y c e)
      obtain ⟨v, o, ho, hd⟩ := I2.cell y c (ok.sub y c e)
      rw [upd_ne (fun z => by have := Heap.lt_size ho; rw [hDD, z] at this; exact Nat.lt_irrefl _ this)]
      exact hn
    · exact absurd hp (by show p ∉ ([] ++ [] : List (Addr × Obj)); simp)
    · refine I2.hok.laid old (Nat.le_of_eq hDD) ⟨Nat.zero_le _, [], _, .nil, hacc⟩
  have fpk : ∀ {H' : Hp}, (∀ b ∈ fp, H' b = none) → ∀ b ∈ fp, FpOk (compCx X M x scope cl C s2 H2 fp) [] H' b := fun hn b hb => by
    refine ⟨hn b hb, (below b (fpb b hb)).1, okX.exfs b hb, .inl hb, fun y c e => (f2 b hb).2.2.2.2.1 y c (ok.sub y c e), fun p hp => ?_⟩
    exact absurd hp (by show p ∉ ([] ++ [] : List (Addr × Obj)); simp)
  have loop : ∀ s₃ : Shared, s₃ = { s2 with heap := h₁, toks := s2.toks + ([] : List (Str × Value)).length } →
      codeAny (model X.prog X.w) X.A (.compLoop (.ListComp elt [⟨.Name x px, iter, ifs, 0⟩] scope pos) 0 (.ref it) (.ref D) (compEnvC scope cl C X.env))
        (post (.ref D) C) s₃ := by
    rintro s₃ rfl
    refine codeAny_compLoop_tests (fun n s' => ∃ i ys w' H', Inv (compCx X M x scope cl C s2 H2 fp) [] (w' :: σ) H' s' ∧ tn i s'.heap ∧ (∀ b ∈ fp, H' b = none) ∧ W i n ys H') ?_ m0
      ⟨0, [], none, _, I0, T.keep _ _ _ st2 (fun b _ o e => old b o e), fun b hb => by rw [upd_ne (below b (fpb b hb)).2]; exact (f2 b hb).1, w0⟩
    rintro n s3 ⟨i, ys, w3, H3, I3, st3, fr3, wt⟩
    obtain ⟨hD3, hh⟩ := turn i n ys H3 wt
    rcases hh with ⟨stop, q⟩ | ⟨go, hlen, m', hm, step⟩
    · refine thn (T.done (compCx X M x scope cl C s2 H2 fp) rfl rfl rfl hc i [] s3 (w3 :: σ) H3 _ I3 (fpk fr3) st3 stop) fun r s4 ⟨hr, I4⟩ => ?_
      subst hr
      obtain ⟨m4, hn4, _⟩ := id I4.loc
      have hC4 : H3 C = none := I4.free
      exact fin D C H3 s4 (I2.call' (ch := fp) I4.os I4.base I4.hok I4.bare fun b hb => ⟨(f2 b hb).2.2.2.1, (f2 b hb).2.1, (f2 b hb).2.2.2.2.1, (f2 b hb).2.2.2.2.2⟩) ⟨m4, hn4⟩ (I2.fpOk (by rw [hDD]; exact hCle) hC4) q
    · refine wpAny_mono (T.item (compCx X M x scope cl C s2 H2 fp) rfl rfl rfl hc i [] s3 (w3 :: σ) H3 (fun _ _ => False) I3 (fpk fr3) st3 go) (fun r s4 h4 => ?_) (fun _ _ z => z.elim)
      obtain ⟨u, hr, h4⟩ := h4
      subst hr
      refine (show wpAny (model X.prog X.w) X.A (letOwnedTupleGo (.Name x px) (.ref it) u >>= fun _ => assign (.Name x px) (compEnvC scope cl C X.env) u) _ _ _ from wpAny_bind (wpAny_mono h4 (fun _ s4 h4 => ?_) (fun _ _ z => z.elim)))
      obtain ⟨x', H5, I5, r5, y5, st5, fr5⟩ := h4
      have I5' := I5.pinned (fpk fr5) (T.obj _ _ st5)
      refine wpAny_assign_Name (store_ok (X := compCx X M x scope cl C s2 H2 fp) (i := 0) I5' ok.nd rfl (.inl (lookup_relabel_local ok.xl)) r5 (fun s6 I6 => ?_) (.inr (lookup_relabel_local ok.xl)))
      have I6' : Inv (compCx X M x scope cl C s2 H2 fp) ([] ++ pinsAt fp s4.heap) (some x' :: σ) H5 s6 := I6
      have back : ∀ {s7 : Shared} {H7 : Hp} {w7 : Option V}, Inv (compCx X M x scope cl C s2 H2 fp) ([] ++ pinsAt fp s4.heap) (w7 :: σ) H7 s7 → tn (i + 1) s7.heap ∧ (∀ b ∈ fp, H7 b = none) ∧ Inv (compCx X M x scope cl C s2 H2 fp) [] (w7 :: σ) H7 s7 := fun {s7 H7 w7} I7 => by
        refine ⟨T.keep _ _ _ st5 fun b hb o e => (I7.pin (b, o) (List.mem_append_right _ (List.mem_append_right _ (mem_pinsAt hb e)))).1, fun b hb => ?_, I7.unpinned⟩
        obtain ⟨o, e, d⟩ := T.obj _ _ st5 b hb
        exact (I7.pin (b, o) (List.mem_append_right _ (List.mem_append_right _ (mem_pinsAt hb e)))).2.1
      refine wpAny_mono (ht C s2 H2 fp _ s6 _ H5 _ I6' (step x' H5 y5)) (fun ok' s7 h7 => ?_) (fun _ _ z => z.elim)
      obtain ⟨H7, I7, q7⟩ := h7
      cases ok' with
      | false =>
        have q7' : W (i + 1) m' ys H7 := by simpa using q7
        rw [if_neg Bool.false_ne_true]
        obtain ⟨b1, b2, b3⟩ := back I7
        exact ⟨m', hm, i + 1, ys, _, H7, b3, b1, b2, q7'⟩
      | true =>
        rw [if_pos rfl] at q7 ⊢
        refine wpAny_mono (he C s2 H2 fp _ s7 _ H7 _ I7 q7) (fun y s8 h8 => ?_) (fun _ _ z => z.elim)
        obtain ⟨v8, H8, I8, r8, hD8, w8⟩ := h8
        refine wpAny_mono (mt_append (X := compCx X M x scope cl C s2 H2 fp) _ s8 _ H8 (.ref D) [v8] (.ref D) [y] (fun _ H9 => H9 = upd H8 D (.lst (ys ++ [v8]))) I8 rfl (.cons r8 .nil) ⟨D, ys, v8, rfl, rfl, hD8, hlen, rfl⟩) (fun _ s9 h9 => ?_) (fun _ _ z => z.elim)
        obtain ⟨v9, H9, I9, _, e9⟩ := h9
        subst e9
        obtain ⟨b1, b2, b3⟩ := back I9
        exact ⟨m', hm, i + 1, _, _, _, b3, b1, b2, w8⟩
  exact codeAny_compStart_list (loop _ rfl) (T.self _ 0 _ _ _ (T.keep _ _ _ st2 (fun b _ o e => old b o e)) (loop _ rfl))
theorem pe_comp {M : List Str} {elt iter : Expr} {x : Str} {px pos : Pos} {ifs : List Expr} {scope : Scope} {cl : List (Str × Addr)} {wi : TI} {tt : TT} {te : TE} (hc : X.calm = true) (ok : CompOk X M x scope cl) (hi : PI X (.Name x px) iter wi)
    (ht : ∀ C s₀ H₀ fp, PIfs (compCx X M x scope cl C s₀ H₀ fp) ifs tt) (he : ∀ C s₀ H₀ fp, PE (compCx X M x scope cl C s₀ H₀ fp) elt te)
    (hs : ∀ x, foldedSetIterable iter X.env x = pure x := by intro _; rfl) :
    PE X (.ListComp elt [⟨.Name x px, iter, ifs, 0⟩] scope pos) (tComp wi tt te) := by
  intro pins s σ H Q I h
  rw [eval_ListComp]
  refine wpAny_comprehension_free (use := none) rfl hs ok.clos ok.kind ok.names (thn (hi pins s σ H _ I h) fun xv s1 h1 => thn h1 fun itv s2 h2 => ?_)
  obtain ⟨it, fp, tn, J, H2, e, I2, T, st2, f2, hW⟩ := h2
  subst e
  refine comp_core hc ok ht he I2 T st2 f2 hW (compPost (model X.prog X.w) X.A X.xe none (EP X pins σ Q)) fun D C H3 s4 I4 hm fC q => ?_
  obtain ⟨m, hn⟩ := hm
  exact ⟨m, hn, fun h' hsb => ⟨.ref D, H3, I4.turned (t' := s4.toks) (fun b o hb e => hsb.extBut b o hb e) fC.1 fC.2.1 fC.2.2.2.1 fC.2.2.2.2.1 fC.2.2.2.2.2, rfl, q⟩⟩
theorem lookup_mem {κ β : Type} [BEq κ] [LawfulBEq κ] {k : κ} {v : β} : ∀ {l : List (κ × β)}, l.lookup k = some v → (k, v) ∈ l
  | (a, b) :: r, h => by
    rw [List.lookup_cons] at h
    cases e : k == a with
    | true =>
      rw [e] at h
      cases h
      rw [eq_of_beq e]
      exact List.mem_cons_self
    | false =>
      rw [e] at h
      exact List.mem_cons_of_mem _ (lookup_mem h)
/-- what an iterator goes through, where the heap is as ok says -/
structure Walk (J : It) (ok : Hp → Prop) (xs : List V) : Prop where
  go : ∀ i H, ok H → i < xs.length → J.go i H
  yld : ∀ i H x H', ok H → J.yld i H x H' → i < xs.length → H' = H ∧ xs[i]? = some x
  stop : ∀ i H, ok H → xs.length ≤ i → J.stop i H
theorem walk_l {K : PySem.W.Frag} {a : Addr} {xs : List V} : Walk (Itl K a) (fun H => SqL K H a xs) xs :=
  ⟨fun i H h hi => ⟨xs, xs[i], h, by simp [hi]⟩, fun i H x H' h y hi => ⟨y.1, y.2 xs h⟩, fun i H h hi => ⟨xs, h, hi⟩⟩
theorem walk_r {lo : Int} {n : Nat} : Walk (Itr lo n) (fun _ => True) ((List.range n).map fun i => V.int (lo + (i : Nat))) :=
  ⟨fun i H _ hi => (by show i < n; simpa using hi), fun i H x H' _ y hi => ⟨y.1, by
    have hi' : i < n := by simpa using hi
    rw [y.2]
    simp [hi']⟩, fun i H _ hi => (by show n ≤ i; simpa using hi)⟩
/-- the comprehension's list: f of the items that p lets through; tests and elements leave the heap as it is -/
theorem comp_by {J : It} {ok : Hp → Prop} {xs : List V} {σ : St} {H : Hp} {Q : VK} {tt : TT} {te : TE} (Wk : Walk J ok xs) (hz : xs.length < sizeLine) (hok : ∀ D ys, H D = none → ok (upd H D (.lst ys))) (p : V → Bool) (f : V → V)
    (ht : ∀ x ∈ xs, ∀ D ys (Q' : Bool → Hp → Prop), H D = none → Q' (p x) (upd H D (.lst ys)) → tt (some x :: σ) (upd H D (.lst ys)) Q')
    (he : ∀ x ∈ xs, p x = true → ∀ D ys (Q' : VK), H D = none → Q' (f x) (upd H D (.lst ys)) → te (some x :: σ) (upd H D (.lst ys)) Q')
    (h : ∀ D, H D = none → Q (.ref D) (upd H D (.lst ((xs.filter p).map f)))) :
    ∀ D, H D = none → ∃ W : Nat → Nat → List V → Hp → Prop, (∃ m, W 0 m [] (upd H D (.lst []))) ∧
      ∀ i m ys H2, W i m ys H2 → H2 D = some (.lst ys) ∧ ((J.stop i H2 ∧ Q (.ref D) H2) ∨ (J.go i H2 ∧ ys.length < sizeLine ∧ ∃ m', m' < m ∧ ∀ x H3, J.yld i H2 x H3 →
        tt (some x :: σ) H3 fun b H4 => if b = true then te (some x :: σ) H4 fun y H5 => H5 D = some (.lst ys) ∧ W (i + 1) m' (ys ++ [y]) (upd H5 D (.lst (ys ++ [y]))) else W (i + 1) m' ys H4)) := by
  intro D hD
  refine ⟨fun i m ys H2 => i ≤ xs.length ∧ m = xs.length - i ∧ ys = ((xs.take i).filter p).map f ∧ H2 = upd H D (.lst ys), ⟨_, Nat.zero_le _, rfl, by simp, rfl⟩, ?_⟩
  rintro i m ys H2 ⟨hi, rfl, hys, rfl⟩
  refine ⟨upd_same, ?_⟩
  by_cases hlt : i < xs.length
  · have hl : ys.length ≤ i := by
      rw [hys, List.length_map]
      exact Nat.le_trans (List.length_filter_le _ _) (by rw [List.length_take]; omega)
    refine .inr ⟨Wk.go i _ (hok D ys hD) hlt, by omega, xs.length - (i + 1), by omega, fun x H3 hy => ?_⟩
    obtain ⟨e3, ex⟩ := Wk.yld i _ x H3 (hok D ys hD) hy hlt
    subst e3
    have hm : x ∈ xs := List.mem_of_getElem? ex
    have et : xs.take (i + 1) = xs.take i ++ [x] := by rw [List.take_add_one, ex]; rfl
    refine ht x hm D ys _ hD ?_
    cases hp : p x with
    | false =>
      rw [if_neg Bool.false_ne_true]
      refine ⟨hlt, rfl, ?_, rfl⟩
      rw [et, List.filter_append, hys]
      simp [hp]
    | true =>
      rw [if_pos rfl]
      refine he x hm hp D ys _ hD ⟨upd_same, hlt, rfl, ?_, by rw [upd_upd]⟩
      rw [et, List.filter_append, hys]
      simp [hp]
  · have e : i = xs.length := by omega
    subst e
    refine .inl ⟨Wk.stop _ _ (hok D ys hD) (Nat.le_refl _), ?_⟩
    rw [hys, List.take_length]
    exact h D hD
theorem rd_rng1 {ta : TA} {σ : St} {H : Hp} {R : It → Hp → Prop} (h : ta σ H fun vs H1 => ∃ j : Int, vs = [.int j] ∧ -(2 ^ 62) ≤ j ∧ j < 2 ^ 62 ∧ R (Itr 0 j.toNat) H1) : iRng1 ta σ H R := h
theorem rd_rng2 {ta : TA} {σ : St} {H : Hp} {R : It → Hp → Prop} (h : ta σ H fun vs H1 => ∃ i j : Int, vs = [.int i, .int j] ∧ (-(2 ^ 62) ≤ i ∧ i < 2 ^ 62 ∧ -(2 ^ 62) ≤ j ∧ j < 2 ^ 62) ∧ R (Itr i (j - i).toNat) H1) : iRng2 ta σ H R := h
theorem rd_comp {wi : TI} {tt : TT} {te : TE} {σ : St} {H : Hp} {Q : VK} (h : wi σ H (CompR tt te σ Q)) : tComp wi tt te σ H Q := h
theorem comp_go {J : It} {ok : Hp → Prop} {xs : List V} {σ : St} {H : Hp} {Q : VK} {tt : TT} {te : TE} (Wk : Walk J ok xs) (hz : xs.length < sizeLine) (hok : ∀ D ys, H D = none → ok (upd H D (.lst ys))) (p : V → Bool) (f : V → V)
    (ht : ∀ x ∈ xs, ∀ D ys (Q' : Bool → Hp → Prop), H D = none → Q' (p x) (upd H D (.lst ys)) → tt (some x :: σ) (upd H D (.lst ys)) Q')
    (he : ∀ x ∈ xs, p x = true → ∀ D ys (Q' : VK), H D = none → Q' (f x) (upd H D (.lst ys)) → te (some x :: σ) (upd H D (.lst ys)) Q')
    (h : ∀ D, H D = none → Q (.ref D) (upd H D (.lst ((xs.filter p).map f)))) : CompR tt te σ Q J H := comp_by Wk hz hok p f ht he h
theorem rd_true {σ : St} {H : Hp} {Q : Bool → Hp → Prop} (h : Q true H) : tTrue σ H Q := h

/-- a comprehension that names what its frame holds in cells -/
theorem compOk_freeM {x : Str} {scope : Scope} {cl : List (Str × Addr)} (M N : List Str) (hl : M.length = N.length) (hN : X.N = N) (clos : closureFor scope X.env = pure cl) (hc : (scope.names.all fun y => y.2 != .cell) = true) (hk : scope.kind = .function)
    (hn : (scope.names.all fun y => y.2 != .local || scope.names.lookup y.1 == some .local) = true) (hx : scope.names.lookup x = some .local) (nd : (x :: M).Nodup)
    (hs : ∀ p ∈ cl, X.env.cells.lookup p.1 = some p.2)
    (hh : ((relabel scope X.env).names.all fun p => (p.2 != .cell && p.2 != .free) || (cl.lookup p.1).isSome) = true)
    (hv : ((M.zip N).all fun q => match (relabel scope X.env).names.lookup q.1 with
      | some .local => false
      | some .cell => q.1 == q.2 && (X.env.scope.names.lookup q.1 == some .cell || X.env.scope.names.lookup q.1 == some .free)
      | some .free => q.1 == q.2 && (X.env.scope.names.lookup q.1 == some .cell || X.env.scope.names.lookup q.1 == some .free)
      | _ => true) = true) : CompOk X M x scope cl := by
  refine ⟨clos, fun y hy => ?_, hk, fun y hy hl => ?_, hx, nd, by rw [hN]; exact hl, fun y c h => hs _ (lookup_mem h), fun y h => ?_, fun i y hy h => ?_⟩
  · have := List.all_eq_true.mp hc y hy
    simpa using this
  · have := List.all_eq_true.mp hn y hy
    simpa [hl] using this
  · rcases h with h | h
    · have := List.all_eq_true.mp hh _ (lookup_mem h)
      exact Option.isSome_iff_exists.mp (by simpa using this)
    · have := List.all_eq_true.mp hh _ (lookup_mem h)
      exact Option.isSome_iff_exists.mp (by simpa using this)
  · have hi : i < N.length := by
      have := (List.getElem?_eq_some_iff.mp hy).1
      omega
    have hz : (y, N[i]) ∈ M.zip N := by
      have : (M.zip N)[i]? = some (y, N[i]) := List.getElem?_zip_eq_some.mpr ⟨hy, by simp [hi]⟩
      exact List.mem_of_getElem? this
    have z := List.all_eq_true.mp hv _ hz
    have fin : y = N[i] → X.N[i]? = some y := fun e => by rw [hN, e]; simp [hi]
    rcases h with h | h | h
    · dsimp only at z
      rw [h] at z; cases z
    · dsimp only at z
      rw [h] at z
      simp only [Bool.and_eq_true, beq_iff_eq, Bool.or_eq_true] at z
      exact ⟨fin z.1, .inl h, z.2⟩
    · dsimp only at z
      rw [h] at z
      simp only [Bool.and_eq_true, beq_iff_eq, Bool.or_eq_true] at z
      exact ⟨fin z.1, .inr h, z.2⟩
def ItrS (lo c : Int) (n : Nat) : It := ⟨fun i _ => i < n, fun i H x H' => H' = H ∧ x = .int (lo + i * c), fun i _ => n ≤ i⟩
theorem turn_rangeS {P : Program} {w : World} {K : PySem.W.Frag} {tg : Expr} (it : Addr) (lo c : Int) (n : Nat) : Turn P w K tg (ItrS lo c n) [it] it (fun i h => IsRangeIter h it (lo + (i : Nat) * c) ((n : Int) - (i : Nat)) c) where
  mem := by simp
  obj := fun i h st b hb => by
    have e : b = it := by simpa using hb
    subst e
    exact ⟨_, st, fun v z => by
      have z' : Data.fields _ = Data.cell v := z
      cases z'⟩
  keep := fun i h h' st k => k it (by simp) _ st
  item := by
    intro X hP hw hK hc i pins s σ H E I hf st hg
    subst hP hw hK
    obtain ⟨f0, f1, f2, f3, f4, f5⟩ := hf it (by simp)
    have W := Walks.range (prog := X.prog) (w := X.w) (I.ok.hd hc) it lo c n
    refine W.item i s _ _ hg st fun v h' tk hv st' kk => ?_
    obtain ⟨t, rfl⟩ := hv
    have I1 : Inv X pins σ H { s with heap := h', toks := tk } := I.turned (fun b o hb e => kk b o (by simpa using hb) e) f0 f1 f3 f4 f5
    exact ⟨_, rfl, go_of (s := { s with heap := h', toks := tk }) (n := "range_iterator") st' rfl rfl (by decide) ⟨.int (lo + i * c), H, I1, ⟨t, rfl⟩, ⟨rfl, rfl⟩, st', fun b hb => (hf b hb).1⟩⟩
  done := by
    intro X hP hw hK hc i pins s σ H E I hf st hg
    subst hP hw hK
    obtain ⟨f0, f1, f2, f3, f4, f5⟩ := hf it (by simp)
    exact wpAny_pyNext_range_end (I.ok.hd hc) st (by have : n ≤ i := hg; omega) fun h' eb => ⟨rfl, I.turned (t' := s.toks) (fun b o hb e => eb b o hb e) f0 f1 f3 f4 f5⟩
  self := fun _ _ _ _ _ st h => wpAny_pyIter_rangeiter st h
def iRng3 (ta : TA) : TI := fun σ H R => ta σ H fun vs H1 => ∃ i j c : Int, vs = [.int i, .int j, .int c] ∧ 0 < c ∧ c < 1073741824 ∧ Builtin.Range.small i j c = true ∧ ∃ n : Nat, (n : Int) = Builtin.Range.rangeSize i j c ∧ R (ItrS i c n) H1
theorem pi_range3 {tg : Expr} {a b d : Expr} {ta : TA} {p pos : Pos} (hg : Gl X "range") (hm : X.mg "range" = none) (ha : PA X [a, b, d] ta) (hs : starEach [a, b, d] X.env = (false, eval a X.env) :: starEach [b, d] X.env := by rfl)
    (hpl : (backTo pos (starEach [b, d] X.env)).any (·.1) = false := by rfl) : PI X tg (.Call (.Name "range" p) [a, b, d] [] pos) (iRng3 ta) := by
  intro pins s σ H R I h
  refine Call_ (ld_blt I hg hm boot_range (PyProof.Rows.callWith_type1 (thn (ha pos pins s σ H _ I h) fun us s1 ⟨vs, H1, I1, r1, q1⟩ => ?_) hs hpl))
  obtain ⟨lo, hi, c, e, c0, c1, sm, n, hn, q⟩ := q1
  subst e
  cases r1 with
  | cons r rr =>
    cases rr with
    | cons r' rr =>
      cases rr with
      | cons r'' rr =>
        cases rr
        obtain ⟨t, rfl⟩ := r
        obtain ⟨t', rfl⟩ := r'
        obtain ⟨t'', rfl⟩ := r''
        refine PySem.call_range_3 (by omega) ?_ (Or.inl (PyProof.noPylong_small (by omega)))
        refine wpAny_pyIter_range (IsRange.new ..) sm ?_
        have I2 : Inv X pins σ H1 { s1 with heap := s1.heap.push { cls := .type "range", data := .fields #[.int lo t, .int hi t', .int c t''] }, toks := s1.toks } := I1.kept fun b o e => Heap.get?_push_of_some _ e
        refine ⟨(s1.heap.push { cls := .type "range", data := .fields #[.int lo t, .int hi t', .int c t''] }).objs.size, [(s1.heap.push { cls := .type "range", data := .fields #[.int lo t, .int hi t', .int c t''] }).objs.size], _, _, H1, rfl,
          I2.kept (t' := s1.toks) fun b o e => Heap.get?_push_of_some _ e, turn_rangeS _ lo c n, ?_, fun b hb => ?_, q⟩
        · have e1 : lo + ((0 : Nat) : Int) * c = lo := by simp
          have e2 : (n : Int) - ((0 : Nat) : Int) = Builtin.Range.rangeSize lo hi c := by rw [← hn]; simp
          show IsRangeIter _ _ (lo + ((0 : Nat) : Int) * c) ((n : Int) - ((0 : Nat) : Int)) c
          rw [e1, e2]
          exact Heap.get?_push_size _ rfl
        · have e : b = (s1.heap.push { cls := .type "range", data := .fields #[.int lo t, .int hi t', .int c t''] }).objs.size := by simpa using hb
          subst e
          exact I2.fpOk (Nat.le_refl _) (I2.hok.fresh (Nat.le_refl _))
theorem rd_rng3 {ta : TA} {σ : St} {H : Hp} {R : It → Hp → Prop} (h : ta σ H fun vs H1 => ∃ i j c : Int, vs = [.int i, .int j, .int c] ∧ 0 < c ∧ c < 1073741824 ∧ Builtin.Range.small i j c = true ∧ ∃ n : Nat, (n : Int) = Builtin.Range.rangeSize i j c ∧ R (ItrS i c n) H1) : iRng3 ta σ H R := h
theorem small_step {i j c : Int} (i0 : 0 ≤ i) (i1 : i < 4294967296) (j0 : 0 ≤ j) (j1 : j < 4294967296) (c0 : 0 < c) (c1 : c < 4294967296) : Builtin.Range.small i j c = true := by
  have e : Builtin.Range.rangeSize i j c = if i < j then (j - i - 1) / c + 1 else 0 := by
    unfold Builtin.Range.rangeSize
    rw [if_pos c0]
  have b1 : ∀ x : Int, 0 ≤ x → x / c ≤ x := fun x hx => Int.ediv_le_self _ hx
  have b2 : ∀ x : Int, 0 ≤ x → 0 ≤ x / c := fun x hx => Int.ediv_nonneg hx (by omega)
  unfold Builtin.Range.small
  rw [e]
  simp only [Builtin.Range.rangeFitsLong, Bool.and_eq_true, Bool.or_eq_true, decide_eq_true_eq, beq_iff_eq, if_pos c0]
  split
  · have := b1 (j - i - 1) (by omega)
    have := b2 (j - i - 1) (by omega)
    omega
  · omega
theorem rd_for {wi : TI} {g : TG} {tb : TS} {D : Ends} {σ : St} {H : Hp} (h : wi σ H fun J H1 => ∃ W : Nat → Nat → St → Hp → Prop, (∃ m, W 0 m σ H1) ∧ ∀ i m σ H, W i m σ H →
  (J.stop i H ∧ D.nx σ H) ∨ (J.go i H ∧ ∃ N : St → Hp → Prop, (∀ σ' H', N σ' H' → ∃ m', m' < m ∧ W (i + 1) m' σ' H') ∧ ∀ x H', J.yld i H x H' → g x σ H' fun σ2 H2 => tb { D with nx := N, ct := N, bk := D.nx } σ2 H2)) : tFor wi g tb D σ H := h
theorem rd_iL {K : PySem.W.Frag} {tl : TE} {σ : St} {H : Hp} {R : It → Hp → Prop} (h : tl σ H fun x H1 => ∃ a, x = .ref a ∧ (∃ xs, SqL K H1 a xs) ∧ R (Itl K a) H1) : iList K tl σ H R := h
theorem rd_iT {K : PySem.W.Frag} {tl : TE} {σ : St} {H : Hp} {R : It → Hp → Prop} (h : tl σ H fun x H1 => ∃ a, x = .ref a ∧ (∃ xs, SqT K H1 a xs) ∧ R (Itt K a) H1) : iTup K tl σ H R := h
theorem same_app {H H' : Hp} {l : Addr} {o : HO} (h : H l = none) (s : Same H H') : Same H (upd H' l o) := fun b u e => by
  rw [upd_ne (ne_of_none e h)]
  exact s b u e
end
end L2

set_option Elab.async false
set_option linter.all false
set_option maxRecDepth 100000
set_option maxHeartbeats 4000000
namespace L2
open PySem PySem.Spec PyProof.Rows
/-- the object at e: its class, its dict, its head of tracebacks -/
def XObj (h : Heap) (e : Addr) (cls : Value) (dd : Option Addr) (head : Value) : Prop := ∃ vs sl, h.get? e = some ⟨cls, dd, .fields vs, sl⟩ ∧ vs[1]? = some head
/-- a traceback stands at its head, with the flight mark fl -/
def XTr (h base : Heap) (e : Addr) (cls : Value) (dd : Option Addr) (fl : Value) : Prop := ∃ T, XObj h e cls dd (.ref T) ∧ base.get? T = none ∧ T ≠ e ∧ ∃ oT ts, h.get? T = some oT ∧ oT.data = .fields ts ∧ ts[3]? = some fl
structure Sea (base : Heap) (l : List Env) (e : Addr) (h : Heap) : Prop where
  stays : base.StaysIn h
  new : base.get? e = none
  frames : h.FunFrames base l
section
variable {M : Model} {A : Around} {E : Value → Shared → Prop} {s : Shared} {base : Heap} {env : Env} {outer l : List Env} {L e : Addr} {cls : Value} {dd : Option Addr}
end
end L2

set_option Elab.async false
set_option linter.all false
set_option maxRecDepth 100000
set_option maxHeartbeats 4000000
namespace L2
open PySem PySem.Spec PyProof.Rows
/-- B holds what stood in h (but the frames at fs), what H does not track unchanged -/
def Old (fs : List Addr) (H : Hp) (h B : Heap) : Prop := ∀ b u, h.get? b = some u → b ∉ fs → ∃ u', B.get? b = some u' ∧ (H b = none → u' = u)
/-- B holds what is tracked -/
def Tra (H : Hp) (h B : Heap) : Prop := ∀ b o, H b = some o → ∃ u, h.get? b = some u ∧ B.get? b = some u
section
variable {P : Program} {w : World} {fs : List Addr} {H H' : Hp} {h h1 h2 B : Heap}
theorem Tra.later (t : Tra H' h1 B) (st : B.StaysIn h2) : Tra H' h2 B := fun b o e => by
  obtain ⟨u, _, q⟩ := t b o e
  exact ⟨u, st _ _ q, q⟩
end
section
variable {X : Cx} {pins : List (Addr × Obj)} {σ : St} {H H' : Hp} {s : Shared}
end
theorem ObjOk.obj {P : Program} {w : World} {H : Hp} {h : Heap} {a : Addr} {o : HO} (x : ObjOk P w H h a o) : ∃ u, h.get? a = some u := by
  cases o with
  | lst xs => obtain ⟨_, _, _, _, e⟩ := x; exact ⟨_, e⟩
  | tup xs => obtain ⟨_, _, _, ob, e, _⟩ := x; exact ⟨_, e⟩
  | dK kvs => obtain ⟨_, _, _, _, ob, _, _, e, _⟩ := x; exact ⟨_, e⟩
  | dT kvs => obtain ⟨_, _, _, _, ob, _, _, e, _⟩ := x; exact ⟨_, e⟩
  | set S n => obtain ⟨ob, _, _, _, e, _⟩ := x; exact ⟨_, e⟩
  | ins C dx fs => obtain ⟨_, _, _, e, _⟩ := x; exact ⟨_, e⟩
  | own y => exact x
  | xd fs => obtain ⟨_, ⟨ob, _, _, e, _⟩, _⟩ := x; exact ⟨_, e⟩
  | rng lo hi => obtain ⟨_, _, _, e⟩ := x; exact ⟨_, e⟩
  | frz ob u => exact ⟨_, x.1⟩
  | tbl ps => exact ⟨_, x⟩
  | met f y => exact ⟨_, x⟩
  | ext φ => exact x.2.1
end L2

set_option Elab.async false
set_option linter.all false
set_option maxRecDepth 100000
set_option maxHeartbeats 4000000
namespace L2
open PySem PySem.Spec PyProof.Rows
section
variable {P : Program} {w : World} {K : PySem.W.Frag} {mg : Str → Option Value} {base : Heap}
end
def tCallE (sp : Sp) (EE : Value → Option Addr → St → Hp → Prop) (t : TA) : TE := fun σ H Q => t σ H fun vs H1 => sp (vs ++ []) H1 Q (fun c d H' => EE c d σ H')
section
variable {X : Cx} {EE : Value → Option Addr → St → Hp → Prop}
abbrev bmV : List Value := [.type "ValueError", .type "Exception", .type "BaseException", .type "object"]
def tRaise (C : Addr) (EE : Value → Option Addr → St → Hp → Prop) (ta : TA) : TS := fun _ σ H => ta σ H fun vs H1 => vs.length ≤ sizeLine ∧ EE (.ref C) none σ H1
end
end L2

set_option Elab.async false
set_option linter.all false
set_option maxRecDepth 100000
set_option maxHeartbeats 4000000
namespace L2
open PySem PySem.Spec PyProof.Rows
/-- within a try: another wish, the pins kept -/
abbrev Cx.tr (X : Cx) (xe : Value → Shared → Prop) (pn : List (Addr × Obj)) : Cx := { X with xe := xe, pn := pn }
/-- within a handler: the exception is marked, nothing is raised -/
abbrev Cx.hd (X : Cx) (e : Addr) : Cx := { X with A := X.A.mark (some (.ref e)), calm := false, xe := fun _ _ => False }
theorem Cx.Ok.tr {X : Cx} (ok : X.Ok) (xe : Value → Shared → Prop) (pn : List (Addr × Obj)) : (X.tr xe pn).Ok :=
  ⟨ok.mod, ok.kind, ok.glob, ok.blt, ok.above, ok.inj, ok.has, ok.cab, ok.hd, ok.frames, ok.stk, ok.exf, ok.bs, ok.bsz, ok.noex, ok.exfs, ok.funs, ok.frf⟩
/-- the exception object at ea, tracked: its class and its dict -/
def ExcO (a : Addr) (cls : Value) (dx : Option Addr) : HO := .ext fun h => ∃ vs sl, h.get? a = some ⟨cls, dx, .fields vs, sl⟩
structure Fl (X : Cx) (pins : List (Addr × Obj)) (σ : St) (H : Hp) (s' : Shared) (ea : Addr) (cls : Value) (dx : Option Addr) : Prop where
  ex : ∃ (s₀ : Shared) (H₀ : Hp) (B : Heap), Inv X pins σ H₀ s₀ ∧ s'.os = s₀.os ∧ AllBare s'.gens ∧ Un (frs X.stack) [] H₀ H s₀.heap s'.heap ∧ HOk X.prog X.w H s'.heap ∧ Sea B X.stack ea s'.heap ∧ XTr s'.heap B ea cls dx .none ∧ Old (frs X.stack) H₀ s₀.heap B ∧ Tra H s'.heap B
section
variable {X : Cx} {pins : List (Addr × Obj)} {σ : St} {H : Hp} {s : Shared} {ea : Addr} {cls : Value} {dx : Option Addr}
theorem Fl.obj (F : Fl X pins σ H s ea cls dx) : ∃ vs sl, s.heap.get? ea = some ⟨cls, dx, .fields vs, sl⟩ := by
  obtain ⟨s₀, H₀, B, I, os, bare, un, hok, sea, ⟨T, ⟨vs, sl, e, _⟩, _⟩, _⟩ := F.ex
  exact ⟨vs, sl, e⟩
/-- it was not there at the call -/
theorem Fl.free (F : Fl X pins σ H s ea cls dx) : H ea = none := by
  obtain ⟨s₀, H₀, B, I, os, bare, un, hok, sea, _, _, tra⟩ := F.ex
  cases z : H ea with
  | none => rfl
  | some o =>
    obtain ⟨u, _, q⟩ := tra ea o z
    rw [sea.new] at q; cases q
end
end L2

set_option Elab.async false
set_option linter.all false
set_option maxRecDepth 100000
set_option maxHeartbeats 4000000
namespace L2
open PySem PySem.Spec PyProof.Rows
section
variable {X : Cx} {pins : List (Addr × Obj)} {σ : St} {H : Hp} {s : Shared}
end
abbrev TH := Value → Option Addr → Addr → Ends → St → Hp → Prop
section
variable {X : Cx}
abbrev XE := Value → Option Addr → St → Hp → Prop
def tTry (tb : XE → TS) (th : TH) : TS := fun D σ H => tb (fun c d σ' H' => ∀ ea, H' ea = none → th c d ea D σ' H') D σ H
end
end L2

set_option Elab.async false
set_option linter.all false
set_option maxRecDepth 100000
set_option maxHeartbeats 4000000
namespace L2
open PySem PySem.Spec PyProof.Rows
section
variable {prog : Program} {w : World} {A : Around} {E : Value → Shared → Prop} {s : Shared} {K : PySem.W.Frag} {x D : Addr} {ox : Obj} {odo : Option Obj} {name : Str}
/-- what the class of an exception must have of the text -/
structure XGet (K : PySem.W.Frag) (D : Addr) : Prop where
  ga : PySem.W.findIn K (.ref D) "__getattribute__" = some (some (.builtin "BaseException.__getattribute__"))
  gk : PySem.W.findIn K (.ref D) "__getattr__" = some none
  be : PySem.W.mroIn K D (.type "BaseException") = some true
  ob : PySem.W.mroIn K D (.type "object") = some true
  ca : PySem.W.findIn K (.ref D) "__class__" = some (some (.builtin "object.__class__"))
  cl : (PySem.W.clsIn K D).isSome = true
  sp : PySem.W.specialIn K (.builtin "object.__class__") "__get__" = some (some (.builtin "getset_descriptor.__get__"))
  tk : PySem.W.takesIn K (.builtin "object.__class__") = some true
end
section
variable {X : Cx}
end
end L2

set_option Elab.async false
set_option linter.all false
set_option maxRecDepth 100000
set_option maxHeartbeats 4000000
namespace L2
open PySem PySem.Spec PyProof.Rows
structure RoomN (k : Nat) (A : Around) : Prop where
  dp : A.depth + 3 * k + 5 < recursionLimit
  un : A.units + 16 * k + 200 < cLine
  gd : A.guards = some []
theorem RoomN.mono {j k : Nat} {A : Around} (r : RoomN k A) (h : j ≤ k) : RoomN j A := ⟨by have := r.dp; omega, by have := r.un; omega, r.gd⟩
theorem RoomN.deeper {k : Nat} {A : Around} (r : RoomN (k + 1) A) (env : Env) : RoomN k (A.deeper env) :=
  ⟨by have := r.dp; show A.depth + 1 + 3 * k + 5 < _; omega, by have := r.un; show A.units + 3 + 16 * k + 200 < _; omega, r.gd⟩
theorem Room.marked {k : Nat} {A : Around} (r : Room k A) (e : Option Value) : RoomN k (A.mark e) := ⟨r.dp, r.un, r.gd⟩
theorem Room.toN {k : Nat} {A : Around} (r : Room k A) : RoomN k A := ⟨r.dp, r.un, r.gd⟩
theorem RoomN.depth {k : Nat} {A : Around} (r : RoomN k A) : A.depth < recursionLimit := by have := r.dp; omega
theorem RoomN.units0 {k : Nat} {A : Around} (r : RoomN k A) : A.units < cLine := by have := r.un; omega
section
variable {P : Program} {w : World} {K : PySem.W.Frag} {mg : Str → Option Value} {base : Heap}
end
section
variable {X : Cx}
end
theorem rel_ref (a : Addr) : RelV (.ref a) (.ref a) := rfl
theorem rd_callE {sp : Sp} {EE : XE} {t : TA} {σ : St} {H : Hp} {Q : VK} (h : t σ H fun vs H1 => sp (vs ++ []) H1 Q (fun c d H' => EE c d σ H')) : tCallE sp EE t σ H Q := h
theorem rd_raise {C : Addr} {EE : XE} {ta : TA} {D : Ends} {σ : St} {H : Hp} (h : ta σ H fun vs H1 => vs.length ≤ sizeLine ∧ EE (.ref C) none σ H1) : tRaise C EE ta D σ H := h
theorem rd_try {tb : XE → TS} {th : TH} {D : Ends} {σ : St} {H : Hp} (h : tb (fun c d σ' H' => ∀ ea, H' ea = none → th c d ea D σ' H') D σ H) : tTry tb th D σ H := h
section
variable {X : Cx}
end
end L2

set_option Elab.async false
set_option linter.all false
set_option maxRecDepth 100000
set_option maxHeartbeats 4000000
namespace L2
open PySem PySem.Spec PyProof.Rows
section
variable {prog : Program} {w : World} {A : Around} {E : Value → Shared → Prop} {h : Heap} {g : Array GenState} {d : Drawn} {t : Nat} {os : OsState} {K : PySem.W.Frag} {f : Addr}
variable {nm q : Str} {C N : Addr} {bs bm : List Value} {hdct : Bool} {sn : List Str} {sub : List Value} {ab : Bool} {col : Option Bool} {dd : Option Addr} {k0 k1 k2 k3 k5 : Option Value}
end
end L2

set_option Elab.async false
set_option linter.all false
set_option maxRecDepth 100000
set_option maxHeartbeats 4000000
namespace L2
open PySem PySem.Spec PyProof.Rows
section
variable {prog : Program} {w : World} {A : Around} {E : Value → Shared → Prop} {h : Heap} {g : Array GenState} {d : Drawn} {t : Nat} {os : OsState} {K : PySem.W.Frag} {e : Addr}
variable {nm q : Str} {C N : Addr} {bs bm : List Value} {hdct : Bool} {sn : List Str} {sub : List Value} {ab : Bool} {col : Option Bool} {dd : Option Addr} {k0 k1 k2 k3 k5 : Option Value} {newId : String}
variable {x CF : Addr} {cd : ClassData} {name : Str} {v : Value} {vs : Array Value} {sl : Array (Option Value)}
end
end L2

set_option Elab.async false
set_option linter.all false
set_option maxRecDepth 100000
set_option maxHeartbeats 4000000
namespace L2
open PySem PySem.Spec PyProof.Rows
structure XOwn (K : PySem.W.Frag) (C CF : Addr) : Prop where
  obj : ∃ dd cd k0 k1 k2 k3 k5, K.lookup C = some ⟨.type "type", dd, .cls cd, #[k0, k1, k2, k3, some (.builtin "ValueError.__new__"), k5]⟩ ∧ cd.mro = .ref C :: .ref CF :: bmV ∧ cd.hasDel = false ∧ cd.hasDict = true
  base : PySem.W.excIn K CF bmV "ValueError.__new__" = true
  sa : PySem.W.findIn K (.ref C) "__setattr__" = some (some (.builtin "object.__setattr__"))
section
variable {K : PySem.W.Frag} {C CF : Addr} {h : Heap}
theorem XOwn.cls (O : XOwn K C CF) : ∃ cd, PySem.W.clsIn K C = some cd ∧ cd.mro = .ref C :: .ref CF :: bmV ∧ cd.hasDict = true := by
  obtain ⟨dd, cd, k0, k1, k2, k3, k5, e, m, _, hd⟩ := O.obj
  refine ⟨cd, ?_, m, hd⟩
  unfold PySem.W.clsIn
  rw [e]
theorem XOwn.at (O : XOwn K C CF) (KX : K.In h) : ∃ N nm qn bs hd sn sub ab col dd k0 k1 k2 k3 k5, h.get? C = some (excClassObj nm qn C N bs (.ref CF :: bmV) hd sn sub ab col dd k0 k1 k2 k3 k5 "ValueError.__new__") := by
  obtain ⟨dd, cd, k0, k1, k2, k3, k5, e, m, hdel, hd⟩ := O.obj
  obtain ⟨nm, bs, mro, ns, qn, hd, sn, sub, ab, col, del⟩ := cd
  dsimp only at m hdel
  subst m hdel
  exact ⟨_, _, _, _, _, _, _, _, _, _, _, _, _, _, _, KX _ _ e⟩
end
/-- a new exception at a, tracked: its class and its dict; it has not been raised -/
def ExcN (a : Addr) (cls : Value) (dx : Option Addr) : HO := .ext fun h => ∃ vs sl t1, h.get? a = some ⟨cls, dx, .fields vs, sl⟩ ∧ vs[0]? = some (.ref t1) ∧ vs[1]? = some .none
section
variable {X : Cx} {pins : List (Addr × Obj)} {σ : St} {H : Hp} {s : Shared} {h' : Heap}
def sXF1 (K : PySem.W.Frag) (ta tv : TE) (f : Str) : TS := fun D σ H => tv σ H fun y H1 => ta σ H1 fun x H2 => ∃ a C CF, x = .ref a ∧ H2 a = some (ExcN a (.ref C) none) ∧ XOwn K C CF ∧ PySem.W.findIn K (.ref C) f = some none ∧
  ∀ d, H2 d = none → D.nx σ (upd (upd H2 d (.xd [(f, y)])) a (ExcN a (.ref C) (some d)))
def sXF2 (K : PySem.W.Frag) (ta tv : TE) (f : Str) : TS := fun D σ H => tv σ H fun y H1 => ta σ H1 fun x H2 => ∃ a C CF d fs, x = .ref a ∧ H2 a = some (ExcN a (.ref C) (some d)) ∧ H2 d = some (.xd fs) ∧ fs.length ≤ 900 ∧ XOwn K C CF ∧ PySem.W.findIn K (.ref C) f = some none ∧
  D.nx σ (upd H2 d (.xd (putF f y fs)))
variable {o value : Expr} {f : Str} {pos pos' : Pos} {ta tv : TE}
def tXI (K : PySem.W.Frag) (t : TA) : TE := fun σ H Q => t σ H fun vs H1 => ∃ a C CF dx rest, vs = .ref a :: rest ∧ H1 a = some (ExcN a (.ref C) dx) ∧ XOwn K C CF ∧ rest.length ≤ sizeLine ∧ Q .non H1
end
section
variable {M : Model} {A : Around} {E : Value → Shared → Prop}
end
end L2

set_option Elab.async false
set_option linter.all false
set_option maxRecDepth 100000
set_option maxHeartbeats 4000000
namespace L2
open PySem PySem.Spec PyProof.Rows
section
variable {X : Cx} {EE : Value → Option Addr → St → Hp → Prop}
end
end L2

set_option Elab.async false
set_option linter.all false
set_option maxRecDepth 100000
set_option maxHeartbeats 4000000
namespace L2
open PySem PySem.Spec PyProof.Rows
def intT (i : Int) : Str := Str.ofString (toString i)
def shI (is : List Int) : Str := tupleText (is.map intT)
/-- the text that an f-string makes of a value -/
inductive FmtV (K : PySem.W.Frag) (H : Hp) : V → Str → Prop
  | int {i : Int} : i.natAbs.log2 < 1920 → FmtV K H (.int i) (intT i)
  | str {z : Str} : z.length ≤ sizeLine → FmtV K H (.str z) z
  | tup {a : Addr} {is : List Int} : SqT K H a (is.map V.int) → (∀ i ∈ is, i.natAbs.log2 < 1920) → (shI is).length ≤ sizeLine → FmtV K H (.ref a) (shI is)
theorem shownAll_ints : ∀ is : List Int, PyData.shownAll (is.map PyData.int) = is.map intT
  | [] => by simp [PyData.shownAll]
  | i :: is => by simp only [List.map_cons, PyData.shownAll, PyData.shown, shownAll_ints is]; rfl
theorem showableAll_ints : ∀ is : List Int, (∀ i ∈ is, i.natAbs.log2 < 1920) → PyData.showableAll (is.map PyData.int) = true
  | [], _ => by simp [PyData.showableAll]
  | i :: is, h => by
    simp only [List.map_cons, PyData.showableAll, PyData.showable, showableAll_ints is fun j hj => h j (List.mem_cons_of_mem _ hj), Bool.and_true, decide_eq_true_eq]
    exact h i (List.mem_cons_self ..)
theorem hasDictAll_ints : ∀ is : List Int, PyData.hasDictAll (is.map PyData.int) = false
  | [] => by simp [PyData.hasDictAll]
  | i :: is => by simp only [List.map_cons, PyData.hasDictAll, PyData.hasDict, hasDictAll_ints is, Bool.or_self]
theorem depthAll_ints : ∀ is : List Int, PyData.depthAll (is.map PyData.int) ≤ 1
  | [] => by simp [PyData.depthAll]
  | i :: is => by
    have := depthAll_ints is
    simp only [List.map_cons, PyData.depthAll, PyData.depth]
    omega
theorem readsAll_ints {h : Heap} : ∀ {is : List Int} {us : List Value}, Vals (is.map V.int) us → ReadsAll h us (is.map PyData.int) []
  | [], _, .nil => .nil
  | i :: is, _, .cons r t => by
    obtain ⟨tk, rfl⟩ := (show ∃ tk, _ = Value.int i tk from r)
    exact .cons (as := []) (bs := []) (.int i tk) (readsAll_ints t)
section
variable {X : Cx} {pins : List (Addr × Obj)} {σ : St} {H : Hp} {s : Shared}
theorem fmt_ok {k : Nat} {x : V} {u : Value} {y : Str} {Q : VK} (hr : RoomN k X.A) (I : Inv X pins σ H s) (r : RelV x u) (f : FmtV X.K H x y) (q : Q (.str y) H) : wpAny (model X.prog X.w) X.A (formatField u Str.empty) (EP X pins σ Q) X.xe s := by
  cases f with
  | int h =>
    obtain ⟨t, rfl⟩ := (show ∃ t, u = Value.int _ t from r)
    exact wpAny_formatField_int h ⟨.str (intT _), H, I.tok _, ⟨_, rfl⟩, q⟩
  | str h =>
    obtain ⟨t, rfl⟩ := (show ∃ t, u = Value.str y t from r)
    exact wpAny_formatField_str ⟨.str y, H, I, ⟨_, rfl⟩, q⟩ ⟨.str y, H, I.tok _, ⟨_, rfl⟩, q⟩ h
  | @tup a is hs hi hz =>
    cases (show u = Value.ref a from r)
    obtain ⟨its, vr, ⟨o, ho, hc, n, hd⟩, hl⟩ := I.tuple hs
    have rd : Reads s.heap (.ref a) (.tuple (is.map PyData.int)) [] := .tuple ho hc hd (readsAll_ints vr)
    have e : (PyData.tuple (is.map PyData.int)).shown = shI is := by simp only [PyData.shown, shownAll_ints]; rfl
    have hdp : (PyData.tuple (is.map PyData.int)).depth ≤ 3 := by
      have := depthAll_ints is
      simp only [PyData.depth]
      omega
    refine formatField_of_reads rd (by simp only [PyData.showable]; exact showableAll_ints is hi) (PyData.noDict_hsm (by simp only [PyData.hasDict]; exact hasDictAll_ints is)) hr.gd (by have := hr.un; omega) (fun _ _ z => z) (fun h' u tk hk => ?_) (by rw [e]; exact hz)
    rw [e]
    exact ⟨.str (shI is), H, I.kept hk, ⟨_, rfl⟩, q⟩
end
def tFmt (K : PySem.W.Frag) (tv : TE) : TE := fun σ H Q => tv σ H fun x H1 => ∃ y, FmtV K H1 x y ∧ Q (.str y) H1
abbrev TJ := Str → St → Hp → VK → Prop
def PJ (X : Cx) (es : List Expr) (t : TJ) : Prop := ∀ (pins : List (Addr × Obj)) (s : Shared) (σ : St) (H : Hp) (out : Str) (Q : VK), Inv X pins σ H s → t out σ H Q → wpAny (model X.prog X.w) X.A (joinParts out (evalEach es X.env)) (EP X pins σ Q) X.xe s
def jNil : TJ := fun out _ H Q => out.length ≤ sizeLine ∧ Q (.str out) H
def jCons (te : TE) (t : TJ) : TJ := fun out σ H Q => te σ H fun x H1 => ∃ y, x = .str y ∧ (out ++ y).length ≤ sizeLine ∧ t (out ++ y) σ H1 Q
def tJoin (t : TJ) : TE := fun σ H Q => t Str.empty σ H Q
section
variable {X : Cx} {k : Nat} {e e₂ : Expr} {es : List Expr} {te : TE} {t : TJ} {pos : Pos}
theorem pe_fmt (hr : RoomN k X.A) (h : PE X e te) : PE X (.FormattedValue e (-1) none pos) (tFmt X.K te) := by
  intro pins s σ H Q I hw
  refine FormattedValue_plain (thn (h pins s σ H _ I hw) fun u s1 ⟨x, H1, I1, r, y, f, q⟩ => ?_)
  exact fmt_ok hr I1 r f q
theorem pj_nil : PJ X [] jNil := fun pins s σ H out Q I h => joinParts_nil ⟨.str out, H, I.tok _, ⟨_, rfl⟩, h.2⟩ h.1
theorem pj_cons (h1 : PE X e te) (h2 : PJ X es t) : PJ X (e :: es) (jCons te t) := by
  intro pins s σ H out Q I h
  show wpAny _ _ (joinParts out (eval e X.env :: evalEach es X.env)) _ _ _
  refine joinParts_cons (thn (h1 pins s σ H _ I h) fun u s1 ⟨x, H1, I1, r, y, ex, hz, q⟩ => ?_)
  subst ex
  obtain ⟨tk, rfl⟩ := (show ∃ tk, u = Value.str y tk from r)
  exact ⟨hz, h2 pins s1 σ H1 (out ++ y) Q I1 q⟩
theorem pe_join (h : PJ X (e :: e₂ :: es) t) : PE X (.JoinedStr (e :: e₂ :: es) pos) (tJoin t) := fun pins s σ H Q I hw => JoinedStr_many (h pins s σ H Str.empty Q I hw)
end
def tXGet (K : PySem.W.Frag) (ta : TE) (f : Str) : TE := fun σ H Q => ta σ H fun x H1 => ∃ a C d fs v, x = .ref a ∧ H1 a = some (ExcO a (.ref C) (some d)) ∧ H1 d = some (.xd fs) ∧ XGet K C ∧ PySem.W.hasDictIn K C = true ∧ PySem.W.findIn K (.ref C) f = some none ∧ fs.lookup f = some v ∧ Q v H1
section
variable {X : Cx} {e : Expr} {f : Str} {pos : Pos} {ta : TE}
end
end L2

set_option Elab.async false
set_option linter.all false
set_option maxRecDepth 100000
set_option maxHeartbeats 4000000
namespace L2
open PySem PySem.Spec PyProof.Rows
section
variable {X : Cx} {EE : Value → Option Addr → St → Hp → Prop}
structure CalM (P : Program) (w : World) (K : PySem.W.Frag) (mg : Str → Option Value) (base : Heap) (CX : CXT) (k : Nat) (C : Addr) (m : Str) (ps : List Str) (sp : Sp) : Prop where
  ex : ∃ (f : Addr) (fd : FuncData), FnOk P w K mg base CX k f fd ps sp ∧ Binds K fd ps [] ∧ Meth K C m f
structure CalI (P : Program) (w : World) (K : PySem.W.Frag) (mg : Str → Option Value) (base : Heap) (CX : CXT) (k : Nat) (x : Str) (C : Addr) (ps : List Str) (sp : Sp) : Prop where
  ex : ∃ (f : Addr) (fd : FuncData), FnOk P w K mg base CX k f fd ps sp ∧ Binds K fd ps [] ∧ Mk K C f ∧ mg x = some (.ref C)
variable {C : Addr} {m x : Str} {k : Nat} {ps : List Str} {sp : Sp} {o e : Expr} {es : List Expr} {ta : TE} {t : TA} {apos pos p : Pos}
theorem pe_mk (O : CalI X.prog X.w X.K X.mg X.base CX0 k x C ps sp) (hr : Room (k + 1) X.A) (hg : Gl X x) (ha : PA X (e :: es) t)
    (hdb : (x == ("__debug__" : Str)) = false := by decide) (he : starEach (e :: es) X.env = (false, eval e X.env) :: starEach es X.env := by rfl) (hpl : (backTo pos (starEach es X.env)).any (·.1) = false := by rfl) :
    PE X (.Call (.Name x p) (e :: es) [] pos) (tMake C sp [] E0 t) := by
  obtain ⟨f, fd, F, hb, M, hm⟩ := O.ex
  exact pe_make M F hr hg hm hb .nil pass0 ha hdb he hpl
/-- o.m(..) that may raise -/
def tMethE (C : Addr) (m : Str) (sp : Sp) (EE : Value → Option Addr → St → Hp → Prop) (ta : TE) (t : TA) : TE := fun σ H Q => ta σ H fun x H1 => ∃ a dx fs, x = .ref a ∧ H1 a = some (.ins C dx fs) ∧ fs.lookup m = none ∧
  t σ H1 fun vs H2 => sp (x :: (vs ++ [])) H2 Q (fun c d H' => EE c d σ H')
def tMakeE (C : Addr) (sp : Sp) (EE : Value → Option Addr → St → Hp → Prop) (t : TA) : TE := fun σ H Q => t σ H fun vs H1 => ∀ x dx, H1 x = none → H1 dx = none → dx ≠ x →
  sp (.ref x :: (vs ++ [])) (upd (upd H1 dx (.own x)) x (.ins C dx [])) (fun v H2 => v = .non ∧ Q (.ref x) H2) (fun c d H' => EE c d σ H')
end
end L2

set_option Elab.async false
set_option linter.all false
set_option maxRecDepth 100000
set_option maxHeartbeats 4000000
namespace L2
open PySem PySem.Spec PyProof.Rows
theorem intT_len {i : Int} (h : i.natAbs.log2 < 1920) : (intT i).length ≤ 1921 := by
  have e := int_text_length_le (k := 1920) (by decide) h
  unfold intT
  rw [PySem.ofString_length]; omega
theorem fits {s : Str} {n : Nat} (h : s.length ≤ n) (hn : n ≤ 100000) : s.length ≤ sizeLine := Nat.le_trans h (Nat.le_trans hn (by decide))
theorem rd_join {t : TJ} {σ : St} {H : Hp} {Q : VK} (h : t Str.empty σ H Q) : tJoin t σ H Q := h
theorem rd_jnil {out : Str} {σ : St} {H : Hp} {Q : VK} (h : out.length ≤ sizeLine) (q : Q (.str out) H) : jNil out σ H Q := ⟨h, q⟩
/-- a written text: out is of at most n signs, the text of m -/
theorem rd_jc {x : Str} {t : TJ} {out : Str} {σ : St} {H : Hp} {Q : VK} (n : Nat) (hn : out.length ≤ n) (hz : n + x.length ≤ 100000) (h : (out ++ x).length ≤ n + x.length → t (out ++ x) σ H Q) : jCons (tC (.str x)) t out σ H Q := by
  have e : (out ++ x).length ≤ n + x.length := by rw [strLen_append]; omega
  exact ⟨x, rfl, fits e hz, h e⟩
/-- a whole number in the braces -/
theorem rd_ji {K : PySem.W.Frag} {j : Nat} {i : Int} {t : TJ} {out : Str} {σ : St} {H : Hp} {Q : VK} (n : Nat) (hn : out.length ≤ n) (hz : n + 1921 ≤ 100000) (hv : σ[j]? = some (some (.int i))) (hi : i.natAbs.log2 < 1920) (h : (out ++ intT i).length ≤ n + 1921 → t (out ++ intT i) σ H Q) :
    jCons (tFmt K (tVar j)) t out σ H Q := by
  have e : (out ++ intT i).length ≤ n + 1921 := by have := intT_len hi; rw [strLen_append]; omega
  exact ⟨.int i, hv, intT i, .int hi, intT i, rfl, fits e hz, h e⟩
theorem rd_xinit {K : PySem.W.Frag} {t : TA} {σ : St} {H : Hp} {Q : VK} (h : t σ H fun vs H1 => ∃ a C CF dx rest, vs = .ref a :: rest ∧ H1 a = some (ExcN a (.ref C) dx) ∧ XOwn K C CF ∧ rest.length ≤ sizeLine ∧ Q .non H1) : tXI K t σ H Q := h
theorem rd_xf1 {K : PySem.W.Frag} {ta tv : TE} {f : Str} {D : Ends} {σ : St} {H : Hp} (h : tv σ H fun y H1 => ta σ H1 fun x H2 => ∃ a C CF, x = .ref a ∧ H2 a = some (ExcN a (.ref C) none) ∧ XOwn K C CF ∧ PySem.W.findIn K (.ref C) f = some none ∧
  ∀ d, H2 d = none → D.nx σ (upd (upd H2 d (.xd [(f, y)])) a (ExcN a (.ref C) (some d)))) : sXF1 K ta tv f D σ H := h
theorem rd_xf2 {K : PySem.W.Frag} {ta tv : TE} {f : Str} {D : Ends} {σ : St} {H : Hp} (h : tv σ H fun y H1 => ta σ H1 fun x H2 => ∃ a C CF d fs, x = .ref a ∧ H2 a = some (ExcN a (.ref C) (some d)) ∧ H2 d = some (.xd fs) ∧ fs.length ≤ 900 ∧ XOwn K C CF ∧ PySem.W.findIn K (.ref C) f = some none ∧
  D.nx σ (upd H2 d (.xd (putF f y fs)))) : sXF2 K ta tv f D σ H := h
theorem rd_xget {K : PySem.W.Frag} {ta : TE} {f : Str} {σ : St} {H : Hp} {Q : VK} (h : ta σ H fun x H1 => ∃ a C d fs v, x = .ref a ∧ H1 a = some (ExcO a (.ref C) (some d)) ∧ H1 d = some (.xd fs) ∧ XGet K C ∧ PySem.W.hasDictIn K C = true ∧ PySem.W.findIn K (.ref C) f = some none ∧ fs.lookup f = some v ∧ Q v H1) : tXGet K ta f σ H Q := h
end L2

set_option Elab.async false
set_option linter.all false
set_option maxRecDepth 100000
set_option maxHeartbeats 4000000
namespace L2
open PySem PySem.Spec PyProof.Rows
section
variable {X : Cx}
def rNeT (K : PySem.W.Frag) : R2 := fun x y H Q => ∃ a b xs ys, x = .ref a ∧ y = .ref b ∧ SqT K H a xs ∧ SqT K H b ys ∧ xs.all flatV = true ∧ ys.all flatV = true ∧ Q (.bl (!eqVs xs ys)) H
theorem op_neT (hu : X.A.units < cLine) : OpR X (compareOp .NotEq) (rNeT X.K) := by
  intro pins s σ H x y v u Q I rx ry h
  obtain ⟨a, b, xs, ys, rfl, rfl, ha, hb, fx, fy, q⟩ := h
  cases rx
  cases ry
  obtain ⟨its, r, pl, _⟩ := I.tuple ha
  obtain ⟨its', r', pl', _⟩ := I.tuple hb
  obtain ⟨e, h1, h2⟩ := eqVs_range r r' fx fy
  exact SeqAt.RcNeAt.tuples (e := e) pl pl' hu (fun j k1 k2 => h1 _ _ j k1 k2) _ _ _ _ (by rw [h2]; exact ⟨.bl _, H, I, rfl, q⟩)
theorem rd_neT {K : PySem.W.Frag} {a b : Addr} {xs ys : List V} {H : Hp} {Q : VK} (ha : SqT K H a xs) (hb : SqT K H b ys) (fx : xs.all flatV = true) (fy : ys.all flatV = true) (q : Q (.bl (!eqVs xs ys)) H) : rNeT K (.ref a) (.ref b) H Q := ⟨a, b, xs, ys, rfl, rfl, ha, hb, fx, fy, q⟩
theorem rd_par {i j : Nat} {ta : TA} {D : Ends} {σ : St} {H : Hp} (h : ta σ H fun vs H1 => ∃ v w, vs = [v, w] ∧ D.nx ((σ.set i (some v)).set j (some w)) H1) : tPar i j ta D σ H := h
theorem rd_ifE {t : TT} {ta tb : TE} {σ : St} {H : Hp} {Q : VK} (h : t σ H fun c H1 => if c = true then ta σ H1 Q else tb σ H1 Q) : tIf t ta tb σ H Q := h
end
section
variable {X : Cx} {M : List Str} {x : Str} {scope : Scope} {cl : List (Str × Addr)} {C : Addr} {s₀ : Shared} {H₀ : Hp} {fp : List Addr}
theorem ix_list_c : IxR (compCx X M x scope cl C s₀ H₀ fp) (rIxL X.K) := ix_list
theorem ix_tup_c : IxR (compCx X M x scope cl C s₀ H₀ fp) (rIxT X.K) := ix_tup
end
section
variable {X : Cx} {tg : Expr}
def iRng2A (ta : TA) : TI := fun σ H R => ta σ H fun vs H1 => ∃ i j : Int, vs = [.int i, .int j] ∧ R (Itr i (j - i).toNat) H1
theorem rd_rng2A {ta : TA} {σ : St} {H : Hp} {R : It → Hp → Prop} (h : ta σ H fun vs H1 => ∃ i j : Int, vs = [.int i, .int j] ∧ R (Itr i (j - i).toNat) H1) : iRng2A ta σ H R := h
end
end L2

set_option Elab.async false
set_option linter.all false
set_option maxRecDepth 100000
set_option maxHeartbeats 4000000
namespace L2
open PySem PySem.Spec PyProof.Rows
section
variable {X : Cx}
def rBits : V → List V → Hp → VK → Prop := fun x vs H Q => ∃ n : Int, x = .int n ∧ vs = [] ∧ Q (.int ((Builtin.Int.intBits n : Nat) : Int)) H
theorem mt_bits : MtR X "int.bit_length" rBits := by
  intro pins s σ H x vs v us Q I rx rv h
  obtain ⟨n, rfl, rfl, q⟩ := h
  obtain ⟨t, rfl⟩ := rx
  cases rv.zero
  exact call_int_bit_length ⟨.int _, H, I.tok _, ⟨_, rfl⟩, q⟩
end
theorem rd_bitsV {K : PySem.W.Frag} {n : Int} {H : Hp} {Q : VK} (h : Q (.int ((Builtin.Int.intBits n : Nat) : Int)) H) : tyV K "int" (.int n) H ∧ rBits (.int n) [] H Q := ⟨rfl, n, rfl, rfl, h⟩
theorem rd_bm0 {K : PySem.W.Frag} {T : String} {r : V → List V → Hp → VK → Prop} {to : TE} {σ : St} {H : Hp} {Q : VK} (h : to σ H fun x H1 => tyV K T x H1 ∧ r x [] H1 Q) : tBM0 K T r to σ H Q := h
theorem rd_ext {K : PySem.W.Frag} {i : Nat} {t : TA} {σ : St} {H : Hp} {Q : VK} {l : Addr} {xs : List V} (e : σ[i]? = some (some (.ref l))) (h : H l = some (.lst xs))
    (g : t σ H fun ys H2 => rExtend (.ref l) ys H2 Q) : tBM K "list" rExtend (tVar i) t σ H Q := ⟨_, e, .inl ⟨rfl, _, SqL.of h⟩, g⟩
theorem intBits_nat {b : Nat} (h : b ≠ 0) : Builtin.Int.intBits (b : Int) = b.log2 + 1 := by
  unfold Builtin.Int.intBits
  rw [if_neg (by simp; omega), Int.natAbs_natCast]
theorem rd_gsub {to ti : TE} {t : TSet} {v : V} {σ : St} {H : Hp} {Q : St → Hp → Prop} (h : to σ H fun o H1 => ti σ H1 fun i H2 => t o i v H2 fun H3 => Q σ H3) : gSub to ti t v σ H Q := h
theorem ixN_nat {m k : Nat} (h : k < m) : ixN m (k : Int) = some k := by
  unfold ixN
  rw [if_pos (by omega), if_pos (by omega), Int.toNat_natCast]
theorem rd_setL {p : Addr} {xs : List V} {k : Nat} {v : V} {H : Hp} {Q : Hp → Prop} (h : H p = some (.lst xs)) (hk : k < xs.length) (q : Q (upd H p (.lst (xs.set k v)))) : rSetL (.ref p) (.int (k : Int)) v H Q :=
  ⟨p, xs, k, k, rfl, rfl, h, ixN_nat hk, q⟩
theorem rd_rep {l : Addr} {k : Int} {xs : List V} {H : Hp} {Q : VK} (h : H l = some (.lst xs)) (h0 : 0 ≤ k) (h1 : k < 2 ^ 60) (hz : xs.length * k.toNat ≤ sizeLine) (q : ∀ p, H p = none → Q (.ref p) (upd H p (.lst (List.replicate k.toNat xs).flatten))) : rRep (.ref l) (.int k) H Q :=
  ⟨l, k, xs, rfl, rfl, h, by omega, by omega, hz, q⟩
theorem rd_cat {l b : Addr} {xs zs : List V} {H : Hp} {Q : VK} (h : H l = some (.lst xs)) (g : H b = some (.lst zs)) (hz : xs.length + zs.length ≤ sizeLine) (q : ∀ p, H p = none → Q (.ref p) (upd H p (.lst (xs ++ zs)))) : rCat (.ref l) (.ref b) H Q :=
  ⟨l, b, xs, zs, rfl, rfl, h, g, hz, q⟩
theorem for_rangeS {lo c : Int} {n : Nat} {g : TG} {tb : TS} {D : Ends} {σ : St} {H : Hp} (Pv : Nat → St → Hp → Prop) (h0 : Pv 0 σ H)
    (hs : ∀ i σ H, i < n → Pv i σ H → g (.int (lo + i * c)) σ H fun σ2 H2 => tb { D with nx := Pv (i + 1), ct := Pv (i + 1), bk := D.nx } σ2 H2) (hd : ∀ σ H, Pv n σ H → D.nx σ H) :
    ∃ W : Nat → Nat → St → Hp → Prop, (∃ m, W 0 m σ H) ∧ ∀ i m σ H, W i m σ H →
      ((ItrS lo c n).stop i H ∧ D.nx σ H) ∨ ((ItrS lo c n).go i H ∧ ∃ N : St → Hp → Prop, (∀ σ' H', N σ' H' → ∃ m', m' < m ∧ W (i + 1) m' σ' H') ∧ ∀ x H', (ItrS lo c n).yld i H x H' → g x σ H' fun σ2 H2 => tb { D with nx := N, ct := N, bk := D.nx } σ2 H2) := by
  refine ⟨fun i m σ H => m = n - i ∧ i ≤ n ∧ Pv i σ H, ⟨n, by simp, Nat.zero_le _, h0⟩, ?_⟩
  rintro i m σ H ⟨rfl, hi, p⟩
  by_cases hlt : i < n
  · refine .inr ⟨hlt, Pv (i + 1), fun σ' H' p' => ⟨n - (i + 1), by omega, rfl, hlt, p'⟩, fun x H' y => ?_⟩
    obtain ⟨e, y⟩ := y
    subst e y
    exact hs i σ _ hlt p
  · have e : i = n := by omega
    subst e
    exact .inl ⟨Nat.le_refl _, hd σ H p⟩
theorem rangeSize_up {i j c : Int} (c0 : 0 < c) : Builtin.Range.rangeSize i j c = if i < j then (j - i - 1) / c + 1 else 0 := by
  unfold Builtin.Range.rangeSize
  rw [if_pos c0]
def tTruI (ta : TE) : TT := fun σ H Q => ta σ H fun x H' => ∃ i : Int, x = .int i ∧ Q (i != 0) H'
theorem rd_truI {i : Int} {H : Hp} {Q : Bool → Hp → Prop} (h : Q (i != 0) H) : ∃ j : Int, V.int i = .int j ∧ Q (j != 0) H := ⟨i, rfl, h⟩
theorem rd_tru {ta : TE} {σ : St} {H : Hp} {Q : Bool → Hp → Prop} (h : ta σ H fun x H' => ∃ i : Int, x = .int i ∧ Q (i != 0) H') : tTruI ta σ H Q := h
theorem pt_tru {X : Cx} {a : Expr} {ta : TE} (ha : PE X a ta) (he : ∀ whole, isTrue a X.env whole = (do let v ← whole; standAt a.pos; holding [v] (truthy v))) : PT X a (tTruI ta) := by
  intro pins s σ H Q I h
  refine isTrue_plain (thn (ha pins s σ H _ I h) fun v s1 ⟨x, H1, I1, r1, q1⟩ => ?_) (he _)
  obtain ⟨i, rfl, q⟩ := q1
  exact tru_ok pins s1 σ H1 _ v Q I1 r1 ⟨_, rfl, q⟩
section
variable {X : Cx} {M : List Str} {x : Str} {scope : Scope} {cl : List (Str × Addr)} {C : Addr} {s₀ : Shared} {H₀ : Hp} {fp : List Addr}
theorem call_len_c : CallR (compCx X M x scope cl C s₀ H₀ fp) (.builtin "len") (fun xs H Q => ∃ p ys, xs = [.ref p] ∧ (SqL X.K H p ys ∨ SqT X.K H p ys) ∧ Q (.int ys.length) H) := call_len_seq
end
theorem at_map {xs : List Int} {k : Nat} {x : Int} (h : xs[k]? = some x) : (xs.map V.int)[k]? = some (V.int x) := by rw [List.getElem?_map, h]; rfl
end L2

set_option Elab.async false
set_option linter.all false
set_option maxRecDepth 100000
set_option maxHeartbeats 4000000
namespace L2
open PySem PySem.Spec PyProof.Rows
theorem rd_slice {r : V → Option Int → Option Int → Hp → VK → Prop} {te : TE} {tl th : TO} {σ : St} {H : Hp} {Q : VK} (h : te σ H fun x H1 => tl σ H1 fun l H2 => th σ H2 fun u H3 => r x l u H3 Q) : tSl r te tl th σ H Q := h
theorem rd_slL {K : PySem.W.Frag} {a : Addr} {xs : List V} {lo hi : Option Int} {H : Hp} {Q : VK} (h : SqL K H a xs) (q : ∀ p, H p = none → Q (.ref p) (upd H p (.lst (cutV xs lo hi)))) : rSlL K (.ref a) lo hi H Q := ⟨a, xs, rfl, h, q⟩
theorem cutV_from (xs : List Int) (k : Nat) : cutV (xs.map V.int) (some (k : Int)) none = (xs.drop k).map V.int := by
  unfold cutV
  rw [HT.sIx_nat, HT.sIx_none, List.length_map, List.map_drop]
  by_cases h : k ≤ xs.length
  · rw [Nat.min_eq_left h, List.take_of_length_le (by rw [List.length_drop, List.length_map]; omega)]
  · rw [Nat.min_eq_right (by omega), List.drop_of_length_le (by rw [List.length_map]; omega), List.drop_of_length_le (by rw [List.length_map]; omega), List.take_nil]
theorem rd_part {t : TE} {σ : St} {H : Hp} {Q : Option Int → Hp → Prop} (h : t σ H fun x H1 => ∃ i, x = .int i ∧ Q (some i) H1) : tPart t σ H Q := h
theorem rd_exI {i : Int} {P : Int → Prop} (h : P i) : ∃ j, V.int i = .int j ∧ P j := ⟨i, rfl, h⟩
theorem rd_noPart {σ : St} {H : Hp} {Q : Option Int → Hp → Prop} (h : Q none H) : tNoPart σ H Q := h
end L2

set_option Elab.async false
set_option linter.all false
set_option maxRecDepth 100000
set_option maxHeartbeats 4000000
namespace L2
open PySem PySem.Spec PyProof.Rows
section
variable {X : Cx}
def tLR (ta : TA) : TE := fun σ H Q => ta σ H fun vs H1 => ∃ (i j c : Int) (n : Nat), (vs = [.int i, .int j, .int c] ∨ (vs = [.int i, .int j] ∧ c = 1)) ∧ 0 < c ∧ c < 1073741824 ∧ Builtin.Range.small i j c = true ∧ Builtin.Range.rangeSize i j c = (n : Int) ∧ n ≤ 1000000 ∧
  ∀ l, H1 l = none → Q (.ref l) (upd H1 l (.lst ((List.range n).map fun (k : Nat) => V.int (i + (k : Int) * c))))
theorem vals_of_itemsS {lo c : Int} : ∀ (acc : List Value) (k : Nat), (∀ (j : Nat) (v : Value), acc[j]? = some v → ∃ t, v = .int (lo + ((k + j : Nat) : Int) * c) t) → Vals ((List.range' k acc.length).map fun (i : Nat) => V.int (lo + (i : Int) * c)) acc
  | [], k, _ => .nil
  | v :: acc, k, h => by
    rw [List.length_cons, List.range'_succ, List.map_cons]
    refine .cons ?_ (vals_of_itemsS acc (k + 1) fun j u hu => ?_)
    · obtain ⟨t, ht⟩ := h 0 v (by simp)
      exact ⟨t, by rw [ht]; simp⟩
    · obtain ⟨t, ht⟩ := h (j + 1) u (by simpa using hu)
      exact ⟨t, by rw [ht, show k + (j + 1) = k + 1 + j by omega]⟩
theorem list_of_range {pins : List (Addr × Obj)} {σ : St} {H : Hp} {s : Shared} {r : Addr} {i j c : Int} {t u v : Tok} {n : Nat} {Q : VK} (hc : X.calm = true) (I : Inv X pins σ H s) (hr : IsRange s.heap r i j c t u v) (sm : Builtin.Range.small i j c = true) (hn : Builtin.Range.rangeSize i j c = (n : Int)) (hz : n ≤ 1000000)
    (q : ∀ l, H l = none → Q (.ref l) (upd H l (.lst ((List.range n).map fun (k : Nat) => V.int (i + (k : Int) * c))))) : wpAny (model X.prog X.w) X.A (call (.type "list") [.ref r]) (EP X pins σ Q) X.xe s := by
  refine call_list_range (I.ok.hd hc) hr sm hn (by omega) fun h' tk acc' c' hk hS' hacc => ?_
  have ha : acc'.toList.length = n := by simpa using hacc.1
  refine ⟨.ref _, _, I.laid (a := s.heap.objs.size) (o := .lst ((List.range n).map fun (k : Nat) => V.int (i + (k : Int) * c))) hk (Nat.le_refl _) ⟨?_, acc'.toList, c', ?_, by simpa using hS'⟩, rfl, q _ I.fresh⟩
  · rw [List.length_map, List.length_range, sizeLine_eq]
    omega
  · have := vals_of_itemsS (lo := i) (c := c) acc'.toList 0 fun j v hv => by rw [Nat.zero_add]; exact hacc.2 j v (by simpa using hv)
    rw [ha, ← List.range_eq_range'] at this
    exact this
theorem pe_lrange3 {a b d : Expr} {ta : TA} {p p2 pos pos2 : Pos} (hc : X.calm = true) (hgl : Gl X "list") (hml : X.mg "list" = none) (hgr : Gl X "range") (hmr : X.mg "range" = none) (ha : PA X [a, b, d] ta)
    (hs : starEach [a, b, d] X.env = (false, eval a X.env) :: starEach [b, d] X.env := by rfl) (hpl : (backTo pos2 (starEach [b, d] X.env)).any (·.1) = false := by rfl)
    (hs1 : starEach [.Call (.Name "range" p2) [a, b, d] [] pos2] X.env = (false, eval (.Call (.Name "range" p2) [a, b, d] [] pos2) X.env) :: starEach [] X.env := by rfl) :
    PE X (.Call (.Name "list" p) [.Call (.Name "range" p2) [a, b, d] [] pos2] [] pos) (tLR ta) := by
  intro pins s σ H Q I h
  refine wpAny_Call_Name_kw (ld_blt I hgl hml boot_list ?_ (by decide) (by decide))
  refine PyProof.Rows.callWith_type1 ?_ hs1 rfl
  rw [hs1]
  show wpAny _ _ (spliced ((false, eval _ X.env) :: backTo pos (starEach [] X.env))) _ _ s
  refine Calls.spliced_cons ?_
  refine Call_ (ld_blt I hgr hmr boot_range (PyProof.Rows.callWith_type1 (thn (ha pos2 pins s σ H _ I h) fun us s1 ⟨vs, H1, I1, r1, q1⟩ => ?_) hs hpl))
  obtain ⟨i, j, c, n, e, c0, c1, sm, hn, hz, q⟩ := q1
  rcases e with e | ⟨e, rfl⟩
  · subst e
    cases r1 with
    | cons r rr =>
      cases rr with
      | cons r' rr =>
        cases rr with
        | cons r'' rr =>
          cases rr
          obtain ⟨t, rfl⟩ := r
          obtain ⟨t', rfl⟩ := r'
          obtain ⟨t'', rfl⟩ := r''
          refine PySem.call_range_3 (by omega) ?_ (Or.inl (PyProof.noPylong_small (by omega)))
          refine Calls.spliced_nil ?_
          have I2 : Inv X pins σ H1 { s1 with heap := s1.heap.push { cls := .type "range", data := .fields #[.int i t, .int j t', .int c t''] }, toks := s1.toks } := I1.kept fun b o e => Heap.get?_push_of_some _ e
          exact list_of_range hc I2 (IsRange.new ..) sm hn hz q
  · subst e
    cases r1 with
    | cons r rr =>
      cases rr with
      | cons r' rr =>
        cases rr
        obtain ⟨t, rfl⟩ := r
        obtain ⟨t', rfl⟩ := r'
        refine call_range_2 ?_
        refine Calls.spliced_nil ?_
        have I2 : Inv X pins σ H1 { s1 with heap := s1.heap.push { cls := .type "range", data := .fields #[.int i t, .int j t', .int 1 s1.toks] }, toks := s1.toks + 1 } := I1.kept fun b o e => Heap.get?_push_of_some _ e
        exact list_of_range hc I2 (IsRange.new ..) sm hn hz q
end
theorem rd_lr {ta : TA} {σ : St} {H : Hp} {Q : VK} (h : ta σ H fun vs H1 => ∃ (i j c : Int) (n : Nat), (vs = [.int i, .int j, .int c] ∨ (vs = [.int i, .int j] ∧ c = 1)) ∧ 0 < c ∧ c < 1073741824 ∧ Builtin.Range.small i j c = true ∧ Builtin.Range.rangeSize i j c = (n : Int) ∧ n ≤ 1000000 ∧
  ∀ l, H1 l = none → Q (.ref l) (upd H1 l (.lst ((List.range n).map fun (k : Nat) => V.int (i + (k : Int) * c))))) : tLR ta σ H Q := h
end L2

set_option Elab.async false
set_option linter.all false
set_option maxRecDepth 100000
set_option maxHeartbeats 4000000
namespace L2
open PySem PySem.Spec PyProof.Rows
end L2

set_option Elab.async false
set_option linter.all false
set_option maxRecDepth 100000
set_option maxHeartbeats 4000000
namespace L2
open PySem PySem.Spec PyProof.Rows
def compCxT (X : Cx) (M : List Str) (xs : List Str) (scope : Scope) (cl : List (Str × Addr)) (C : Addr) (s₀ : Shared) (H₀ : Hp) (fp : List Addr) : Cx :=
  { X with N := xs ++ M, s₀ := s₀, H₀ := H₀, env := compEnvC scope cl C X.env, outer := X.stack, ex := fp, fn := fun _ => false, pn := [], xe := fun _ _ => False }
structure CompOkT (X : Cx) (M : List Str) (xs : List Str) (scope : Scope) (cl : List (Str × Addr)) : Prop where
  clos : closureFor scope X.env = pure cl
  cell : ∀ y ∈ scope.names, y.2 ≠ .cell
  kind : scope.kind = .function
  names : ∀ y ∈ scope.names, y.2 = .local → scope.names.lookup y.1 = some .local
  xl : ∀ x ∈ xs, scope.names.lookup x = some .local
  nd : (xs ++ M).Nodup
  len : M.length = X.N.length
  sub : ∀ y c, cl.lookup y = some c → X.env.cells.lookup y = some c
  has : ∀ y, ((relabel scope X.env).names.lookup y = some .cell ∨ (relabel scope X.env).names.lookup y = some .free) → ∃ c, cl.lookup y = some c
  vis : ∀ (i : Nat) (y : Str), M[i]? = some y → Vis (relabel scope X.env) y → X.N[i]? = some y ∧ ((relabel scope X.env).names.lookup y = some .cell ∨ (relabel scope X.env).names.lookup y = some .free) ∧ (X.env.scope.names.lookup y = some .cell ∨ X.env.scope.names.lookup y = some .free)
section
variable {X : Cx}
theorem comp_okT {M : List Str} {pins : List (Addr × Obj)} {σ : St} {H : Hp} {s : Shared} {xs : List Str} {scope : Scope} {cl : List (Str × Addr)} {C : Addr} {fp : List Addr} (I : Inv X pins σ H s) (ok : CompOkT X M xs scope cl) (hC : s.heap.objs.size ≤ C)
    (hf : ∀ b ∈ fp, FpOk X pins H b) (hb : ∀ b ∈ fp, b < s.heap.objs.size) : (compCxT X M xs scope cl C s H fp).Ok where
  mod := I.ok.mod
  kind := ok.kind
  glob := I.ok.glob
  blt := I.ok.blt
  above := hC
  inj := fun y z c h1 h2 => I.ok.inj y z c (ok.sub y c h1) (ok.sub z c h2)
  has := ok.has
  cab := fun y c h => by cases h
  hd := I.ok.hd
  frames := I.ok.frames
  stk := .inl rfl
  exf := fun b h => ⟨Nat.ne_of_lt (Nat.lt_of_lt_of_le (hb b h) hC), fun y c e => (hf b h).2.2.2.2.1 y c (ok.sub y c e)⟩
  bs := I.bs
  bsz := Nat.le_trans I.ok.bsz I.sz
  noex := fun b o e h => by
    rcases (hf b h).2.2.2.1 with z | z
    · exact I.ok.noex b o e z
    · exact absurd (Nat.lt_of_lt_of_le (Heap.lt_size (I.ok.bs b o e).1) z) (Nat.lt_irrefl _)
  exfs := fun b h z => by
    rcases List.mem_cons.mp (I.stkSub b z) with e | e
    · exact (hf b h).2.1 e
    · exact (hf b h).2.2.1 e
  funs := I.stack
  frf := I.stkFree

def CompRT (k : Nat) (g : TG) (tt : TT) (te : TE) (σ : St) (Q : VK) : It → Hp → Prop := fun J H1 => ∀ D, H1 D = none → ∃ W : Nat → Nat → List V → Hp → Prop, (∃ m, W 0 m [] (upd H1 D (.lst []))) ∧
  ∀ i m ys H2, W i m ys H2 → H2 D = some (.lst ys) ∧ ((J.stop i H2 ∧ Q (.ref D) H2) ∨ (J.go i H2 ∧ ys.length < sizeLine ∧ ∃ m', m' < m ∧ ∀ x H3, J.yld i H2 x H3 → ∀ ρ : St, ρ.length = k →
    g x (ρ ++ σ) H3 fun σ2 H4 => ∃ ρ2 : St, ρ2.length = k ∧ σ2 = ρ2 ++ σ ∧ tt σ2 H4 fun b H5 => if b = true then te σ2 H5 fun y H6 => H6 D = some (.lst ys) ∧ W (i + 1) m' (ys ++ [y]) (upd H6 D (.lst (ys ++ [y]))) else W (i + 1) m' ys H5))
def tCompT (k : Nat) (wi : TI) (g : TG) (tt : TT) (te : TE) : TE := fun σ H Q => wi σ H (CompRT k g tt te σ Q)
section
variable {prog : Program} {w : World} {A : Around} {R : Result → Shared → Prop}
abbrev NB (prog : Program) (w : World) (A : Around) (env : Env) (R : Result → Shared → Prop) : Value → Shared → Prop := notedBy (model prog w) A env fun e s' => R (.error e) s'
/-- the loop of a comprehension, the target's unpacking within the turn -/
theorem comp_turns {s : Shared} {elt tg iter : Expr} {ifs : List Expr} {scope : Scope} {pos : Pos} {it acc : Value} {env : Env} (I : Nat → Shared → Prop)
    (turn : ∀ n s, I n s → wpAny (model prog w) A (pyNext it)
      (fun r s1 => match r with
        | none => R (.ok .next) s1
        | some v => wpAny (model prog w) A (letOwnedTupleGo tg it v)
          (fun _ s2 => wpAny (model prog w) A (assign tg env v)
            (fun _ s3 => wpAny (model prog w) A (forIn ifs true fun c r => if r = true then (isTrue c env (eval c env) >>= fun ok => pure (ForInStep.yield ok)) else pure (ForInStep.yield r))
              (fun b s4 => if b = true then wpAny (model prog w) A (eval elt env)
                (fun x s5 => wpAny (model prog w) A (call (.builtin "list.append") [acc, x]) (fun _ s6 => ∃ m, m < n ∧ I m s6) (NB prog w A env R) s5) (NB prog w A env R) s4
                else ∃ m, m < n ∧ I m s4) (NB prog w A env R) s3) (NB prog w A env R) s2) (NB prog w A env R) s1) (NB prog w A env R) s)
    (n : Nat) (h : I n s) : codeAny (model prog w) A (.compLoop (.ListComp elt [⟨tg, iter, ifs, 0⟩] scope pos) 0 it acc env) R s := by
  refine codeAny_loop rfl I (fun n s hI => ?_) n h
  refine (show wpAny _ A ((compTurn (.ListComp elt [⟨tg, iter, ifs, 0⟩] scope pos) 0 it acc env).onRaise _) _ _ s from wpAny_noted ?_)
  rw [compTurn_list]
  refine wpAny_bind (wpAny_standAt (wpAny_bind (wpAny_mono (turn n s hI) (fun r s1 h1 => ?_) fun _ _ z => z)))
  cases r with
  | none => exact wpAny_pure h1
  | some v =>
    refine wpAny_bind (wpAny_mono h1 (fun _ s2 h2 => ?_) fun _ _ z => z)
    refine wpAny_bind (wpAny_mono h2 (fun _ s3 h3 => wpAny_bind (wpAny_mono h3 (fun b s4 h4 => ?_) fun _ _ z => z)) fun _ _ z => z)
    cases b with
    | false => exact wpAny_pure ⟨rfl, h4⟩
    | true =>
      refine wpAny_bind (wpAny_bind (wpAny_mono h4 (fun x s5 h5 => ?_) fun _ _ z => z))
      exact wpAny_bind (wpAny_mono h5 (fun _ s6 h6 => wpAny_pure (wpAny_pure ⟨rfl, h6⟩)) fun _ _ z => z)
end
theorem comp_coreT {M : List Str} {elt iter tg : Expr} {xs : List Str} {pos : Pos} {ifs : List Expr} {scope : Scope} {cl : List (Str × Addr)} {g : TG} {tt : TT} {te : TE} (hc : X.calm = true) (ok : CompOkT X M xs scope cl)
    (ht : ∀ C s₀ H₀ fp, PIfs (compCxT X M xs scope cl C s₀ H₀ fp) ifs tt) (hg : ∀ C s₀ H₀ fp, PG (compCxT X M xs scope cl C s₀ H₀ fp) tg g) (he : ∀ C s₀ H₀ fp, PE (compCxT X M xs scope cl C s₀ H₀ fp) elt te)
    {pins : List (Addr × Obj)} {σ : St} {H2 : Hp} {s2 : Shared} {it : Addr} {fp : List Addr} {tn : Nat → Heap → Prop} {J : It} {Q : VK} (I2 : Inv X pins σ H2 s2) (T : Turn X.prog X.w X.K tg J fp it tn) (st2 : tn 0 s2.heap) (f2 : ∀ b ∈ fp, FpOk X pins H2 b)
    (hW : CompRT xs.length g tt te σ Q J H2) (post : Value → Addr → Result → Shared → Prop)
    (fin : ∀ D C H3 s4, Inv X pins σ H3 s4 → (∃ m, s4.heap.Ns C m) → FpOk X pins H3 C → Q (.ref D) H3 → post (.ref D) C (.ok .next) s4) :
    wpAny (model X.prog X.w) X.A (newList []) (fun acc s₃ => wpAny (model X.prog X.w) X.A (newFunctionEnv scope X.env.globals cl [] X.env.qual none .none (some X.env)) (fun cenv s₄ =>
      codeAny (model X.prog X.w) X.A (.compStart (.ListComp elt [⟨tg, iter, ifs, 0⟩] scope pos) 0 (.ref it) acc { cenv with scope := relabel scope X.env }) (post acc cenv.locals) s₄) X.xe s₃) X.xe s2 := by
  refine wpAny_newObj_type (wpAny_newFunctionEnv ok.cell (by intro y hy; simp at hy) (fun h₁ hns₁ hsb₁ => ?_) ok.kind)
  dsimp only at hns₁ hsb₁ ⊢
  generalize hH2 : s2.heap.push { cls := .type "list", dict := none, data := .seq ([] : List Value).toArray } = G2 at hns₁ hsb₁ ⊢
  have hC : G2.objs.size = s2.heap.objs.size + 1 := by rw [← hH2, Heap.size_push]
  have hDC : s2.heap.objs.size ≠ G2.objs.size := by rw [hC]; exact Nat.ne_of_lt (Nat.lt_succ_self _)
  have hCle : s2.heap.objs.size ≤ G2.objs.size := by rw [hC]; exact Nat.le_succ _
  have below : ∀ b, b < s2.heap.objs.size → b ≠ G2.objs.size ∧ b ≠ s2.heap.objs.size := fun b hb => ⟨by rw [hC]; exact Nat.ne_of_lt (Nat.lt_succ_of_lt hb), Nat.ne_of_lt hb⟩
  have old : ∀ b o, s2.heap.get? b = some o → h₁.get? b = some o := fun b o e => hsb₁.extBut b o (below b (Heap.lt_size e)).1 (Heap.get?_push_of_some _ (hH2 ▸ Heap.get?_push_of_some _ e))
  have hacc : h₁.get? s2.heap.objs.size = some { cls := .type "list", data := .seq ([] : List Value).toArray } := hsb₁.extBut _ _ hDC (Heap.get?_push_of_some _ (hH2 ▸ Heap.get?_push_size _ rfl))
  have fpb : ∀ b ∈ fp, b < s2.heap.objs.size := fun b hb => by
    obtain ⟨o, e, _⟩ := T.obj _ _ st2 b hb
    exact Heap.lt_size e
  have hD0 : H2 s2.heap.objs.size = none := I2.hok.fresh (Nat.le_refl _)
  have hC0 : H2 G2.objs.size = none := I2.hok.fresh hCle
  generalize hDD : s2.heap.objs.size = D at *
  generalize hCC : G2.objs.size = C at *
  obtain ⟨W, ⟨m0, w0⟩, turn⟩ := hW D hD0
  have okX : (compCxT X M xs scope cl C s2 H2 fp).Ok := comp_okT I2 ok (by rw [hDD]; exact hCle) f2 (by rw [hDD]; exact fpb)
  have lenN : (List.replicate xs.length none ++ σ : St).length = (compCxT X M xs scope cl C s2 H2 fp).N.length := by
    show (List.replicate xs.length none ++ σ).length = (xs ++ M).length
    rw [List.length_append, List.length_append, List.length_replicate, I2.len, ok.len]
  -- the values of the names around it, seen from within
  have locs : ∀ (h' : Heap) (m : Str → Option Value), (∀ y c, X.env.cells.lookup y = some c → ∀ v, s2.heap.IsCell c v → h'.IsCell c v) →
      ∀ (j : Nat) (y : Str) (v : V), (xs ++ M)[j]? = some y → (List.replicate xs.length none ++ σ : St)[j]? = some (some v) → Vis (relabel scope X.env) y → ∃ u, RelV v u ∧ Look (compEnvC scope cl C X.env) h' m y u := by
    intro h' m hcell j y v e1 e2 e3
    rcases Nat.lt_or_ge j xs.length with jl | jl
    · rw [List.getElem?_append_left (by rw [List.length_replicate]; exact jl), List.getElem?_replicate, if_pos jl] at e2
      cases e2
    · obtain ⟨i, rfl⟩ : ∃ i, j = xs.length + i := ⟨j - xs.length, by omega⟩
      have e0 : M[i]? = some y := by
        rw [List.getElem?_append_right (Nat.le_add_right _ _), Nat.add_sub_cancel_left] at e1
        exact e1
      have e2' : σ[i]? = some (some v) := by
        rw [List.getElem?_append_right (by rw [List.length_replicate]; exact Nat.le_add_right _ _), List.length_replicate, Nat.add_sub_cancel_left] at e2
        exact e2
      obtain ⟨e1', k1, k2⟩ := ok.vis i y e0 e3
      obtain ⟨m2, _, hl⟩ := I2.loc
      obtain ⟨u, r, l⟩ := hl i y v e1' e2' (k2.elim (fun z => .inr (.inl z)) fun z => .inr (.inr z))
      obtain ⟨c', hc'⟩ := ok.has y k1
      rcases l with ⟨z, _⟩ | ⟨_, c, hcc, z⟩
      · have z' : X.env.scope.names.lookup y = some .local := z
        rcases k2 with q | q <;> (rw [q] at z'; cases z')
      · have q := ok.sub y c' hc'
        rw [hcc] at q
        cases q
        exact ⟨u, r, .inr ⟨k1, c', hc', hcell y c' hcc _ z⟩⟩
  have I0 : Inv (compCxT X M xs scope cl C s2 H2 fp) [] (List.replicate xs.length none ++ σ) (upd H2 D (.lst [])) { s2 with heap := h₁, toks := s2.toks + ([] : List (Str × Value)).length } := by
    refine ⟨okX, rfl, I2.bare, ?_, ⟨_, hns₁, locs h₁ _ (fun y c e v z => ?_)⟩, fun y c e => ?_, ?_, fun y c e => ?_, fun p hp => ?_, ?_, lenN⟩
    · exact Un.laid old (Nat.le_of_eq hDD) hD0
    · obtain ⟨o, ho, hd⟩ := z
      exact ⟨o, old c o ho, hd⟩
    · obtain ⟨v, o, ho, hd⟩ := I2.cell y c (ok.sub y c e)
      exact ⟨v, o, old c o ho, hd⟩
    · show upd H2 D (.lst []) C = none
      rw [upd_ne (Ne.symm hDC)]
      exact hC0
    · have hn := I2.freeC y c (ok.sub y c e)
      obtain ⟨v, o, ho, hd⟩ := I2.cell y c (ok.sub y c e)
      rw [upd_ne (fun z => by have := Heap.lt_size ho; rw [hDD, z] at this; exact Nat.lt_irrefl _ this)]
      exact hn
    · exact absurd hp (by show p ∉ ([] ++ [] : List (Addr × Obj)); simp)
    · refine I2.hok.laid old (Nat.le_of_eq hDD) ⟨Nat.zero_le _, [], _, .nil, hacc⟩
  have fpk : ∀ {H' : Hp}, (∀ b ∈ fp, H' b = none) → ∀ b ∈ fp, FpOk (compCxT X M xs scope cl C s2 H2 fp) [] H' b := fun hn b hb => by
    refine ⟨hn b hb, (below b (fpb b hb)).1, okX.exfs b hb, .inl hb, fun y c e => (f2 b hb).2.2.2.2.1 y c (ok.sub y c e), fun p hp => ?_⟩
    exact absurd hp (by show p ∉ ([] ++ [] : List (Addr × Obj)); simp)
  have loop : ∀ s₃ : Shared, s₃ = { s2 with heap := h₁, toks := s2.toks + ([] : List (Str × Value)).length } →
      codeAny (model X.prog X.w) X.A (.compLoop (.ListComp elt [⟨tg, iter, ifs, 0⟩] scope pos) 0 (.ref it) (.ref D) (compEnvC scope cl C X.env))
        (post (.ref D) C) s₃ := by
    rintro s₃ rfl
    refine comp_turns (fun n s' => ∃ i ys w' H', w'.length = xs.length ∧ Inv (compCxT X M xs scope cl C s2 H2 fp) [] (w' ++ σ) H' s' ∧ tn i s'.heap ∧ (∀ b ∈ fp, H' b = none) ∧ W i n ys H') ?_ m0
      ⟨0, [], List.replicate xs.length none, _, List.length_replicate, I0, T.keep _ _ _ st2 (fun b _ o e => old b o e), fun b hb => by rw [upd_ne (below b (fpb b hb)).2]; exact (f2 b hb).1, w0⟩
    rintro n s3 ⟨i, ys, w3, H3, l3, I3, st3, fr3, wt⟩
    obtain ⟨hD3, hh⟩ := turn i n ys H3 wt
    rcases hh with ⟨stop, q⟩ | ⟨go, hlen, m', hm, step⟩
    · refine thn (T.done (compCxT X M xs scope cl C s2 H2 fp) rfl rfl rfl hc i [] s3 (w3 ++ σ) H3 _ I3 (fpk fr3) st3 stop) fun r s4 ⟨hr, I4⟩ => ?_
      subst hr
      obtain ⟨m4, hn4, _⟩ := id I4.loc
      have hC4 : H3 C = none := I4.free
      exact fin D C H3 s4 (I2.call' (ch := fp) I4.os I4.base I4.hok I4.bare fun b hb => ⟨(f2 b hb).2.2.2.1, (f2 b hb).2.1, (f2 b hb).2.2.2.2.1, (f2 b hb).2.2.2.2.2⟩) ⟨m4, hn4⟩ (I2.fpOk (by rw [hDD]; exact hCle) hC4) q
    · refine wpAny_mono (T.item (compCxT X M xs scope cl C s2 H2 fp) rfl rfl rfl hc i [] s3 (w3 ++ σ) H3 (fun _ _ => False) I3 (fpk fr3) st3 go) (fun r s4 h4 => ?_) (fun _ _ z => z.elim)
      obtain ⟨u, hr, h4⟩ := h4
      subst hr
      refine wpAny_mono h4 (fun _ s4 h4 => ?_) (fun _ _ z => z.elim)
      obtain ⟨x', H5, I5, r5, y5, st5, fr5⟩ := h4
      have I5' := I5.pinned (fpk fr5) (T.obj _ _ st5)
      refine wpAny_mono (hg C s2 H2 fp _ s4 _ H5 x' u _ I5' r5 (step x' H5 y5 w3 l3)) (fun _ s6 h6 => ?_) (fun _ _ z => z.elim)
      obtain ⟨σ6, H6, I6, w6, l6, rfl, q6⟩ := h6
      have back : ∀ {s7 : Shared} {H7 : Hp} {w7 : St}, Inv (compCxT X M xs scope cl C s2 H2 fp) ([] ++ pinsAt fp s4.heap) (w7 ++ σ) H7 s7 → tn (i + 1) s7.heap ∧ (∀ b ∈ fp, H7 b = none) ∧ Inv (compCxT X M xs scope cl C s2 H2 fp) [] (w7 ++ σ) H7 s7 := fun {s7 H7 w7} I7 => by
        refine ⟨T.keep _ _ _ st5 fun b hb o e => (I7.pin (b, o) (List.mem_append_right _ (List.mem_append_right _ (mem_pinsAt hb e)))).1, fun b hb => ?_, I7.unpinned⟩
        obtain ⟨o, e, d⟩ := T.obj _ _ st5 b hb
        exact (I7.pin (b, o) (List.mem_append_right _ (List.mem_append_right _ (mem_pinsAt hb e)))).2.1
      refine wpAny_mono (ht C s2 H2 fp _ s6 _ H6 _ I6 q6) (fun ok' s7 h7 => ?_) (fun _ _ z => z.elim)
      obtain ⟨H7, I7, q7⟩ := h7
      cases ok' with
      | false =>
        have q7' : W (i + 1) m' ys H7 := by simpa using q7
        rw [if_neg Bool.false_ne_true]
        obtain ⟨b1, b2, b3⟩ := back I7
        exact ⟨m', hm, i + 1, ys, _, H7, l6, b3, b1, b2, q7'⟩
      | true =>
        rw [if_pos rfl] at q7 ⊢
        refine wpAny_mono (he C s2 H2 fp _ s7 _ H7 _ I7 q7) (fun y s8 h8 => ?_) (fun _ _ z => z.elim)
        obtain ⟨v8, H8, I8, r8, hD8, w8⟩ := h8
        refine wpAny_mono (mt_append (X := compCxT X M xs scope cl C s2 H2 fp) _ s8 _ H8 (.ref D) [v8] (.ref D) [y] (fun _ H9 => H9 = upd H8 D (.lst (ys ++ [v8]))) I8 rfl (.cons r8 .nil) ⟨D, ys, v8, rfl, rfl, hD8, hlen, rfl⟩) (fun _ s9 h9 => ?_) (fun _ _ z => z.elim)
        obtain ⟨v9, H9, I9, _, e9⟩ := h9
        subst e9
        obtain ⟨b1, b2, b3⟩ := back I9
        exact ⟨m', hm, i + 1, _, _, _, l6, b3, b1, b2, w8⟩
  exact codeAny_compStart_list (loop _ rfl) (T.self _ 0 _ _ _ (T.keep _ _ _ st2 (fun b _ o e => old b o e)) (loop _ rfl))
theorem compOkT_freeM {scope : Scope} {cl : List (Str × Addr)} (xs M N : List Str) (hl : M.length = N.length) (hN : X.N = N) (clos : closureFor scope X.env = pure cl) (hc : (scope.names.all fun y => y.2 != .cell) = true) (hk : scope.kind = .function)
    (hn : (scope.names.all fun y => y.2 != .local || scope.names.lookup y.1 == some .local) = true) (hx : (xs.all fun x => scope.names.lookup x == some .local) = true) (nd : (xs ++ M).Nodup)
    (hs : ∀ p ∈ cl, X.env.cells.lookup p.1 = some p.2)
    (hh : ((relabel scope X.env).names.all fun p => (p.2 != .cell && p.2 != .free) || (cl.lookup p.1).isSome) = true)
    (hv : ((M.zip N).all fun q => match (relabel scope X.env).names.lookup q.1 with
      | some .local => false
      | some .cell => q.1 == q.2 && (X.env.scope.names.lookup q.1 == some .cell || X.env.scope.names.lookup q.1 == some .free)
      | some .free => q.1 == q.2 && (X.env.scope.names.lookup q.1 == some .cell || X.env.scope.names.lookup q.1 == some .free)
      | _ => true) = true) : CompOkT X M xs scope cl := by
  refine ⟨clos, fun y hy => ?_, hk, fun y hy hl => ?_, (fun x hm => by simpa using List.all_eq_true.mp hx x hm), nd, by rw [hN]; exact hl, fun y c h => hs _ (lookup_mem h), fun y h => ?_, fun i y hy h => ?_⟩
  · have := List.all_eq_true.mp hc y hy
    simpa using this
  · have := List.all_eq_true.mp hn y hy
    simpa [hl] using this
  · rcases h with h | h
    · have := List.all_eq_true.mp hh _ (lookup_mem h)
      exact Option.isSome_iff_exists.mp (by simpa using this)
    · have := List.all_eq_true.mp hh _ (lookup_mem h)
      exact Option.isSome_iff_exists.mp (by simpa using this)
  · have hi : i < N.length := by
      have := (List.getElem?_eq_some_iff.mp hy).1
      omega
    have hz : (y, N[i]) ∈ M.zip N := by
      have : (M.zip N)[i]? = some (y, N[i]) := List.getElem?_zip_eq_some.mpr ⟨hy, by simp [hi]⟩
      exact List.mem_of_getElem? this
    have z := List.all_eq_true.mp hv _ hz
    have fin : y = N[i] → X.N[i]? = some y := fun e => by rw [hN, e]; simp [hi]
    rcases h with h | h | h
    · dsimp only at z
      rw [h] at z; cases z
    · dsimp only at z
      rw [h] at z
      simp only [Bool.and_eq_true, beq_iff_eq, Bool.or_eq_true] at z
      exact ⟨fin z.1, .inl h, z.2⟩
    · dsimp only at z
      rw [h] at z
      simp only [Bool.and_eq_true, beq_iff_eq, Bool.or_eq_true] at z
      exact ⟨fin z.1, .inr h, z.2⟩
end
theorem rd_compT {k : Nat} {wi : TI} {g : TG} {tt : TT} {te : TE} {σ : St} {H : Hp} {Q : VK} (h : wi σ H (CompRT k g tt te σ Q)) : tCompT k wi g tt te σ H Q := h
end L2
namespace L2
open PySem PySem.Spec PyProof.Rows
theorem rd_fld {K : PySem.W.Frag} {ta : TE} {f : Str} {σ : St} {H : Hp} {Q : VK} (h : ta σ H fun x H1 => ∃ a C dx fs v, x = .ref a ∧ H1 a = some (.ins C dx fs) ∧ Cls K C ∧ NoAttr K C f ∧ fs.lookup f = some v ∧ Q v H1) : tFld K ta f σ H Q := h
theorem rd_sfld {K : PySem.W.Frag} {ta tv : TE} {f : Str} {D : Ends} {σ : St} {H : Hp} (h : tv σ H fun y H1 => ta σ H1 fun x H2 => ∃ a C dx fs, x = .ref a ∧ H2 a = some (.ins C dx fs) ∧ Cls K C ∧ NoAttr K C f ∧ fs.length < 1000 ∧ D.nx σ (upd H2 a (.ins C dx (putF f y fs)))) : sFld K ta tv f D σ H := h
theorem rd_meth {C : Addr} {m : Str} {sp : Sp} {ta : TE} {t : TA} {σ : St} {H : Hp} {Q : VK} (h : ta σ H fun x H1 => ∃ a dx fs, x = .ref a ∧ H1 a = some (.ins C dx fs) ∧ fs.lookup m = none ∧ t σ H1 fun vs H2 => sp (x :: (vs ++ [])) H2 Q E0) : tMeth C m sp [] E0 ta t σ H Q := h
end L2

set_option Elab.async false
set_option linter.all false
set_option maxRecDepth 100000
set_option maxHeartbeats 4000000
namespace L2
open PySem PySem.Spec PyProof.Rows
section
variable {X : Cx} {M xs : List Str} {scope : Scope} {cl : List (Str × Addr)} {C : Addr} {s₀ : Shared} {H₀ : Hp} {fp : List Addr}
theorem pg_tup_c {es : List Expr} {k : Nat} {t : TGs} {n : Nat} {pos : Pos} (hc : X.calm = true) (h : PGs (compCxT X M xs scope cl C s₀ H₀ fp) es t)
    (hn : (assignEach es (compCxT X M xs scope cl C s₀ H₀ fp).env).length = n := by rfl) (hst : (assignEach es (compCxT X M xs scope cl C s₀ H₀ fp).env).findIdx? (·.1) = none := by rfl) : PG (compCxT X M xs scope cl C s₀ H₀ fp) (.Tuple es k pos) (gTup X.K n t) :=
  pg_tup hc h hn hst
end
end L2

set_option Elab.async false
set_option linter.all false
set_option maxRecDepth 100000
set_option maxHeartbeats 4000000
namespace L2
open PySem PySem.Spec PyProof.Rows
structure FunD (K : PySem.W.Frag) (x qual : Str) (st : Stmt) (f : Addr) (fd : FuncData) (ds : Array Value) : Prop where
  ex : ∃ (oc : Value) (od : Option Addr) (T : Addr) (to : Obj) (tn : Nat) (kV doc pm : Value) (an : Option Addr) (cdv ct : Value) (osl : Array (Option Value)),
    fd = PySem.W.fnOf x qual (defArgs st) (defBody st) (defScope st) (.ref T) kV doc pm an cdv ct ∧ K.lookup f = some ⟨oc, od, .func fd, osl⟩ ∧ PySem.W.codeIn K cdv qual = true ∧ K.lookup T = some to ∧ to.data = .seq ds tn
  kp : PySem.W.keepIn K (.ref f) = true
section
variable {P : Program} {w : World} {K : PySem.W.Frag} {mg : Str → Option Value} {base : Heap} {x qual : Str} {st : Stmt} {f : Addr} {fd : FuncData} {N ps : List Str} {k : Nat} {sp : Sp} {ds : Array Value}
theorem FunD.ok (F : FunD K x qual st f fd ds) (S : FnScope N ps (defScope st)) (len : ∀ vs H Q E, sp vs H Q E → vs.length = ps.length)
    (hbody : ∀ (cdv : Value) (A : Around) (outer : List Env) (s : Shared) (H : Hp) (vs : List V) (Q : VK) (E : XK), Room k (A.deeper (envOfC qual (defScope st) s.heap.objs.size f cdv)) → sp vs H Q E →
      ∃ t, PSs (cxOf CX0 P w K mg base N qual (defScope st) f cdv A outer s H E).nox (defBody st) t ∧ t { nx := fun _ H' => Q .non H', rt := Q } (start N vs) H) : FnOk P w K mg base CX0 (k + 1) f fd ps sp := by
  obtain ⟨oc, od, T, to, tn, kV, doc, pm, an, cdv, ct, osl, rfl, lk, hcd, _⟩ := F.ex
  refine fn_of lk hcd S len fun A outer s H vs Q E hr hsp => ?_
  obtain ⟨t, h, q⟩ := hbody cdv A outer s H vs Q E hr hsp
  exact ⟨t, h.nox, q⟩
theorem FunD.binds (F : FunD K x qual st f fd ds)
    (h : ∀ (T : Addr) (kV doc pm : Value) (an : Option Addr) (cdv ct : Value) (us : List Value), us.length = ps.length → bindArgs (PySem.W.fnOf x qual (defArgs st) (defBody st) (defScope st) (.ref T) kV doc pm an cdv ct) ⟨us, []⟩ = pure (ps.zip us)) : Binds K fd ps [] := by
  obtain ⟨oc, od, T, to, tn, kV, doc, pm, an, cdv, ct, osl, rfl, lk, hcd, _⟩ := F.ex
  exact .all (h T kV doc pm an cdv ct)
/-- fewer arguments than parameters: the last defaults fill up -/
theorem FunD.bindsD {dv : List Value} (n : Nat) (hn : n + dv.length = ps.length) (F : FunD K x qual st f fd ds)
    (h : ∀ (T : Addr) (kV doc pm : Value) (an : Option Addr) (cdv ct : Value) (us : List Value), us.length = n →
      ∃ k : Option (Array Value) → Sem (List (Str × Value)), bindArgs (PySem.W.fnOf x qual (defArgs st) (defBody st) (defScope st) (.ref T) kV doc pm an cdv ct) ⟨us, []⟩ = seqItems? (.ref T) >>= k ∧ k (some ds) = pure (ps.zip (us ++ dv))) : Binds K fd ps dv := by
  obtain ⟨oc, od, T, to, tn, kV, doc, pm, an, cdv, ct, osl, rfl, lk, hcd, ht, hs⟩ := F.ex
  intro s us KX hl
  obtain ⟨k, h1, h2⟩ := h T kV doc pm an cdv ct us (by rw [List.length_append] at hl; omega)
  exact PySem.W.binds_K KX rfl ht hs h1 h2
theorem fun_mkD {oc : Value} {od an : Option Addr} {osl : Array (Option Value)} {kV doc pm cdv ct : Value} {T : Addr} {to : Obj} {tn : Nat} (l : K.lookup f = some ⟨oc, od, .func (PySem.W.fnOf x qual (defArgs st) (defBody st) (defScope st) (.ref T) kV doc pm an cdv ct), osl⟩)
    (c : PySem.W.codeIn K cdv qual = true) (k : PySem.W.keepIn K (.ref f) = true) (t : K.lookup T = some to) (d : to.data = .seq ds tn) : FunD K x qual st f (PySem.W.fnOf x qual (defArgs st) (defBody st) (defScope st) (.ref T) kV doc pm an cdv ct) ds :=
  ⟨⟨oc, od, T, to, tn, kV, doc, pm, an, cdv, ct, osl, rfl, l, c, t, d⟩, k⟩
end
section
variable {X : Cx} {EE : Value → Option Addr → St → Hp → Prop} {C : Addr} {m x : Str} {k : Nat} {ps : List Str} {dvs : List V} {sp : Sp} {o e : Expr} {es : List Expr} {ta : TE} {t : TA} {apos pos p : Pos}
end
section
variable {X : Cx}
end
end L2
namespace L2
open PySem PySem.Spec PyProof.Rows
theorem rd_makeD {C : Addr} {sp : Sp} {dvs : List V} {t : TA} {σ : St} {H : Hp} {Q : VK} (h : t σ H fun vs H1 => ∀ x dx, H1 x = none → H1 dx = none → dx ≠ x → sp (.ref x :: (vs ++ dvs)) (upd (upd H1 dx (.own x)) x (.ins C dx [])) (fun v H2 => v = .non ∧ Q (.ref x) H2) E0) : tMake C sp dvs E0 t σ H Q := h
theorem rd_makeE {C : Addr} {sp : Sp} {EE : XE} {t : TA} {σ : St} {H : Hp} {Q : VK} (h : t σ H fun vs H1 => ∀ x dx, H1 x = none → H1 dx = none → dx ≠ x → sp (.ref x :: (vs ++ [])) (upd (upd H1 dx (.own x)) x (.ins C dx [])) (fun v H2 => v = .non ∧ Q (.ref x) H2) (fun c d H' => EE c d σ H')) : tMakeE C sp EE t σ H Q := h
theorem rd_methE {C : Addr} {m : Str} {sp : Sp} {EE : XE} {ta : TE} {t : TA} {σ : St} {H : Hp} {Q : VK} (h : ta σ H fun x H1 => ∃ a dx fs, x = .ref a ∧ H1 a = some (.ins C dx fs) ∧ fs.lookup m = none ∧ t σ H1 fun vs H2 => sp (x :: (vs ++ [])) H2 Q (fun c d H' => EE c d σ H')) : tMethE C m sp EE ta t σ H Q := h
end L2

set_option Elab.async false
set_option linter.all false
set_option maxRecDepth 100000
set_option maxHeartbeats 4000000
namespace L2
open PySem PySem.Spec PyProof.Rows
def plainV : V → Bool
  | .byt _ => false
  | .flt _ => false
  | _ => true
inductive EqV (K : PySem.W.Frag) (H : Hp) : Nat → V → V → Prop
  | same {n : Nat} {v : V} : plainV v = true → EqV K H n v v
  | lst {n : Nat} {a b : Addr} {xs ys : List V} : SqL K H a xs → SqL K H b ys → xs.length = ys.length → (∀ (i : Nat) x y, xs[i]? = some x → ys[i]? = some y → EqV K H n x y) → EqV K H (n + 1) (.ref a) (.ref b)
  | tup {n : Nat} {a b : Addr} {xs ys : List V} : SqT K H a xs → SqT K H b ys → xs.length = ys.length → (∀ (i : Nat) x y, xs[i]? = some x → ys[i]? = some y → EqV K H n x y) → EqV K H (n + 1) (.ref a) (.ref b)
theorem vals_at : ∀ {xs : List V} {us : List Value} {i : Nat} {u : Value}, Vals xs us → us[i]? = some u → ∃ x, xs[i]? = some x ∧ RelV x u
  | _, _, i, u, .nil, h => by simp at h
  | _, _, 0, u, .cons r _, h => by
    injection h with h
    subst h
    exact ⟨_, rfl, r⟩
  | _, _, i + 1, u, .cons _ rs, h => vals_at (i := i) rs h
section
variable {X : Cx} {pins : List (Addr × Obj)} {σ : St} {H : Hp} {s : Shared}
theorem EqV.at {n : Nat} {x y : V} (h : EqV X.K H n x y) (I : Inv X pins σ H s) : ∀ {A : Around} {u v : Value}, RelV x u → RelV y v → A.units + n < cLine → SeqAt.EqAt A s u v true := by
  induction h with
  | @same n v hp =>
    intro A u u' r r' _
    cases v with
    | non => cases r; cases r'; exact SeqAt.EqAt.same _
    | bl b => cases r; cases r'; exact SeqAt.EqAt.same _
    | int i =>
      obtain ⟨t, rfl⟩ := r
      obtain ⟨t', rfl⟩ := r'
      have := SeqAt.EqAt.int_int (A := A) (s := s) i t i t'
      rwa [beq_self_eq_true] at this
    | str x =>
      obtain ⟨t, rfl⟩ := r
      obtain ⟨t', rfl⟩ := r'
      have := SeqAt.EqAt.str_str (A := A) (s := s) x t x t'
      rwa [beq_self_eq_true] at this
    | byt b => cases hp
    | flt b => cases hp
    | ref a => cases r; cases r'; exact SeqAt.EqAt.same _
    | ty n => cases r; cases r'; exact SeqAt.EqAt.same _
  | @lst n a b xs ys ha hb hl _ ih =>
    intro A u v r r' hu
    cases r
    cases r'
    by_cases e : a = b
    · subst e
      exact SeqAt.EqAt.same _
    obtain ⟨its, r, pl, _⟩ := I.list ha
    obtain ⟨its', r', pl', _⟩ := I.list hb
    have l1 := r.length
    have l2 := r'.length
    have := SeqAt.RcAt.lists (A := A) (e := fun _ => true) pl.isList pl'.isList (by simp; omega) (by omega) fun j k1 k2 => by
      obtain ⟨x, hx, rx⟩ := vals_at r (i := j) (u := its.toArray[j]) (by simp)
      obtain ⟨y, hy, ry⟩ := vals_at r' (i := j) (u := its'.toArray[j]) (by simp)
      exact ih j x y hx hy rx ry (by show A.units + 1 + n < cLine; omega)
    rw [show ((List.range its.toArray.size).all fun _ => true) = true by simp] at this
    exact SeqAt.EqAt.of_refs e this
  | @tup n a b xs ys ha hb hl _ ih =>
    intro A u v r r' hu
    cases r
    cases r'
    by_cases e : a = b
    · subst e
      exact SeqAt.EqAt.same _
    obtain ⟨its, r, pl, _⟩ := I.tuple ha
    obtain ⟨its', r', pl', _⟩ := I.tuple hb
    have l1 := r.length
    have l2 := r'.length
    have := SeqAt.RcAt.tuples (A := A) (e := fun _ => true) pl pl' (by omega) fun j k1 k2 => by
      obtain ⟨x, hx, rx⟩ := vals_at r (i := j) (u := its.toArray[j]) (by simp)
      obtain ⟨y, hy, ry⟩ := vals_at r' (i := j) (u := its'.toArray[j]) (by simp)
      exact ih j x y hx hy rx ry (by show A.units + 1 + n < cLine; omega)
    rw [show ((List.range (min its.toArray.size its'.toArray.size)).all fun _ => true) = true by simp, Bool.true_and, show (its.toArray.size == its'.toArray.size) = true by simp; omega] at this
    exact SeqAt.EqAt.of_refs e this
end
end L2

set_option Elab.async false
set_option linter.all false
set_option maxRecDepth 100000
set_option maxHeartbeats 4000000
namespace L2
open PySem PySem.Spec PyProof.Rows
structure CalL (P : Program) (w : World) (K : PySem.W.Frag) (mg : Str → Option Value) (base : Heap) (CX : CXT) (k : Nat) (m : Str) (ps : List Str) (L : List (Addr × Sp)) : Prop where
  ex : ∀ p ∈ L, Cls K p.1 ∧ ∃ (f : Addr) (fd : FuncData), FnOk P w K mg base CX k f fd ps p.2 ∧ Binds K fd ps [] ∧ Meth K p.1 m f
theorem CalL.nil {P : Program} {w : World} {K : PySem.W.Frag} {mg : Str → Option Value} {base : Heap} {CX : CXT} {k : Nat} {m : Str} {ps : List Str} : CalL P w K mg base CX k m ps [] := ⟨fun p hp => (nomatch hp)⟩
theorem FnOk.up {P : Program} {w : World} {K : PySem.W.Frag} {mg : Str → Option Value} {base : Heap} {CX : CXT} {k j : Nat} {f : Addr} {fd : FuncData} {ps : List Str} {sp : Sp} (F : FnOk P w K mg base CX k f fd ps sp) (h : k ≤ j) : FnOk P w K mg base CX j f fd ps sp :=
  ⟨F.len, fun A outer s H args us vs Q E hr e0 hb r hs => F.run A outer s H args us vs Q E (hr.mono h) e0 hb r hs⟩
theorem CalL.cons {P : Program} {w : World} {K : PySem.W.Frag} {mg : Str → Option Value} {base : Heap} {CX : CXT} {k j : Nat} {m : Str} {ps : List Str} {C : Addr} {sp : Sp} {L : List (Addr × Sp)} (c : Cls K C) (O : CalM P w K mg base CX j C m ps sp) (h : j ≤ k) (r : CalL P w K mg base CX k m ps L) : CalL P w K mg base CX k m ps ((C, sp) :: L) := by
  refine ⟨fun p hp => ?_⟩
  rcases List.mem_cons.mp hp with e | e
  · subst e
    obtain ⟨f, fd, F, hb, M⟩ := O.ex
    exact ⟨c, f, fd, F.up h, hb, M⟩
  · exact r.ex p e
def tMethL (L : List (Addr × Sp)) (m : Str) (ta : TE) (t : TA) : TE := fun σ H Q => ta σ H fun x H1 => ∃ a C dx fs sp, (C, sp) ∈ L ∧ x = .ref a ∧ H1 a = some (.ins C dx fs) ∧ fs.lookup m = none ∧
  t σ H1 fun vs H2 => sp (x :: (vs ++ [])) H2 Q E0
def tMethLE (L : List (Addr × Sp)) (m : Str) (EE : XE) (ta : TE) (t : TA) : TE := fun σ H Q => ta σ H fun x H1 => ∃ a C dx fs sp, (C, sp) ∈ L ∧ x = .ref a ∧ H1 a = some (.ins C dx fs) ∧ fs.lookup m = none ∧
  t σ H1 fun vs H2 => sp (x :: (vs ++ [])) H2 Q (fun c d H' => EE c d σ H')
section
variable {X : Cx} {EE : Value → Option Addr → St → Hp → Prop} {L : List (Addr × Sp)} {m : Str} {k : Nat} {ps : List Str} {o e : Expr} {es : List Expr} {ta : TE} {t : TA} {apos pos : Pos}
theorem pe_mcalL {pl : Sem Bool} (O : CalL X.prog X.w X.K X.mg X.base CX0 k m ps L) (hr : Room k X.A) (he : PE X o ta) (ha : PA X (e :: es) t)
    (hst : starEach (e :: es) X.env = (false, eval e X.env) :: starEach es X.env := by rfl) (hpl : (backTo pos (starEach es X.env)).any (·.1) = false := by rfl)
    (ht : eval (.Call (.Attribute o m apos) (e :: es) [] pos) X.env = (do
      let ov ← eval o X.env
      standAt apos.atName
      let (f, first) ← holding [ov] (getMethod ov m pl)
      callWith pos f first (backTo pos (starEach (e :: es) X.env)) (backToKw pos (keywordEach [] X.env))) := by rfl) :
    PE X (.Call (.Attribute o m apos) (e :: es) [] pos) (tMethL L m ta t) := by
  intro pins s σ H Q I h
  refine PySem.W.methodCall_KW (pl := pl) (thn (he pins s σ H _ I h) fun u s1 ⟨x, H1, I1, rx, a, C, dx, fs, sp, mem, ex, ea, l, q⟩ => ?_) ht
  subst ex
  obtain rfl : u = Value.ref a := rx
  obtain ⟨c, f, fd, F, hb, hm⟩ := O.ex _ mem
  refine getmeth_ok I1 ea c hm l ?_
  refine PySem.W.callWith_K (first := [.ref a]) (h₀ := X.base) I.ok.mod.kin hm.kp (thn (ha pos pins s1 σ H1 _ I1 q) fun us s2 ⟨vs, H2, I2, r, q2⟩ => ⟨I2.kIn, ?_⟩) hst hpl
  exact run_fn (us := .ref a :: us) (vs := .ref a :: vs) F hr hb .nil pass0 I2 (.cons rfl r) q2
theorem pe_mcalL0 {pl : Sem Bool} (O : CalL X.prog X.w X.K X.mg X.base CX0 k m ps L) (hr : Room k X.A) (he : PE X o ta)
    (ht : eval (.Call (.Attribute o m apos) [] [] pos) X.env = (do
      let ov ← eval o X.env
      standAt apos.atName
      let (f, first) ← holding [ov] (getMethod ov m pl)
      callWith pos f first (backTo pos (starEach [] X.env)) (backToKw pos (keywordEach [] X.env))) := by rfl) :
    PE X (.Call (.Attribute o m apos) [] [] pos) (tMethL L m ta tNil) := by
  intro pins s σ H Q I h
  refine PySem.W.methodCall_KW (pl := pl) (thn (he pins s σ H _ I h) fun u s1 ⟨x, H1, I1, rx, a, C, dx, fs, sp, mem, ex, ea, l, q⟩ => ?_) ht
  subst ex
  obtain rfl : u = Value.ref a := rx
  obtain ⟨c, f, fd, F, hb, hm⟩ := O.ex _ mem
  refine getmeth_ok I1 ea c hm l ?_
  exact PySem.W.callWith_K0 (first := [.ref a]) I1.kIn hm.kp (run_fn (us := [.ref a]) (vs := [.ref a]) F hr hb .nil pass0 I1 (.cons rfl .nil) q)
end
theorem rd_methL {L : List (Addr × Sp)} {m : Str} {ta : TE} {t : TA} {σ : St} {H : Hp} {Q : VK} (h : ta σ H fun x H1 => ∃ a C dx fs sp, (C, sp) ∈ L ∧ x = .ref a ∧ H1 a = some (.ins C dx fs) ∧ fs.lookup m = none ∧ t σ H1 fun vs H2 => sp (x :: (vs ++ [])) H2 Q E0) : tMethL L m ta t σ H Q := h
theorem rd_methLE {L : List (Addr × Sp)} {m : Str} {EE : XE} {ta : TE} {t : TA} {σ : St} {H : Hp} {Q : VK} (h : ta σ H fun x H1 => ∃ a C dx fs sp, (C, sp) ∈ L ∧ x = .ref a ∧ H1 a = some (.ins C dx fs) ∧ fs.lookup m = none ∧ t σ H1 fun vs H2 => sp (x :: (vs ++ [])) H2 Q (fun c d H' => EE c d σ H')) : tMethLE L m EE ta t σ H Q := h
end L2

set_option Elab.async false
set_option linter.all false
namespace L2
theorem len1 {α : Type} {us : List α} (h : us.length = 1) : ∃ a0, us = [a0] := by
  match us, h with
  | [a0], _ => exact ⟨a0, rfl⟩
theorem len2 {α : Type} {us : List α} (h : us.length = 2) : ∃ a0 a1, us = [a0, a1] := by
  match us, h with
  | [a0, a1], _ => exact ⟨a0, a1, rfl⟩
theorem len3 {α : Type} {us : List α} (h : us.length = 3) : ∃ a0 a1 a2, us = [a0, a1, a2] := by
  match us, h with
  | [a0, a1, a2], _ => exact ⟨a0, a1, a2, rfl⟩
theorem len4 {α : Type} {us : List α} (h : us.length = 4) : ∃ a0 a1 a2 a3, us = [a0, a1, a2, a3] := by
  match us, h with
  | [a0, a1, a2, a3], _ => exact ⟨a0, a1, a2, a3, rfl⟩
end L2

set_option Elab.async false
set_option linter.all false
set_option maxRecDepth 100000
set_option maxHeartbeats 4000000
namespace L2
open PySem PySem.Spec PyProof.Rows
section
variable {X : Cx}
end
end L2

set_option Elab.async false
set_option linter.all false
set_option maxRecDepth 100000
set_option maxHeartbeats 4000000
namespace L2
open PySem PySem.Spec PyProof.Rows
section
variable {X : Cx}
end
theorem cut_upto (xs : List V) (k : Nat) : cutV xs none (some (k : Int)) = xs.take k := by
  unfold cutV
  rw [HT.sIx_none, HT.sIx_nat, List.drop_zero, Nat.sub_zero]
  by_cases h : k ≤ xs.length
  · rw [Nat.min_eq_left h]
  · rw [Nat.min_eq_right (by omega), List.take_of_length_le (Nat.le_refl _), List.take_of_length_le (by omega)]
end L2

set_option Elab.async false
set_option linter.all false
set_option maxRecDepth 100000
set_option maxHeartbeats 4000000
namespace L2
open PySem PySem.Spec PyProof.Rows
section
variable {X : Cx}
end
end L2

set_option Elab.async false
set_option linter.all false
set_option maxRecDepth 100000
set_option maxHeartbeats 4000000
namespace L2
open PySem PySem.Spec PyProof.Rows
section
variable {X : Cx}
end
end L2

set_option Elab.async false
set_option linter.all false
set_option maxRecDepth 100000
set_option maxHeartbeats 4000000
namespace L2
open PySem PySem.Spec PyProof.Rows
section
variable {X : Cx} {tg : Expr}
end
structure BE (X : Cx) (e : Expr) (te : TE) : Prop where
  out : PE X e te
structure BS (X : Cx) (st : Stmt) (t : TS) : Prop where
  out : PS X st t
section
variable {X : Cx}
theorem be {e : Expr} {te : TE} (h : PE X e te) : BE X e te := ⟨h⟩
theorem bs {st : Stmt} {t : TS} (h : PS X st t) : BS X st t := ⟨h⟩
end
end L2

set_option Elab.async false
set_option linter.all false
set_option maxRecDepth 100000
set_option maxHeartbeats 4000000
namespace L2
open PySem PySem.Spec PyProof.Rows
inductive CalVs (P : Program) (w : World) (K : PySem.W.Frag) (mg : Str → Option Value) (base : Heap) (k : Nat) : List (Str × Sp) → Prop
  | nil : CalVs P w K mg base k []
  | cons {x : Str} {ps : List Str} {sp : Sp} {L : List (Str × Sp)} : Cal P w K mg base k x ps sp → CalVs P w K mg base k L → CalVs P w K mg base k ((x, sp) :: L)
theorem CalVs.get {P : Program} {w : World} {K : PySem.W.Frag} {mg : Str → Option Value} {base : Heap} {k : Nat} {L : List (Str × Sp)} (h : CalVs P w K mg base k L) {x : Str} {sp : Sp} (hm : (x, sp) ∈ L) : ∃ ps, Cal P w K mg base k x ps sp := by
  induction h with
  | nil => cases hm
  | cons C _ ih =>
    rcases List.mem_cons.mp hm with e | e
    · injection e with e1 e2
      subst e1
      subst e2
      exact ⟨_, C⟩
    · exact ih e
def tCallV (mg : Str → Option Value) (i : Nat) (L : List (Str × Sp)) (t : TA) : TE := fun σ H Q => ∃ f x sp, σ[i]? = some (some (.ref f)) ∧ (x, sp) ∈ L ∧ mg x = some (.ref f) ∧ t σ H fun vs H1 => sp vs H1 Q E0
section
variable {X : Cx} {pos : Pos}
theorem pe_calV {k i : Nat} {x : Str} {L : List (Str × Sp)} {e : Expr} {es : List Expr} {t : TA} {p : Pos} (CV : CalVs X.prog X.w X.K X.mg X.base k L) (hr : Room k X.A) (hN : X.N[i]? = some x) (hv : Vis X.env.scope x) (ha : PA X (e :: es) t)
    (hdb : (x == ("__debug__" : Str)) = false := by decide) (hcd : (x == ("__classdict__" : Str)) = false := by decide) (he : starEach (e :: es) X.env = (false, eval e X.env) :: starEach es X.env := by rfl) (hpl : (backTo pos (starEach es X.env)).any (·.1) = false := by rfl) :
    PE X (.Call (.Name x p) (e :: es) [] pos) (tCallV X.mg i L t) := by
  intro pins s σ H Q I h
  obtain ⟨f, y, sp, hf, hm, hmg, h⟩ := h
  obtain ⟨ps, C⟩ := CV.get hm
  obtain ⟨f', fd, F, b, kp, m⟩ := C.ex
  have ef : f' = f := by
    rw [hmg] at m
    injection m with m
    injection m with m
    exact m.symm
  subst ef
  refine wpAny_Call_Name_kw ?_
  refine thn (pe_var hN hv hdb hcd pins s σ H (fun v H1 => v = .ref f' ∧ H1 = H) I ⟨_, hf, rfl, rfl⟩) fun v s1 ⟨y, H1, I1, r1, q1⟩ => ?_
  obtain ⟨rfl, rfl⟩ := q1
  cases r1
  refine PySem.W.callWith_K (h₀ := X.base) I1.ok.mod.kin kp (thn (ha pos pins s1 σ _ _ I1 h) fun us s2 ⟨vs, H2, I2, r, q⟩ => ⟨I2.kIn, ?_⟩) he hpl
  dsimp only at q
  have hl : us.length = ps.length := by rw [← r.length]; exact F.len _ _ _ _ q
  have hb := b s2 us I2.kIn (by rw [List.append_nil]; exact hl)
  rw [List.append_nil] at hb
  show wpAny _ _ (call (.ref f') us) _ _ _
  refine wpAny_call (codeAny_mono (F.run X.A X.stack s2 H2 ⟨us, []⟩ us vs Q _ hr I2.env0 hb r q) fun z s' hq => ?_)
  cases z with
  | error e => exact False.elim hq
  | ok fl =>
    cases fl with
    | ret u => exact I2.after hq
    | next => exact False.elim hq
    | brk => exact False.elim hq
    | cont => exact False.elim hq
theorem rd_callV {mg : Str → Option Value} {i : Nat} {L : List (Str × Sp)} {t : TA} {σ : St} {H : Hp} {Q : VK} {f : Addr} {x : Str} {sp : Sp} (h1 : σ[i]? = some (some (.ref f))) (h2 : (x, sp) ∈ L) (h3 : mg x = some (.ref f)) (h : t σ H fun vs H1 => sp vs H1 Q E0) : tCallV mg i L t σ H Q := ⟨f, x, sp, h1, h2, h3, h⟩
end
end L2

set_option Elab.async false
set_option linter.all false
set_option maxRecDepth 100000
set_option maxHeartbeats 4000000
namespace L2
open PySem PySem.Spec PyProof.Rows
section
variable {X : Cx} {pins : List (Addr × Obj)} {σ : St} {H : Hp} {s : Shared} {h' : Heap}
/-- several records of ours have turned, and one new object is laid -/
theorem Inv.turnedNew {t' : Nat} {ch : List Addr} {T : Addr} {o : HO} (I : Inv X pins σ H s) (k : ∀ b u, b ∉ ch → s.heap.get? b = some u → h'.get? b = some u) (hf : ∀ b ∈ ch, FpOk X pins H b)
    (hp : s.heap.objs.size ≤ T) (new : ObjOk X.prog X.w (upd H T o) h' T o) : Inv X pins σ (upd H T o) { s with heap := h', toks := t' } := by
  have hn : H T = none := I.hok.fresh hp
  have nit : ∀ b u, H b = some u → b ∉ ch := fun b u e z => by rw [(hf b z).1] at e; cases e
  refine I.step (g' := s.gens) (d' := s.drawn) (ch := ch) (fun b hb => ⟨(hf b hb).2.2.2.1, (hf b hb).2.1, (hf b hb).2.2.2.2.1, (hf b hb).2.2.2.2.2⟩) (fun b u _ _ hc e _ => k b u hc e) (fun b u _ _ hc e _ => ⟨u.slots, k b u hc e⟩)
    (fun b u _ e n => by rw [upd_ne (Nat.ne_of_lt (Nat.lt_of_lt_of_le (Heap.lt_size e) hp))]; exact n)
    (fun b u hc e => ⟨u, k b u hc e⟩) (fun b xs q => by rw [upd_ne (ne_of_none q hn)]; exact q) (fun b u xs q => by rw [upd_ne (ne_of_none q hn)]; exact q) (fun b ps q => ⟨#[], by rw [upd_ne (ne_of_none q hn), q]; simp⟩) (fun m hm => ?_) (fun b u e => ?_) I.bare
  · obtain ⟨u, es, ep, ho, r⟩ := hm
    exact ⟨u, es, ep, k _ u (fun z => (hf _ z).2.1 rfl) ho, r⟩
  · by_cases hb : b = T
    · subst hb; rw [upd_same] at e; cases e; exact new
    · rw [upd_ne hb] at e
      refine (I.hok b u e).stay (fun c v hc q => k c v ?_ q) (fun c q => by rw [upd_ne (ne_of_none q hn)]; exact q) fun c xs q => by rw [upd_ne (ne_of_none q hn)]; exact q
      rcases hc with z | z
      · rw [z]; exact nit b u e
      · exact nit c _ z
theorem Inv.turnedL {t' : Nat} {ch : List Addr} (I : Inv X pins σ H s) (k : ∀ b u, b ∉ ch → s.heap.get? b = some u → h'.get? b = some u) (hf : ∀ b ∈ ch, FpOk X pins H b) : Inv X pins σ H { s with heap := h', toks := t' } := by
  have nit : ∀ b u, H b = some u → b ∉ ch := fun b u e z => by rw [(hf b z).1] at e; cases e
  refine I.step (g' := s.gens) (d' := s.drawn) (ch := ch) (fun b hb => ⟨(hf b hb).2.2.2.1, (hf b hb).2.1, (hf b hb).2.2.2.2.1, (hf b hb).2.2.2.2.2⟩) (fun b u _ _ hc e _ => k b u hc e) (fun b u _ _ hc e _ => ⟨u.slots, k b u hc e⟩)
    (fun _ _ _ _ n => n) (fun b u hc e => ⟨u, k b u hc e⟩) (fun b xs q => q) (fun b u xs q => q) (fun b ps q => ⟨#[], by rw [q]; simp⟩) (fun m hm => ?_) (fun b u e => ?_) I.bare
  · obtain ⟨u, es, ep, ho, r⟩ := hm
    exact ⟨u, es, ep, k _ u (fun z => (hf _ z).2.1 rfl) ho, r⟩
  · refine (I.hok b u e).stay (fun c v hc q => k c v ?_ q) (fun c q => q) fun c xs q => q
    rcases hc with z | z
    · rw [z]; exact nit b u e
    · exact nit c _ z
end
/-- the pairs of two lists as they stand at each turn -/
def Itz (K : PySem.W.Frag) (a b : Addr) : It :=
  ⟨fun i H => ∃ xs ys x y, SqL K H a xs ∧ SqL K H b ys ∧ xs[i]? = some x ∧ ys[i]? = some y,
   fun i H v H' => ∃ T x y, H T = none ∧ v = .ref T ∧ H' = upd H T (.tup [x, y]) ∧ ∀ xs ys, SqL K H a xs → SqL K H b ys → xs[i]? = some x ∧ ys[i]? = some y,
   fun i H => ∃ xs ys, SqL K H a xs ∧ SqL K H b ys ∧ i = min xs.length ys.length⟩
def ZipAt (z TI TO i1 i2 a b : Addr) (i : Nat) (h : Heap) : Prop :=
  IsZip h z TI TO .none ∧ IsPair h TI (.ref i1) (.ref i2) ∧ (∃ p q, IsPair h TO p q) ∧ h.IsListIter i1 a i ∧ h.IsListIter i2 b i
theorem turn_zip {P : Program} {w : World} {K : PySem.W.Frag} {es : List Expr} {kk : Nat} {pos : Pos} (z TI TO i1 i2 a b : Addr) (D : ZipApart z TI TO i1 i2 a b) :
    Turn P w K (.Tuple es kk pos) (Itz K a b) [z, TI, TO, i1, i2] z (ZipAt z TI TO i1 i2 a b) where
  mem := by simp
  obj := fun i h st c hc => by
    obtain ⟨h1, h2, ⟨p, q, h3⟩, ⟨o4, e4, _, d4⟩, ⟨o5, e5, _, d5⟩⟩ := st
    simp only [List.mem_cons, List.not_mem_nil, or_false] at hc
    rcases hc with rfl | rfl | rfl | rfl | rfl
    · exact ⟨_, h1, fun v z => by cases z⟩
    · exact ⟨_, h2, fun v z => by cases z⟩
    · exact ⟨_, h3, fun v z => by cases z⟩
    · exact ⟨_, e4, fun v z => by rw [d4] at z; cases z⟩
    · exact ⟨_, e5, fun v z => by rw [d5] at z; cases z⟩
  keep := fun i h h' st k => by
    obtain ⟨h1, h2, ⟨p, q, h3⟩, h4, h5⟩ := st
    exact ⟨k z (by simp) _ h1, k TI (by simp) _ h2, ⟨p, q, k TO (by simp) _ h3⟩, h4.at fun o e => k i1 (by simp) o e, h5.at fun o e => k i2 (by simp) o e⟩
  item := by
    intro X hP hw hK hc i pins s σ H E I hf st hg
    subst hP hw hK
    obtain ⟨xs, ys, x, y, qa, qb, ex, ey⟩ := hg
    obtain ⟨us, ra, pa, _⟩ := I.list qa
    obtain ⟨ws, rb, pb, _⟩ := I.list qb
    obtain ⟨u, hu, ru⟩ := ra.get ex
    obtain ⟨v, hv, rv⟩ := rb.get ey
    obtain ⟨h1, h2, h3, h4, h5⟩ := st
    have W := WalksT.zip2 (prog := X.prog) (w := X.w) (I.ok.hd hc) z TI TO i1 i2 a b D us.toArray ws.toArray
    have lu : i < us.length := (List.getElem?_eq_some_iff.mp hu).1
    have lw : i < ws.length := (List.getElem?_eq_some_iff.mp hv).1
    refine W.item i s _ E (by simp; omega) ⟨h1, h2, h3, h4, h5, pa.isList, pb.isList⟩ fun T vals h' tk hv' hT tup mid k => ?_
    refine ⟨.ref T, rfl, W.go es kk pos i T _ _ E mid fun h2 st2 k2 => ?_⟩
    have nw := W.apart i T h' mid
    obtain ⟨x', y', e1, e2, e3⟩ := hv'
    have e1' : u = x' := by simpa [hu] using e1
    have e2' : v = y' := by simpa [hv] using e2
    subst e1' e2' e3
    have tup2 : h2.IsTuple T #[u, v] := by
      obtain ⟨o, eo, r⟩ := tup
      exact ⟨o, k2 T o nw eo, r⟩
    have hn : H T = none := I.hok.fresh hT
    refine ⟨.ref T, upd H T (.tup [x, y]), I.turnedNew (ch := [z, TO, i1, i2]) (fun c o hc e => k2 c o hc (k c o hc e)) (fun c hc => hf c ?_) hT ⟨?_, [u, v], .cons ru (.cons rv .nil), tup2⟩, rfl, ⟨T, x, y, hn, rfl, rfl, fun xs' ys' qa' qb' => ?_⟩, ?_, fun c hc => ?_⟩
    · simp only [List.mem_cons, List.not_mem_nil, or_false] at hc ⊢
      rcases hc with h | h | h | h
      · exact .inl h
      · exact .inr (.inr (.inl h))
      · exact .inr (.inr (.inr (.inl h)))
      · exact .inr (.inr (.inr (.inr h)))
    · show 2 ≤ sizeLine
      rw [sizeLine_eq]; decide
    · rw [I.list_inj qa' qa, I.list_inj qb' qb]
      exact ⟨ex, ey⟩
    · obtain ⟨g1, g2, g3, g4, g5, _⟩ := st2
      exact ⟨g1, g2, g3, g4, g5⟩
    · have hlt : c < s.heap.objs.size := by
        simp only [List.mem_cons, List.not_mem_nil, or_false] at hc
        obtain ⟨p, q, h3⟩ := h3
        obtain ⟨o4, e4, _⟩ := h4
        obtain ⟨o5, e5, _⟩ := h5
        rcases hc with rfl | rfl | rfl | rfl | rfl
        · exact Heap.lt_size h1
        · exact Heap.lt_size h2
        · exact Heap.lt_size h3
        · exact Heap.lt_size e4
        · exact Heap.lt_size e5
      rw [upd_ne (Nat.ne_of_lt (Nat.lt_of_lt_of_le hlt hT))]
      exact (hf c hc).1
  done := by
    intro X hP hw hK hc i pins s σ H E I hf st hg
    subst hP hw hK
    obtain ⟨xs, ys, qa, qb, e⟩ := hg
    obtain ⟨us, ra, pa, _⟩ := I.list qa
    obtain ⟨ws, rb, pb, _⟩ := I.list qb
    have la := ra.length
    have lb := rb.length
    obtain ⟨h1, h2, h3, h4, h5⟩ := st
    have W := WalksT.zip2 (prog := X.prog) (w := X.w) (I.ok.hd hc) z TI TO i1 i2 a b D us.toArray ws.toArray
    have en : i = min us.toArray.size ws.toArray.size := by simp; omega
    rw [en] at h4 h5
    refine W.done s _ E ⟨h1, h2, h3, h4, h5, pa.isList, pb.isList⟩ fun h' tk k => ⟨rfl, I.turnedL (ch := [z, TO, i1, i2]) (fun c o hc e => k c o hc e) fun c hc => hf c ?_⟩
    simp only [List.mem_cons, List.not_mem_nil, or_false] at hc ⊢
    rcases hc with h | h | h | h
    · exact .inl h
    · exact .inr (.inr (.inl h))
    · exact .inr (.inr (.inr (.inl h)))
    · exact .inr (.inr (.inr (.inr h)))
  self := fun _ _ _ _ _ st h => wpAny_pyIter_zip st.1 h
theorem zapart {n a b : Nat} (ha : a < n) (hb : b < n) : ZipApart (n + 4) (n + 2) (n + 3) n (n + 1) a b :=
  ⟨show n + 2 ≠ n + 4 by omega, show n + 3 ≠ n + 4 by omega, show n ≠ n + 4 by omega, show n + 1 ≠ n + 4 by omega, show n + 2 ≠ n + 3 by omega, show n + 2 ≠ n by omega, show n + 2 ≠ n + 1 by omega, show n + 3 ≠ n by omega, show n + 3 ≠ n + 1 by omega, show n ≠ n + 1 by omega,
   show a ≠ n + 4 by omega, show a ≠ n + 3 by omega, show a ≠ n by omega, show a ≠ n + 1 by omega, show b ≠ n + 4 by omega, show b ≠ n + 3 by omega, show b ≠ n by omega, show b ≠ n + 1 by omega⟩
def iZip (K : PySem.W.Frag) (ta : TA) : TI := fun σ H R => ta σ H fun vs H1 => ∃ a b, vs = [.ref a, .ref b] ∧ (∃ xs ys, SqL K H1 a xs ∧ SqL K H1 b ys) ∧ R (Itz K a b) H1
section
variable {X : Cx}
theorem pi_zip {a b : Expr} {ta : TA} {p pos : Pos} {es : List Expr} {kk : Nat} {tp : Pos} (hg : Gl X "zip") (hm : X.mg "zip" = none) (ha : PA X [a, b] ta) (hs : starEach [a, b] X.env = [(false, eval a X.env), (false, eval b X.env)] := by rfl) (hs2 : starEach [b] X.env = [(false, eval b X.env)] := by rfl) :
    PI X (.Tuple es kk tp) (.Call (.Name "zip" p) [a, b] [] pos) (iZip X.K ta) := by
  intro pins s σ H R I h
  refine Call_ (ld_blt I hg hm boot_zip (PyProof.Rows.callWith_type1 (thn (ha pos pins s σ H _ I h) fun us s1 ⟨vs, H1, I1, r1, q1⟩ => ?_) (by rw [hs, hs2]) (by rw [hs2]; rfl)))
  obtain ⟨x, y, e, ⟨xs, ys, qa, qb⟩, q⟩ := q1
  subst e
  obtain ⟨ia, ra, pa, _⟩ := I1.list qa
  obtain ⟨ib, rb, pb, _⟩ := I1.list qb
  cases r1 with
  | cons r rr =>
    cases rr with
    | cons r' rr =>
      cases rr
      cases (show _ = Value.ref x from r)
      cases (show _ = Value.ref y from r')
      have l1 : x < s1.heap.objs.size := by obtain ⟨o, eo, _⟩ := pa.isList; exact Heap.lt_size eo
      have l2 : y < s1.heap.objs.size := by obtain ⟨o, eo, _⟩ := pb.isList; exact Heap.lt_size eo
      refine call_zip_2 pa.isList pb.isList fun h' hz hTI hTO hi1 hi2 hsz hk => ?_
      refine wpAny_pyIter_zip hz ?_
      have D : ZipApart (s1.heap.objs.size + 4) (s1.heap.objs.size + 2) (s1.heap.objs.size + 3) s1.heap.objs.size (s1.heap.objs.size + 1) x y := zapart l1 l2
      have n1 : ∀ j, H1 (s1.heap.objs.size + j) = none := fun j => I1.hok.fresh (Nat.le_add_right _ _)
      refine ⟨_, _, _, _, H1, rfl, I1.kept (t' := s1.toks) fun c o e => hk c o e, turn_zip _ _ _ _ _ x y D, ⟨hz, hTI, ⟨_, _, hTO⟩, hi1, hi2⟩, fun c hc => ?_, q⟩
      have hcs : s1.heap.objs.size ≤ c := by
        simp only [List.mem_cons, List.not_mem_nil, or_false] at hc
        rcases hc with rfl | rfl | rfl | rfl | rfl
        · exact Nat.le_add_right _ _
        · exact Nat.le_add_right _ _
        · exact Nat.le_add_right _ _
        · exact Nat.le_refl _
        · exact Nat.le_add_right _ _
      exact I1.fpOk hcs (I1.hok.fresh hcs)
end
theorem rd_zip {K : PySem.W.Frag} {ta : TA} {σ : St} {H : Hp} {R : It → Hp → Prop} (h : ta σ H fun vs H1 => ∃ a b, vs = [.ref a, .ref b] ∧ (∃ xs ys, SqL K H1 a xs ∧ SqL K H1 b ys) ∧ R (Itz K a b) H1) : iZip K ta σ H R := h
section
variable {X : Cx}
/-- name = [.. for a, b in ..] -/
theorem ps_setCompT {M : List Str} {elt iter tg : Expr} {xs : List Str} {y : Str} {py pos spos : Pos} {ifs : List Expr} {scope : Scope} {cl : List (Str × Addr)} {wi : TI} {g : TG} {tt : TT} {te : TE} {i : Nat} (hN : X.N.Nodup) (hiy : X.N[i]? = some y) (hy : Loc X.env.scope y)
    (hc : X.calm = true) (ok : CompOkT X M xs scope cl) (hi : PI X tg iter wi)
    (ht : ∀ C s₀ H₀ fp, PIfs (compCxT X M xs scope cl C s₀ H₀ fp) ifs tt) (hg : ∀ C s₀ H₀ fp, PG (compCxT X M xs scope cl C s₀ H₀ fp) tg g) (he : ∀ C s₀ H₀ fp, PE (compCxT X M xs scope cl C s₀ H₀ fp) elt te)
    (hsw : swapsWith (.ListComp elt [⟨tg, iter, ifs, 0⟩] scope pos) (some (.Name y py)) spos.line X.env = pure true := by with_unfolding_all rfl)
    (hf : X.fn y = true ∨ X.env.scope.names.lookup y = some .local := by first | exact .inl rfl | exact .inr rfl | assumption)
    (hs : ∀ x, foldedSetIterable iter X.env x = pure x := by intro _; rfl) :
    PS X (.Assign [.Name y py] (.ListComp elt [⟨tg, iter, ifs, 0⟩] scope pos) spos) (tAsg (tCompT xs.length wi g tt te) (gName i)) := by
  intro pins s σ H D I h
  rw [exec_Assign_Name_used _ _ _ _ hsw]
  refine wpAny_bind (wpAny_standAt (wpAny_bind ?_))
  show wpAny _ X.A (do let _ ← comprehension (.ListComp elt [⟨tg, iter, ifs, 0⟩] scope pos) scope X.env _ (newList []) false (eval iter X.env) (some (assign (.Name y py) X.env))) _ _ s
  refine wpAny_bind (wpAny_mono (wpAny_comprehension_free (use := some (assign (.Name y py) X.env)) (Q := fun _ s' => SP X pins D .next s') rfl hs ok.clos ok.kind ok.names
    (thn (hi pins s σ H _ I h) fun xv s1 h1 => thn h1 fun itv s2 h2 => ?_)) (fun _ s' hq => wpAny_pure (wpAny_pure hq)) fun _ _ e => e)
  obtain ⟨it, fp, tn, J, H2, e, I2, T, st2, f2, hW⟩ := h2
  subst e
  refine comp_coreT (Q := fun x H1 => gName i x σ H1 D.nx) hc ok ht hg he I2 T st2 f2 hW (compPost (model X.prog X.w) X.A X.xe (some (assign (.Name y py) X.env)) (fun _ s' => SP X pins D .next s')) fun Dd C H3 s4 I4 hm fC q => ?_
  obtain ⟨m, hn⟩ := hm
  show wpAny _ X.A (assign (.Name y py) X.env (.ref Dd)) _ _ _
  refine wpAny_assign_Name (store_ok2 I4 hN hiy hy (v := .ref Dd) rfl (fun s5 I5 hsb => ?_) hf)
  obtain ⟨a, sb, ha⟩ := hsb
  have hCa : C ≠ a := by
    rcases ha with rfl | ha
    · exact fC.2.1
    · exact (fC.2.2.2.2.1 _ _ ha).symm
  exact ⟨m, hn.sameBut sb hCa, fun h' hsb' => ⟨_, H3, I5.turned (t' := s5.toks) (fun b o hb e => hsb'.extBut b o hb e) fC.1 fC.2.1 fC.2.2.2.1 fC.2.2.2.2.1 fC.2.2.2.2.2, q⟩⟩
end
end L2

set_option Elab.async false
set_option linter.all false
set_option maxRecDepth 100000
set_option maxHeartbeats 4000000
namespace L2
open PySem PySem.Spec PyProof.Rows
structure BInit (K : PySem.W.Frag) (mg : Str → Option Value) (x : Str) (CB f : Addr) : Prop where
  bound : mg x = some (.ref CB)
  sp : PySem.W.specialIn K (.ref CB) "__getattribute__" = some (some (.builtin "type.__getattribute__"))
  rd : PySem.W.readsIn K CB (.type "type") = true
  fc : PySem.W.findCls K (.ref CB) (.type "type") "__init__" = some (.val (.ref f))
  kp : PySem.W.keepIn K (.ref f) = true
structure CalB (P : Program) (w : World) (K : PySem.W.Frag) (mg : Str → Option Value) (base : Heap) (k : Nat) (x : Str) (ps : List Str) (sp : Sp) : Prop where
  ex : ∃ (f CB : Addr) (fd : FuncData), FnOk P w K mg base CX0 k f fd ps sp ∧ Binds K fd ps [] ∧ BInit K mg x CB f
section
variable {X : Cx}
theorem pe_binit {x : Str} {k : Nat} {ps : List Str} {sp : Sp} {e : Expr} {es : List Expr} {t : TA} {p apos pos : Pos} {pl : Sem Bool} (O : CalB X.prog X.w X.K X.mg X.base k x ps sp) (hr : Room k X.A) (hg : Gl X x) (ha : PA X (e :: es) t)
    (hdb : (x == ("__debug__" : Str)) = false := by decide) (hst : starEach (e :: es) X.env = (false, eval e X.env) :: starEach es X.env := by rfl) (hpl : (backTo pos (starEach es X.env)).any (·.1) = false := by rfl)
    (ht : eval (.Call (.Attribute (.Name x p) "__init__" apos) (e :: es) [] pos) X.env = (do
      let ov ← eval (.Name x p) X.env
      standAt apos.atName
      let (f, first) ← holding [ov] (getMethod ov "__init__" pl)
      callWith pos f first (backTo pos (starEach (e :: es) X.env)) (backToKw pos (keywordEach [] X.env))) := by rfl) :
    PE X (.Call (.Attribute (.Name x p) "__init__" apos) (e :: es) [] pos) (tCall sp [] E0 t) := by
  intro pins s σ H Q I h
  obtain ⟨f, CB, fd, F, hb, N⟩ := O.ex
  refine PySem.W.methodCall_KW (pl := pl) (ld_glob I hg N.bound ?_ hdb) ht
  refine PySem.W.method_cls I.kIn N.sp (PySem.W.cls_value I.kIn N.rd N.fc rfl ?_)
  have I1 : Inv X pins σ H { s with toks := s.toks + 1 } := I.tok _
  refine PySem.W.callWith_K (first := []) (h₀ := X.base) I.ok.mod.kin N.kp (thn (ha pos pins _ σ H _ I1 h) fun us s2 ⟨vs, H2, I2, r, q2⟩ => ⟨I2.kIn, ?_⟩) hst hpl
  exact run_fn (us := us) (vs := vs) F hr hb .nil pass0 I2 r q2
theorem pe_mk0 {k : Nat} {x : Str} {C : Addr} {ps : List Str} {sp : Sp} {p pos : Pos} (O : CalI X.prog X.w X.K X.mg X.base CX0 k x C ps sp) (hr : Room (k + 1) X.A) (hg : Gl X x)
    (hdb : (x == ("__debug__" : Str)) = false := by decide) : PE X (.Call (.Name x p) [] [] pos) (tMake C sp [] E0 tNil) := by
  obtain ⟨f, fd, F, hb, M, hm⟩ := O.ex
  exact pe_make0 M F hr hg hm hb .nil pass0 hdb
def rIsiO (K : PySem.W.Frag) : List V → Hp → VK → Prop := fun xs H Q => ∃ x c t b, xs = [x, .ref c] ∧ TyOf K H x t ∧ PySem.W.kitOne K t (.ref c) = some b ∧ Q (.bl b) H
theorem call_isiO : CallR X (.builtin "isinstance") (rIsiO X.K) := by
  intro pins s σ H xs us Q I r h
  obtain ⟨x, c, t, b, rfl, ty, e, q⟩ := h
  obtain ⟨u, w', rfl, r1, r2⟩ := vals2 r
  cases (show w' = Value.ref c from r2)
  exact isinst_ok I r1 ty e fun tk => ⟨.bl b, H, I.tok tk, rfl, q⟩
theorem rd_isiO {K : PySem.W.Frag} {x : V} {c : Addr} {t : Value} {b : Bool} {H : Hp} {Q : VK} (ty : TyOf K H x t) (e : PySem.W.kitOne K t (.ref c) = some b) (h : Q (.bl b) H) : rIsiO K [x, .ref c] H Q := ⟨x, c, t, b, rfl, ty, e, h⟩
end
end L2

set_option Elab.async false
set_option linter.all false
set_option maxRecDepth 100000
set_option maxHeartbeats 4000000
local macro_rules | `(tactic| walk_at "rd1") => `(tactic| first
  | with_reducible refine L2.rd_seq ?_ | with_reducible refine L2.rd_ret ?_ | with_reducible refine L2.rd_asg ?_ | with_reducible refine L2.rd_ifS ?_ | with_reducible refine L2.rd_next ?_ | with_reducible refine L2.rd_drop ?_
  | with_reducible refine L2.rd_op ?_ | ((with_reducible refine' L2.rd_var ?ev ?_); (case ev => exact rfl)) | with_reducible refine L2.rd_c ?_ | with_reducible refine L2.rd_un ?_ | with_reducible refine L2.rd_test ?_ | with_reducible refine L2.rd_b ?_
  | with_reducible refine L2.rd_i0 ?_ | with_reducible refine L2.rd_u ?_ | ((with_reducible refine' L2.rd_eq ?es ?_); (case es => exact rfl)) | ((with_reducible refine' L2.rd_ne ?es ?_); (case es => exact rfl))
  | with_reducible refine L2.rd_bl ?_ | with_reducible refine L2.rd_not ?_ | with_reducible refine L2.rd_and ?_ | with_reducible refine L2.rd_or ?_ | with_reducible refine L2.rd_andV ?_ | with_reducible refine L2.rd_orV ?_ | with_reducible refine L2.rd_notV ?_ | with_reducible refine L2.rd_chain ?_
  | with_reducible refine L2.rd_call ?_ | with_reducible refine L2.rd_cb ?_ | with_reducible refine L2.rd_nil ?_ | with_reducible refine L2.rd_cons ?_ | with_reducible refine L2.rd_tup ?_ | with_reducible refine L2.rd_lst ?_
  | with_reducible refine L2.rd_bm0 ?_ | with_reducible refine L2.rd_makeD ?_ | with_reducible refine L2.rd_fld ?_ | with_reducible refine L2.rd_sfld ?_ | with_reducible refine L2.rd_meth ?_ | with_reducible refine L2.rd_methL ?_ | with_reducible refine L2.rd_lr ?_ | with_reducible refine L2.rd_slice ?_ | with_reducible refine L2.rd_part ?_ | with_reducible refine L2.rd_exI ?_ | with_reducible refine L2.rd_noPart ?_ | with_reducible refine L2.rd_tru ?_ | with_reducible refine L2.rd_truI ?_ | with_reducible refine L2.rd_gsub ?_ | with_reducible refine L2.rd_bitsV ?_
  | with_reducible refine L2.rd_par ?_ | with_reducible refine L2.rd_gname ?_ | with_reducible refine L2.rd_gcons ?_ | with_reducible refine L2.rd_gnil ?_
  | ((with_reducible refine' L2.rd_i ?ec ?_); (case ec => first | ((with_reducible show L2.CPow _ _); exact ⟨by decide, by decide, by decide⟩) | ((with_reducible show L2.CDivB _ _); exact L2.cdiv_small (by decide) (by decide)) | (show (0 : Int) < _; first | decide | omega | exact L2.pow2_pos _))))
local macro_rules | `(tactic| walk_at "rd") => `(tactic| repeat walk_at "rd1")
local macro_rules | `(tactic| walk_at "fm") => `(tactic| (repeat (first | exact List.forall_mem_nil _ | refine List.forall_mem_cons.mpr ⟨by with_unfolding_all rfl, ?_⟩)))
local macro_rules | `(tactic| walk_at "rdi") => `(tactic| ((with_reducible refine' L2.rd_ixT ?hs1 ?he1 ?_); (case hs1 => first | assumption | exact L2.SqT.of (by assumption)); (case he1 => exact rfl)))
local macro_rules | `(tactic| walk_at "rdf") => `(tactic| ((with_reducible refine L2.rd_for ?_); (first | with_reducible refine L2.rd_iL ?_ | with_reducible refine L2.rd_iT ?_ | with_reducible refine L2.rd_rng1 ?_ | with_reducible refine L2.rd_rng2 ?_ | with_reducible refine L2.rd_rng3 ?_ | with_reducible refine L2.rd_rng2A ?_)))
local macro_rules | `(tactic| walk_at "rdx") => `(tactic| (repeat (first | walk_at "rd1" | with_reducible refine L2.rd_callE ?_ | with_reducible refine L2.rd_makeE ?_ | with_reducible refine L2.rd_methE ?_ | with_reducible refine L2.rd_methLE ?_ | with_reducible refine L2.rd_raise ?_ | with_reducible refine L2.rd_try ?_ | with_reducible refine L2.rd_xinit ?_ | with_reducible refine L2.rd_xf1 ?_ | with_reducible refine L2.rd_xf2 ?_ | with_reducible refine L2.rd_join ?_ | with_reducible refine L2.rd_xget ?_ | with_reducible refine L2.rd_ifE ?_)))
namespace Fw
theorem fmod_small (r d : Int) (hd : d ≠ 0) : 0 ≤ r.fmod d * d ∧ (r.fmod d).natAbs < d.natAbs := by
  rcases (by omega : 0 < d ∨ d < 0) with h | h
  · have a := Int.fmod_nonneg_of_pos r h
    have b := Int.fmod_lt_of_pos r h
    exact ⟨Int.mul_nonneg a (Int.le_of_lt h), by omega⟩
  · have e : r.fmod d = -((-r).fmod (-d)) := by
      rw [Int.fmod_def, Int.fmod_def, Int.neg_fdiv_neg, Int.neg_mul]; omega
    have a := Int.fmod_nonneg_of_pos (-r) (b := -d) (by omega)
    have b := Int.fmod_lt_of_pos (-r) (b := -d) (by omega)
    rw [e]
    generalize (-r).fmod (-d) = z at *
    refine ⟨?_, by omega⟩
    have := Int.mul_nonneg a (show 0 ≤ -d by omega)
    rw [Int.neg_mul]; rw [Int.mul_neg] at this; omega

structure EqI (a b u v r u' v' r' : Int) : Prop where
  e1 : u * a + v * b = r
  e2 : u' * a + v' * b = r'
  g : Int.gcd r r' = Int.gcd a b
  ph : (u = 1 ∧ v = 0 ∧ r = a ∧ u' = 0 ∧ v' = 1 ∧ r' = b) ∨
    (b ≠ 0 ∧ r ≠ 0 ∧ 0 ≤ r' * r ∧ r.natAbs ≤ b.natAbs ∧ r'.natAbs ≤ b.natAbs ∧ u'.natAbs * r.natAbs + u.natAbs * r'.natAbs ≤ b.natAbs ∧ u.natAbs ≤ b.natAbs + 1)

theorem EqI.start (a b : Int) : EqI a b 1 0 a 0 1 b := ⟨by omega, by omega, rfl, .inl ⟨rfl, rfl, rfl, rfl, rfl, rfl⟩⟩

theorem natAbs_sub_mul (u q x : Int) : (u - q * x).natAbs ≤ u.natAbs + q.natAbs * x.natAbs := by
  have h := Int.natAbs_sub_le u (q * x)
  rw [Int.natAbs_mul] at h
  exact h

theorem same_sign_quot {r d : Int} (hd : d ≠ 0) (hs : 0 ≤ d * r) : (r - r.fdiv d * d).natAbs + (r.fdiv d).natAbs * d.natAbs = r.natAbs := by
  have e : r.fmod d + r.fdiv d * d = r := Int.fmod_add_fdiv_mul r d
  have e2 : r - r.fdiv d * d = r.fmod d := by omega
  rw [e2, ← Int.natAbs_mul]
  have fs := fmod_small r d hd
  rcases (by omega : 0 < d ∨ d < 0) with h | h
  · have r0 : 0 ≤ r := by
      rcases (by omega : 0 ≤ r ∨ r < 0) with z | z
      · exact z
      · have := Int.mul_neg_of_pos_of_neg h z; omega
    have q0 : 0 ≤ r.fdiv d := Int.fdiv_nonneg r0 (Int.le_of_lt h)
    have a := Int.fmod_nonneg_of_pos r h
    have p := Int.mul_nonneg q0 (Int.le_of_lt h)
    omega
  · have r0 : r ≤ 0 := by
      rcases (by omega : r ≤ 0 ∨ 0 < r) with z | z
      · exact z
      · have := Int.mul_neg_of_neg_of_pos h z; omega
    have q0 : 0 ≤ r.fdiv d := Int.fdiv_nonneg_of_nonpos_of_nonpos r0 (Int.le_of_lt h)
    have a : r.fmod d ≤ 0 := by
      rcases (by omega : r.fmod d ≤ 0 ∨ 0 < r.fmod d) with z | z
      · exact z
      · have := Int.mul_neg_of_pos_of_neg z h; omega
    have p := Int.mul_nonneg q0 (show 0 ≤ -d by omega)
    rw [Int.mul_neg] at p
    omega

theorem EqI.step {a b u v r u' v' r' : Int} (I : EqI a b u v r u' v' r') (h : r' ≠ 0) :
    EqI a b u' v' r' (u - r.fdiv r' * u') (v - r.fdiv r' * v') (r - r.fdiv r' * r') ∧ (r - r.fdiv r' * r').natAbs < r'.natAbs := by
  have e : r.fmod r' + r.fdiv r' * r' = r := Int.fmod_add_fdiv_mul r r'
  have e2 : r - r.fdiv r' * r' = r.fmod r' := by omega
  have fs := fmod_small r r' h
  refine ⟨⟨I.e2, ?_, ?_, ?_⟩, by rw [e2]; exact fs.2⟩
  · have := I.e1
    have := I.e2
    grind
  · rw [Int.gcd_sub_mul_right_right, Int.gcd_comm]
    exact I.g
  · right
    rcases I.ph with ⟨h1, h2, h3, h4, h5, h6⟩ | ⟨hb, hr, hs, l1, l2, l3, l4⟩
    · subst h1 h2 h3 h4 h5 h6
      refine ⟨h, h, by rw [e2]; exact fs.1, Nat.le_refl _, by rw [e2]; omega, ?_, by simp⟩
      simp
    · have q := same_sign_quot h hs
      refine ⟨hb, h, by rw [e2]; exact fs.1, l2, by rw [e2]; omega, ?_, ?_⟩
      · have m := natAbs_sub_mul u (r.fdiv r') u'
        generalize (r - r.fdiv r' * r').natAbs = A at *
        generalize (u - r.fdiv r' * u').natAbs = B at *
        generalize (r.fdiv r').natAbs = C at *
        have k1 : B * r'.natAbs ≤ (u.natAbs + C * u'.natAbs) * r'.natAbs := Nat.mul_le_mul_right _ m
        have k2 : (u.natAbs + C * u'.natAbs) * r'.natAbs + u'.natAbs * A = u.natAbs * r'.natAbs + u'.natAbs * (A + C * r'.natAbs) := by grind
        rw [q] at k2
        omega
      · have : u'.natAbs * 1 ≤ u'.natAbs * r.natAbs := Nat.mul_le_mul_left _ (by omega)
        omega

theorem v_bound {a b u v r : Int} (hb : b ≠ 0) (e : u * a + v * b = r) (l1 : r.natAbs ≤ b.natAbs) (l4 : u.natAbs ≤ b.natAbs + 1) : v.natAbs ≤ 1 + 2 * a.natAbs := by
  have e1 : v * b = r - u * a := by omega
  have h := natAbs_sub_mul r u a
  rw [← e1, Int.natAbs_mul] at h
  have hb' : 0 < b.natAbs := by omega
  have k : u.natAbs * a.natAbs ≤ (b.natAbs + 1) * a.natAbs := Nat.mul_le_mul_right _ l4
  have k2 : a.natAbs * 1 ≤ a.natAbs * b.natAbs := Nat.mul_le_mul_left _ hb'
  have k3 : v.natAbs * b.natAbs ≤ (1 + 2 * a.natAbs) * b.natAbs := by grind
  exact Nat.le_of_mul_le_mul_right k3 hb'

theorem EqI.bounds {a b u v r u' v' r' : Int} (I : EqI a b u v r u' v' r') :
    u.natAbs ≤ b.natAbs + 1 ∧ v.natAbs ≤ 1 + 2 * a.natAbs ∧ u'.natAbs ≤ b.natAbs + 1 ∧ v'.natAbs ≤ 1 + 2 * a.natAbs ∧ r.natAbs ≤ a.natAbs + b.natAbs ∧ r'.natAbs ≤ b.natAbs := by
  rcases I.ph with ⟨h1, h2, h3, h4, h5, h6⟩ | ⟨hb, hr, hs, l1, l2, l3, l4⟩
  · subst h1 h2 h3 h4 h5 h6
    refine ⟨by simp, by simp, by simp, by simp, by omega, by omega⟩
  · have : u'.natAbs * 1 ≤ u'.natAbs * r.natAbs := Nat.mul_le_mul_left _ (by omega)
    have lu : u'.natAbs ≤ b.natAbs + 1 := by omega
    exact ⟨l4, v_bound hb I.e1 l1 l4, lu, v_bound hb I.e2 l2 lu, by omega, l2⟩

theorem quot_bound {r d : Int} (hd : d ≠ 0) : (r.fdiv d).natAbs ≤ r.natAbs + 1 := by
  have e : r.fmod d + r.fdiv d * d = r := Int.fmod_add_fdiv_mul r d
  have fs := (fmod_small r d hd).2
  have h : (r.fdiv d * d).natAbs ≤ r.natAbs + (r.fmod d).natAbs := by omega
  rw [Int.natAbs_mul] at h
  have d1 : 1 ≤ d.natAbs := by omega
  generalize (r.fdiv d).natAbs = x at *
  generalize d.natAbs = y at *
  generalize r.natAbs = z at *
  rcases (by omega : x ≤ 1 ∨ 2 ≤ x) with c | c
  · omega
  · obtain ⟨k, rfl⟩ : ∃ k, x = k + 1 := ⟨x - 1, by omega⟩
    have : (k + 1) * y = k * y + y := Nat.succ_mul k y
    have : k * 1 ≤ k * y := Nat.mul_le_mul_left k d1
    omega
/-- what an equation tells -/
structure Eqn (a b u v g : Int) : Prop where
  eq : u * a + v * b = g
  gd : g = (Int.gcd a b : Int)
  bu : u.natAbs ≤ b.natAbs + 1
  bv : v.natAbs ≤ 1 + 2 * a.natAbs

theorem EqI.done {a b u v r u' v' : Int} (I : EqI a b u v r u' v' 0) : (r < 0 → Eqn a b (-u) (-v) (-r)) ∧ (¬ r < 0 → Eqn a b u v r) := by
  have g := I.g
  rw [Int.gcd_zero_right] at g
  have B := I.bounds
  refine ⟨fun h => ⟨?_, by omega, by omega, by omega⟩, fun h => ⟨I.e1, by omega, B.1, B.2.1⟩⟩
  have := I.e1
  rw [Int.neg_mul, Int.neg_mul]; omega
end Fw

namespace Fw
theorem gcd_pos {a b : Int} (ha : 0 < a) : 0 < (Int.gcd a b : Int) := by
  have : Int.gcd a b ≠ 0 := fun z => by
    have := Int.eq_zero_of_gcd_eq_zero_left z
    omega
  omega
theorem gcd_le {a b : Int} (ha : 0 < a) : (Int.gcd a b : Int) ≤ a := Int.le_of_dvd ha (Int.gcd_dvd_left ..)
/-- a // g * b -/
def lcmI (a b : Int) : Int := a / (Int.gcd a b : Int) * b
theorem lcmI_facts {a b : Int} (ha : 0 < a) (hb : 0 < b) :
    0 < lcmI a b ∧ a ∣ lcmI a b ∧ b ∣ lcmI a b ∧ lcmI a b * (Int.gcd a b : Int) = a * b ∧ (∀ t, a ∣ t → b ∣ t → lcmI a b ∣ t) ∧ lcmI a b = (Int.lcm a b : Int) := by
  have gp := gcd_pos (b := b) ha
  obtain ⟨x, hx⟩ : (Int.gcd a b : Int) ∣ a := Int.gcd_dvd_left ..
  obtain ⟨y, hy⟩ : (Int.gcd a b : Int) ∣ b := Int.gcd_dvd_right ..
  have e1 : a / (Int.gcd a b : Int) = x := by
    have gne : (Int.gcd a b : Int) ≠ 0 := by omega
    generalize hg : (Int.gcd a b : Int) = g at *
    rw [hx]
    exact Int.mul_ediv_cancel_left x gne
  have e : lcmI a b = x * b := by unfold lcmI; rw [e1]
  have pr : lcmI a b * (Int.gcd a b : Int) = a * b := by rw [e]; conv => rhs; rw [hx]
                                                         grind
  have pl : (Int.lcm a b : Int) * (Int.gcd a b : Int) = a * b := by
    have h := Int.gcd_mul_lcm a b
    have h2 : ((Int.gcd a b * Int.lcm a b : Nat) : Int) = ((a.natAbs * b.natAbs : Nat) : Int) := by rw [h]
    rw [Int.natCast_mul, Int.natCast_mul, Int.natAbs_of_nonneg (Int.le_of_lt ha), Int.natAbs_of_nonneg (Int.le_of_lt hb)] at h2
    rw [Int.mul_comm]; exact h2
  have el : lcmI a b = (Int.lcm a b : Int) := Int.eq_of_mul_eq_mul_right (by omega : (Int.gcd a b : Int) ≠ 0) (pr.trans pl.symm)
  refine ⟨?_, ?_, ?_, pr, ?_, el⟩
  · have : 0 < lcmI a b * (Int.gcd a b : Int) := by rw [pr]; exact Int.mul_pos ha hb
    exact Int.pos_of_mul_pos_left this gp
  · rw [el]; exact Int.dvd_lcm_left ..
  · rw [el]; exact Int.dvd_lcm_right ..
  · intro t h1 h2; rw [el]; exact Int.coe_lcm_dvd h1 h2
theorem lcmI_comm {a b : Int} (ha : 0 < a) (hb : 0 < b) : lcmI a b = lcmI b a := by
  rw [(lcmI_facts ha hb).2.2.2.2.2, (lcmI_facts hb ha).2.2.2.2.2, Int.lcm_comm]
theorem lcmI_le {a b : Int} (ha : 0 < a) (hb : 0 < b) : lcmI a b ≤ a * b := by
  have f := lcmI_facts ha hb
  have gp := gcd_pos (b := b) ha
  have h : lcmI a b * 1 ≤ lcmI a b * (Int.gcd a b : Int) := Int.mul_le_mul_of_nonneg_left (by omega) (Int.le_of_lt f.1)
  rw [f.2.2.2.1] at h; omega
end Fw

namespace Fw
def On (n : Int) (b : Nat) (d : Int) : Bool := b.testBit (d % n).toNat
theorem on_eq (b k : Nat) : decide (((b : Nat) : Int) / 2 ^ k % 2 = 1) = b.testBit k := by
  rw [Nat.testBit_eq_decide_div_mod_eq]
  have e : ((b : Nat) : Int) / 2 ^ k % 2 = ((b / 2 ^ k % 2 : Nat) : Int) := by
    rw [Int.natCast_emod, Int.natCast_ediv, Int.natCast_pow]; rfl
  rw [e, Bool.eq_iff_iff]
  simp only [decide_eq_true_eq]
  omega
theorem shr_cast (b k : Nat) : ((b : Nat) : Int) / 2 ^ k = ((b >>> k : Nat) : Int) := by
  rw [Nat.shiftRight_eq_div_pow, Int.natCast_ediv, Int.natCast_pow]; rfl
theorem shl_cast (b k : Nat) : ((b : Nat) : Int) * 2 ^ k = ((b <<< k : Nat) : Int) := by
  rw [Nat.shiftLeft_eq, Int.natCast_mul, Int.natCast_pow]; rfl
theorem full_cast (k : Nat) : (1 : Int) * 2 ^ k - 1 = ((2 ^ k - 1 : Nat) : Int) := by
  have : 0 < 2 ^ k := Nat.two_pow_pos k
  rw [Int.natCast_sub (by omega), Int.natCast_pow]; simp
theorem pow_cast (k : Nat) : (1 : Int) * 2 ^ k = ((2 ^ k : Nat) : Int) := by
  rw [Int.natCast_pow]; simp
theorem bits_ext {w b c : Nat} (hb : b < 2 ^ w) (hc : c < 2 ^ w) (h : ∀ i, i < w → b.testBit i = c.testBit i) : b = c := by
  refine Nat.eq_of_testBit_eq fun i => ?_
  by_cases hi : i < w
  · exact h i hi
  · have p : 2 ^ w ≤ 2 ^ i := Nat.pow_le_pow_right (by decide) (by omega)
    rw [Nat.testBit_lt_two_pow (by omega), Nat.testBit_lt_two_pow (by omega)]
theorem high {n b i : Nat} (hb : b < 2 ^ n) (h : n ≤ i) : b.testBit i = false := by
  have p : 2 ^ n ≤ 2 ^ i := Nat.pow_le_pow_right (by decide) h
  exact Nat.testBit_lt_two_pow (by omega)
theorem and_full_lt (c w : Nat) : c &&& (2 ^ w - 1) < 2 ^ w := by
  rw [Nat.and_two_pow_sub_one_eq_mod]; exact Nat.mod_lt _ (Nat.two_pow_pos w)
theorem and_full_bit (c w i : Nat) (h : i < w) : (c &&& (2 ^ w - 1)).testBit i = c.testBit i := by
  rw [Nat.testBit_and, Nat.testBit_two_pow_sub_one]; simp [h]
def lat (n b s : Nat) : Nat := ((b <<< s) ||| (b >>> (n - s))) &&& (2 ^ n - 1)
theorem lat_lt (n b s : Nat) : lat n b s < 2 ^ n := and_full_lt _ _
theorem lat_bit {n b s i : Nat} (hb : b < 2 ^ n) (hs : s < n) (hi : i < n) : (lat n b s).testBit i = b.testBit ((i + n - s) % n) := by
  unfold lat
  rw [and_full_bit _ _ _ hi, Nat.testBit_or, Nat.testBit_shiftLeft, Nat.testBit_shiftRight]
  by_cases h : s ≤ i
  · have e : (i + n - s) % n = i - s := by
      have : i + n - s = i - s + n := by omega
      rw [this, Nat.add_mod_right, Nat.mod_eq_of_lt (by omega)]
    rw [e, high hb (show n ≤ n - s + i by omega)]
    simp [h]
  · have e : (i + n - s) % n = n - s + i := by
      rw [Nat.mod_eq_of_lt (by omega)]; omega
    rw [e]; simp [h]
theorem idx {n d num : Int} (hn : 0 < n) : (((d % n).toNat + n.toNat - (num % n).toNat) % n.toNat) = ((d - num) % n).toNat := by
  have h1 := Int.emod_nonneg d (show n ≠ 0 by omega)
  have h2 := Int.emod_lt_of_pos d hn
  have h3 := Int.emod_nonneg num (show n ≠ 0 by omega)
  have h4 := Int.emod_lt_of_pos num hn
  have e : (d - num) % n = (d % n + n - num % n) % n := by
    rw [Int.sub_emod, Int.sub_emod (d % n + n), Int.add_emod_right, Int.emod_emod, Int.emod_emod]
  have h5 := Int.emod_nonneg (d % n + n - num % n) (show n ≠ 0 by omega)
  rw [e]
  have k : (((d % n).toNat + n.toNat - (num % n).toNat : Nat) : Int) = d % n + n - num % n := by omega
  have k2 : (n.toNat : Int) = n := by omega
  have : ((((d % n).toNat + n.toNat - (num % n).toNat) % n.toNat : Nat) : Int) = (d % n + n - num % n) % n := by
    rw [Int.natCast_emod, k, k2]
  omega
theorem lat_on {n : Int} {b : Nat} {num d : Int} (hn : 0 < n) (hb : b < 2 ^ n.toNat) : On n (lat n.toNat b (num % n).toNat) d = On n b (d - num) := by
  unfold On
  have h1 := Int.emod_nonneg d (show n ≠ 0 by omega)
  have h2 := Int.emod_lt_of_pos d hn
  have h3 := Int.emod_nonneg num (show n ≠ 0 by omega)
  have h4 := Int.emod_lt_of_pos num hn
  rw [lat_bit hb (by omega) (by omega), idx hn]
structure Strt (n b w c : Nat) : Prop where
  lt : c < 2 ^ w
  bit : ∀ i, i < w → c.testBit i = b.testBit (i % n)
theorem Strt.start {n b : Nat} (h : b < 2 ^ n) : Strt n b n b := ⟨h, fun i hi => by rw [Nat.mod_eq_of_lt hi]⟩
theorem Strt.dbl {n b w c : Nat} (S : Strt n b w c) (hd : n ∣ w) : Strt n b (w * 2) (c ||| (c <<< w)) := by
  have e : 2 ^ (w * 2) = 2 ^ w * 2 ^ w := by rw [Nat.mul_two, Nat.pow_add]
  refine ⟨?_, fun i hi => ?_⟩
  · refine Nat.or_lt_two_pow (Nat.lt_of_lt_of_le S.lt (Nat.pow_le_pow_right (by decide) (by omega))) ?_
    rw [Nat.shiftLeft_eq, e]
    exact Nat.mul_lt_mul_of_pos_right S.lt (Nat.two_pow_pos w)
  · rw [Nat.testBit_or, Nat.testBit_shiftLeft]
    by_cases h : i < w
    · rw [S.bit i h]; simp [Nat.not_le.mpr h]
    · rw [high S.lt (by omega), S.bit (i - w) (by omega)]
      obtain ⟨k, rfl⟩ := hd
      have e2 : i = (i - n * k) + n * k := by omega
      have e3 : i % n = (i - n * k) % n := by conv => lhs; rw [e2, Nat.add_mul_mod_self_left]
      rw [e3]; simp; intro z; omega
theorem Strt.cut {n b w c z : Nat} (S : Strt n b w c) (h : z ≤ w) : Strt n b z (c &&& (2 ^ z - 1)) :=
  ⟨and_full_lt _ _, fun i hi => by rw [and_full_bit _ _ _ hi, S.bit i (by omega)]⟩
theorem Strt.on {n m : Int} {b c : Nat} (hn : 0 < n) (hm : 0 < m) (hd : n ∣ m) (S : Strt n.toNat b m.toNat c) (d : Int) : On m c d = On n b d := by
  unfold On
  have h1 := Int.emod_nonneg d (show m ≠ 0 by omega)
  have h2 := Int.emod_lt_of_pos d hm
  rw [S.bit _ (by omega)]
  congr 1
  have e : (d % m) % n = d % n := Int.emod_emod_of_dvd d hd
  have h3 := Int.emod_nonneg d (show n ≠ 0 by omega)
  have k : (((d % m).toNat % n.toNat : Nat) : Int) = d % m % n := by
    rw [Int.natCast_emod]
    have a1 : ((d % m).toNat : Int) = d % m := by omega
    have a2 : (n.toNat : Int) = n := by omega
    rw [a1, a2]
  rw [e] at k
  omega
end Fw

namespace Fw
def hit (n : Int) (ds : List Int) (d : Int) : Bool := ds.any fun x => decide ((d - x) % n = 0)
structure RB (n : Int) (ds : List Int) (b : Nat) : Prop where
  lt : b < 2 ^ n.toNat
  bit : ∀ d, On n b d = hit n ds d
theorem RB.nil (n : Int) : RB n [] 0 := ⟨Nat.two_pow_pos _, fun d => by unfold On hit; simp⟩
theorem sub_mod_zero {n d x : Int} (hn : 0 < n) : (d - x) % n = 0 ↔ d % n = x % n := by
  rw [Int.sub_emod]
  have h1 := Int.emod_nonneg d (show n ≠ 0 by omega)
  have h2 := Int.emod_lt_of_pos d hn
  have h3 := Int.emod_nonneg x (show n ≠ 0 by omega)
  have h4 := Int.emod_lt_of_pos x hn
  constructor
  · intro h
    have := Int.dvd_of_emod_eq_zero h
    obtain ⟨k, hk⟩ := this
    have : k = 0 := by
      rcases Int.lt_trichotomy k 0 with z | z | z
      · have : n * k ≤ n * (-1) := Int.mul_le_mul_of_nonneg_left (by omega) (by omega)
        omega
      · exact z
      · have : n * 1 ≤ n * k := Int.mul_le_mul_of_nonneg_left (by omega) (by omega)
        omega
    subst this
    omega
  · intro h
    rw [h]
    simp
theorem RB.snoc {n : Int} {ds : List Int} {b : Nat} {x : Int} (hn : 0 < n) (h : RB n ds b) : RB n (ds ++ [x]) (b ||| 2 ^ (x % n).toNat) := by
  have h3 := Int.emod_nonneg x (show n ≠ 0 by omega)
  have h4 := Int.emod_lt_of_pos x hn
  refine ⟨Nat.or_lt_two_pow h.lt (Nat.pow_lt_pow_right (by decide) (by omega)), fun d => ?_⟩
  have h1 := Int.emod_nonneg d (show n ≠ 0 by omega)
  have hb := h.bit d
  unfold On hit at *
  rw [Nat.testBit_or, hb, List.any_append, Nat.testBit_two_pow]
  congr 1
  rw [List.any_cons, List.any_nil, Bool.or_false, Bool.eq_iff_iff, decide_eq_true_eq, decide_eq_true_eq, sub_mod_zero hn]
  omega
end Fw

namespace Fw
def cnt (b : Nat) : Nat → Nat
  | 0 => 0
  | k + 1 => cnt b k + (if b.testBit k then 1 else 0)
theorem cnt_step (b : Nat) : ∀ k, cnt b (k + 1) = b % 2 + cnt (b / 2) k
  | 0 => by
    simp only [cnt, Nat.testBit_zero]
    have := Nat.mod_two_eq_zero_or_one b
    rcases this with h | h <;> simp [h]
  | k + 1 => by
    have ih := cnt_step b k
    rw [cnt, ih]
    show b % 2 + cnt (b / 2) k + _ = b % 2 + (cnt (b / 2) k + _)
    rw [Nat.testBit_succ]
    omega
/-- the days on which it holds, counted from day 0 -/
def CC (n : Int) (b : Nat) (d : Int) : Int := d / n * (cnt b n.toNat : Int) + (cnt b (d % n).toNat : Int)
theorem CC_succ {n : Int} {b : Nat} (hn : 0 < n) (d : Int) : CC n b (d + 1) = CC n b d + (if On n b d then 1 else 0) := by
  have h1 := Int.emod_nonneg d (show n ≠ 0 by omega)
  have h2 := Int.emod_lt_of_pos d hn
  have h3 := Int.mul_ediv_add_emod d n
  unfold CC On
  by_cases hl : d % n = n - 1
  · have hd : d + 1 = n * (d / n + 1) := by rw [Int.mul_add, Int.mul_one]; omega
    have e1 : (d + 1) / n = d / n + 1 := by rw [hd]; exact Int.mul_ediv_cancel_left _ (by omega)
    have e2 : (d + 1) % n = 0 := by rw [hd]; exact Int.mul_emod_right _ _
    have e3 : n.toNat = (d % n).toNat + 1 := by omega
    rw [e1, e2]
    show (d / n + 1) * (cnt b n.toNat : Int) + ((cnt b 0 : Nat) : Int) = _
    have e4 : (cnt b n.toNat : Int) = (cnt b (d % n).toNat : Int) + (if b.testBit (d % n).toNat then 1 else 0) := by
      rw [e3, cnt]
      split <;> simp
    have e5 : ((cnt b 0 : Nat) : Int) = 0 := rfl
    rw [Int.add_mul, Int.one_mul, e5]
    omega
  · have e1 : (d + 1) / n = d / n := by
      have : d + 1 = n * (d / n) + (d % n + 1) := by omega
      rw [this, Int.mul_add_ediv_left _ _ (by omega), Int.ediv_eq_zero_of_lt (a := d % n + 1) (b := n) (by omega) (by omega), Int.add_zero]
    have e2 : (d + 1) % n = d % n + 1 := by
      have : d + 1 = n * (d / n) + (d % n + 1) := by omega
      rw [this, Int.mul_add_emod_self_left]
      exact Int.emod_eq_of_lt (by omega) (by omega)
    rw [e1, e2]
    have e3 : (d % n + 1).toNat = (d % n).toNat + 1 := by omega
    rw [e3, cnt]
    split <;> simp <;> omega
theorem CC_turn {n : Int} {b : Nat} (hn : 0 < n) (d : Int) : CC n b (d + n) = CC n b d + (cnt b n.toNat : Int) := by
  unfold CC
  have e1 : (d + n) / n = d / n + 1 := by rw [Int.add_ediv_of_dvd_right (Int.dvd_refl n), Int.ediv_self (by omega)]
  have e2 : (d + n) % n = d % n := Int.add_emod_right d n
  rw [e1, e2, Int.add_mul, Int.one_mul]
  omega
theorem CC_mono_nat {n : Int} {b : Nat} (hn : 0 < n) (d : Int) : ∀ k : Nat, CC n b d ≤ CC n b (d + (k : Int))
  | 0 => by simp
  | k + 1 => by
    have ih := CC_mono_nat (b := b) hn d k
    have e := CC_succ (b := b) hn (d + (k : Int))
    have : d + ((k + 1 : Nat) : Int) = d + (k : Int) + 1 := by omega
    rw [this, e]
    split <;> omega
theorem CC_mono {n : Int} {b : Nat} (hn : 0 < n) {d e : Int} (h : d ≤ e) : CC n b d ≤ CC n b e := by
  have := CC_mono_nat (b := b) hn d (e - d).toNat
  rwa [show d + ((e - d).toNat : Int) = e by omega] at this
end Fw

namespace Fw
end Fw

namespace Fw
end Fw

namespace Fw
def fval (w : Nat) : List Nat → Nat
  | [] => 0
  | a :: l => a + 2 ^ w * fval w l
def fsum : List Nat → Nat
  | [] => 0
  | a :: l => a + fsum l
def Dg (w f s : Nat) : Prop := ∃ l : List Nat, (∀ a ∈ l, a ≤ w) ∧ f = fval w l ∧ s = fsum l
theorem Dg.nil {w : Nat} : Dg w 0 0 := ⟨[], (fun _ h => nomatch h), rfl, rfl⟩
theorem Dg.cons {w a f s : Nat} (h : a ≤ w) (g : Dg w f s) : Dg w (a + 2 ^ w * f) (a + s) := by
  obtain ⟨l, h1, rfl, rfl⟩ := g
  exact ⟨a :: l, fun x hx => (List.mem_cons.mp hx).elim (fun e => e ▸ h) (h1 x), rfl, rfl⟩
def Ev (w f e : Nat) : Prop := ∀ i, e.testBit i = (f.testBit i && decide (i % (2 * w) < w))
theorem fval_zero {w : Nat} : ∀ l : List Nat, fval w l = 0 → fsum l = 0
  | [], _ => rfl
  | a :: l, e => by
    have e : a + 2 ^ w * fval w l = 0 := e
    have e1 : a = 0 := by omega
    have e2 : 2 ^ w * fval w l = 0 := by omega
    have p := Nat.two_pow_pos w
    rcases Nat.mul_eq_zero.mp e2 with z | z
    · omega
    · show a + fsum l = 0
      rw [e1, fval_zero l z]
theorem Dg.last {w f s : Nat} (h : Dg w f s) (hl : f < 2 ^ w) : f = s := by
  obtain ⟨l, _, rfl, rfl⟩ := h
  cases l with
  | nil => rfl
  | cons a l =>
    have hl : a + 2 ^ w * fval w l < 2 ^ w := hl
    have z : fval w l = 0 := by
      rcases Nat.eq_zero_or_pos (fval w l) with z | z
      · exact z
      · have := Nat.le_mul_of_pos_right (2 ^ w) z
        omega
    show a + 2 ^ w * fval w l = a + fsum l
    rw [fval_zero l z, z]; simp
theorem bit_split {w a h : Nat} (ha : a < 2 ^ w) (i : Nat) : (a + 2 ^ w * h).testBit i = if i < w then a.testBit i else h.testBit (i - w) := by
  rw [Nat.add_comm, Nat.testBit_two_pow_mul_add h ha]
theorem Ev.peel {w a h e : Nat} (w0 : 0 < w) (ha : a < 2 ^ w) (H : Ev w (a + 2 ^ w * h) e) : e = a + 2 ^ (2 * w) * (e / 2 ^ (2 * w)) ∧ Ev w (h / 2 ^ w) (e / 2 ^ (2 * w)) := by
  have e1 : e % 2 ^ (2 * w) = a := by
    refine Nat.eq_of_testBit_eq fun i => ?_
    rw [Nat.testBit_mod_two_pow, H i, bit_split ha]
    by_cases c : i < w
    · rw [if_pos c, Nat.mod_eq_of_lt (by omega)]
      simp [c, show i < 2 * w by omega]
    · rw [if_neg c]
      have : a.testBit i = false := Nat.testBit_lt_two_pow (Nat.lt_of_lt_of_le ha (Nat.pow_le_pow_right (by decide) (by omega)))
      rw [this]
      by_cases c2 : i < 2 * w
      · rw [Nat.mod_eq_of_lt c2]
        simp [c]
      · simp [c2]
  refine ⟨?_, fun i => ?_⟩
  · have := Nat.mod_add_div e (2 ^ (2 * w))
    rw [e1] at this
    exact this.symm
  · rw [← Nat.shiftRight_eq_div_pow, ← Nat.shiftRight_eq_div_pow, Nat.testBit_shiftRight, Nat.testBit_shiftRight, H, bit_split ha, if_neg (by omega), show 2 * w + i - w = w + i by omega, Nat.add_mod_left]
theorem fpair {w : Nat} (w0 : 0 < w) : ∀ l : List Nat, (∀ a ∈ l, a ≤ w) → ∀ e1 e2, Ev w (fval w l) e1 → Ev w (fval w l / 2 ^ w) e2 → Dg (2 * w) (e1 + e2) (fsum l) ∧ e1 + e2 ≤ fval w l
  | [], _, e1, e2, h1, h2 => by
    have z : ∀ e, Ev w 0 e → e = 0 := fun e he => Nat.eq_of_testBit_eq fun i => by rw [he i, Nat.zero_testBit]; rfl
    have h2 : Ev w (0 / 2 ^ w) e2 := h2
    rw [Nat.zero_div] at h2
    rw [z e1 h1, z e2 h2]
    exact ⟨.nil, Nat.le_refl _⟩
  | [a], ha, e1, e2, h1, h2 => by
    have ha := ha a List.mem_cons_self
    have h1 : Ev w (a + 2 ^ w * 0) e1 := h1
    have h2 : Ev w ((a + 2 ^ w * 0) / 2 ^ w) e2 := h2
    show Dg (2 * w) (e1 + e2) (a + 0) ∧ e1 + e2 ≤ a + 2 ^ w * 0
    have al : a < 2 ^ w := Nat.lt_of_le_of_lt ha Nat.lt_two_pow_self
    have z : ∀ e, Ev w 0 e → e = 0 := fun e he => Nat.eq_of_testBit_eq fun i => by rw [he i, Nat.zero_testBit]; rfl
    obtain ⟨p1, p2⟩ := h1.peel w0 al
    rw [Nat.zero_div] at p2
    have p3 := z _ p2
    rw [Nat.mul_zero, Nat.add_zero, Nat.div_eq_of_lt al] at h2
    have p4 := z _ h2
    rw [p3, Nat.mul_zero, Nat.add_zero] at p1
    rw [p1, p4, Nat.mul_zero]
    refine ⟨?_, by omega⟩
    have := Dg.cons (w := 2 * w) (a := a) (by omega) (.nil)
    rwa [Nat.mul_zero] at this
  | a :: b :: l, hl, e1, e2, h1, h2 => by
    have ha := hl a List.mem_cons_self
    have hb := hl b (List.mem_cons_of_mem _ List.mem_cons_self)
    have hg : ∀ x ∈ l, x ≤ w := fun x hx => hl x (List.mem_cons_of_mem _ (List.mem_cons_of_mem _ hx))
    have h1 : Ev w (a + 2 ^ w * (b + 2 ^ w * fval w l)) e1 := h1
    have h2 : Ev w ((a + 2 ^ w * (b + 2 ^ w * fval w l)) / 2 ^ w) e2 := h2
    have ih := fpair w0 l hg
    show Dg (2 * w) (e1 + e2) (a + (b + fsum l)) ∧ e1 + e2 ≤ a + 2 ^ w * (b + 2 ^ w * fval w l)
    generalize fval w l = g at *
    generalize fsum l = s at *
    have al : a < 2 ^ w := Nat.lt_of_le_of_lt ha Nat.lt_two_pow_self
    have bl : b < 2 ^ w := Nat.lt_of_le_of_lt hb Nat.lt_two_pow_self
    have p := Nat.two_pow_pos w
    have d1 : (a + 2 ^ w * (b + 2 ^ w * g)) / 2 ^ w = b + 2 ^ w * g := by rw [Nat.add_mul_div_left _ _ p, Nat.div_eq_of_lt al, Nat.zero_add]
    have d2 : (b + 2 ^ w * g) / 2 ^ w = g := by rw [Nat.add_mul_div_left _ _ p, Nat.div_eq_of_lt bl, Nat.zero_add]
    rw [d1] at h2
    obtain ⟨p1, p2⟩ := h1.peel w0 al
    obtain ⟨p3, p4⟩ := h2.peel w0 bl
    rw [d2] at p2
    obtain ⟨i1, i2⟩ := ih _ _ p2 p4
    have := Dg.cons (w := 2 * w) (a := a + b) (by omega) i1
    refine ⟨?_, ?_⟩
    · rw [p1, p3]
      rw [Nat.mul_add] at this
      have e : a + 2 ^ (2 * w) * (e1 / 2 ^ (2 * w)) + (b + 2 ^ (2 * w) * (e2 / 2 ^ (2 * w))) = a + b + (2 ^ (2 * w) * (e1 / 2 ^ (2 * w)) + 2 ^ (2 * w) * (e2 / 2 ^ (2 * w))) := by omega
      rw [e, ← Nat.add_assoc a b s]
      exact this
    · have m := Nat.mul_le_mul_left (2 ^ (2 * w)) i2
      rw [Nat.mul_add] at m
      have q1 : b ≤ 2 ^ w * b := Nat.le_mul_of_pos_left b p
      have q2 : 2 ^ w * (2 ^ w * g) = 2 ^ (2 * w) * g := by rw [← Nat.mul_assoc, ← Nat.pow_add, Nat.two_mul]
      rw [Nat.mul_add, q2]
      omega
theorem Dg.pair {w f s : Nat} (w0 : 0 < w) (h : Dg w f s) {e1 e2 : Nat} (h1 : Ev w f e1) (h2 : Ev w (f / 2 ^ w) e2) : Dg (2 * w) (e1 + e2) s ∧ e1 + e2 ≤ f := by
  obtain ⟨l, hl, rfl, rfl⟩ := h
  exact fpair w0 l hl e1 e2 h1 h2
theorem Dg.start : ∀ (n b : Nat), b < 2 ^ n → Dg 1 b (cnt b n)
  | 0, b, h => by
    have : b = 0 := by simp at h; exact h
    subst this
    exact .nil
  | n + 1, b, h => by
    have := Dg.cons (w := 1) (a := b % 2) (by omega) (Dg.start n (b / 2) (by rw [Nat.pow_succ] at h; omega))
    rw [cnt_step]
    rwa [Nat.pow_one, Nat.mod_add_div] at this
theorem cnt_same {b c : Nat} : ∀ {k : Nat}, (∀ i, i < k → b.testBit i = c.testBit i) → cnt b k = cnt c k
  | 0, _ => rfl
  | k + 1, h => by
    rw [cnt, cnt, cnt_same (fun i hi => h i (by omega)), h k (by omega)]
theorem cnt_le (b : Nat) : ∀ k, cnt b k ≤ k
  | 0 => Nat.le_refl _
  | k + 1 => by
    have := cnt_le b k
    rw [cnt]
    split <;> omega
end Fw

namespace Fw
def pc (b j : Nat) : Nat := b / 2 ^ (256 * j) % 2 ^ 256
theorem pc_bit (b j i : Nat) : (pc b j).testBit i = (decide (i < 256) && b.testBit (256 * j + i)) := by
  unfold pc
  rw [Nat.testBit_mod_two_pow, ← Nat.shiftRight_eq_div_pow, Nat.testBit_shiftRight]
theorem pc_lt (b j : Nat) : pc b j < 2 ^ 256 := Nat.mod_lt _ (Nat.two_pow_pos _)
theorem pc_or_at (b p : Nat) : pc (b ||| 2 ^ p) (p / 256) = pc b (p / 256) ||| 2 ^ (p % 256) := by
  refine Nat.eq_of_testBit_eq fun i => ?_
  rw [pc_bit, Nat.testBit_or, Nat.testBit_or, pc_bit, Nat.testBit_two_pow, Nat.testBit_two_pow]
  by_cases c : i < 256
  · have : (p = 256 * (p / 256) + i) = (p % 256 = i) := propext ⟨fun h => by omega, fun h => by omega⟩
    simp [c, this]
  · have : ¬ p % 256 = i := by omega
    simp [c, this]
theorem pc_or_ne {b p j : Nat} (h : j ≠ p / 256) : pc (b ||| 2 ^ p) j = pc b j := by
  refine Nat.eq_of_testBit_eq fun i => ?_
  rw [pc_bit, Nat.testBit_or, pc_bit, Nat.testBit_two_pow]
  by_cases c : i < 256
  · have : ¬ p = 256 * j + i := by omega
    simp [c, this]
  · simp [c]
theorem pc_join (b m : Nat) : b % 2 ^ (256 * m) ||| (pc b m <<< (256 * m)) = b % 2 ^ (256 * (m + 1)) := by
  refine Nat.eq_of_testBit_eq fun i => ?_
  rw [Nat.testBit_or, Nat.testBit_shiftLeft, Nat.testBit_mod_two_pow, Nat.testBit_mod_two_pow, pc_bit]
  by_cases c : i < 256 * m
  · simp [c, show ¬ 256 * m ≤ i by omega, show i < 256 * (m + 1) by omega]
  · by_cases c2 : i < 256 * (m + 1)
    · simp [c, c2, show 256 * m ≤ i by omega, show i - 256 * m < 256 by omega, show 256 * m + (i - 256 * m) = i by omega]
    · simp [c, c2, show ¬ i - 256 * m < 256 by omega]
end Fw

namespace Fw
structure Rw (on : Int → Bool) (rw : List Int) : Prop where
  srt : rw.Pairwise (· < ·)
  all : ∀ r ∈ rw, on r = true
  cov : ∀ r, on r = true → (∃ x ∈ rw, x ≤ r) → (∃ y ∈ rw, r ≤ y) → r ∈ rw
theorem pw_get {l : List Int} (h : l.Pairwise (· < ·)) {i j : Nat} {x y : Int} (hij : i < j) (hx : l[i]? = some x) (hy : l[j]? = some y) : x < y := by
  obtain ⟨hi, rfl⟩ := List.getElem?_eq_some_iff.mp hx
  obtain ⟨hj, rfl⟩ := List.getElem?_eq_some_iff.mp hy
  exact List.pairwise_iff_getElem.mp h i j hi hj hij
theorem Rw.gap {on : Int → Bool} {rw : List Int} (h : Rw on rw) {p : Nat} {x y r : Int} (hx : rw[p]? = some x) (hy : rw[p + 1]? = some y) (h1 : x < r) (h2 : r < y) : on r = false := by
  cases e : on r with
  | false => rfl
  | true =>
    have m := h.cov r e ⟨x, List.mem_of_getElem? hx, by omega⟩ ⟨y, List.mem_of_getElem? hy, by omega⟩
    obtain ⟨j, hj⟩ := List.mem_iff_getElem?.mp m
    rcases Nat.lt_trichotomy j p with z | z | z
    · have := pw_get h.srt z hj hx
      omega
    · subst z
      rw [hj] at hx
      injection hx with hx
      omega
    · rcases Nat.lt_trichotomy j (p + 1) with w | w | w
      · omega
      · subst w
        rw [hj] at hy
        injection hy with hy
        omega
      · have := pw_get h.srt w hy hj
        omega
theorem On_per {n m : Int} {b : Nat} (hd : n ∣ m) (d k : Int) : On n b (d + m * k) = On n b d := by
  unfold On
  obtain ⟨c, rfl⟩ := hd
  rw [Int.mul_assoc, Int.add_mul_emod_self_left]
/-- the row: the last day of the round ahead, the days, the first one of the round behind -/
theorem Rw.mk' {on : Int → Bool} {z : Int} {ds : List Int} (z0 : 0 < z) (per : ∀ d k, on (d + z * k) = on d) (srt : ds.Pairwise (· < ·)) (mem : ∀ d, d ∈ ds ↔ 0 ≤ d ∧ d < z ∧ on d = true) {f g : Int}
    (hf : ds[0]? = some f) (hg : ds[ds.length - 1]? = some g) : Rw on ([g - z] ++ ds ++ [f + z]) ∧ g - z < 0 ∧ z ≤ f + z := by
  have fm := (mem f).mp (List.mem_of_getElem? hf)
  have gm := (mem g).mp (List.mem_of_getElem? hg)
  have lo : ∀ d ∈ ds, f ≤ d := fun d hd => by
    obtain ⟨j, hj⟩ := List.mem_iff_getElem?.mp hd
    rcases Nat.eq_zero_or_pos j with e | e
    · subst e
      rw [hj] at hf
      injection hf with hf
      omega
    · have := pw_get srt e hf hj
      omega
  have hi : ∀ d ∈ ds, d ≤ g := fun d hd => by
    obtain ⟨j, hj⟩ := List.mem_iff_getElem?.mp hd
    have jl : j < ds.length := (List.getElem?_eq_some_iff.mp hj).1
    rcases Nat.lt_or_eq_of_le (Nat.le_sub_one_of_lt jl) with e | e
    · have := pw_get srt e hj hg
      omega
    · subst e
      rw [hj] at hg
      injection hg with hg
      omega
  have p1 : on (g - z) = true := by
    have := per (g - z) 1
    rw [show g - z + z * 1 = g by omega] at this
    rw [← this]
    exact gm.2.2
  have p2 : on (f + z) = true := by
    have := per f 1
    rw [Int.mul_one] at this
    rw [this]
    exact fm.2.2
  refine ⟨⟨?_, ?_, ?_⟩, by omega, by omega⟩
  · rw [List.pairwise_append, List.pairwise_append]
    refine ⟨⟨List.pairwise_singleton _ _, srt, fun a ha b hb => ?_⟩, List.pairwise_singleton _ _, fun a ha b hb => ?_⟩
    · cases List.mem_singleton.mp ha
      have := ((mem b).mp hb).1
      omega
    · cases List.mem_singleton.mp hb
      rcases List.mem_append.mp ha with h | h
      · cases List.mem_singleton.mp h
        omega
      · have := ((mem a).mp h).2.1
        omega
  · intro r hr
    rcases List.mem_append.mp hr with h | h
    · rcases List.mem_append.mp h with h | h
      · cases List.mem_singleton.mp h
        exact p1
      · exact ((mem r).mp h).2.2
    · cases List.mem_singleton.mp h
      exact p2
  · rintro r hr ⟨x, hx, xr⟩ ⟨y, hy, ry⟩
    have x0 : g - z ≤ x := by
      rcases List.mem_append.mp hx with h | h
      · rcases List.mem_append.mp h with h | h
        · cases List.mem_singleton.mp h
          omega
        · have := ((mem x).mp h).1
          omega
      · cases List.mem_singleton.mp h
        omega
    have y0 : y ≤ f + z := by
      rcases List.mem_append.mp hy with h | h
      · rcases List.mem_append.mp h with h | h
        · cases List.mem_singleton.mp h
          omega
        · have := ((mem y).mp h).2.1
          omega
      · cases List.mem_singleton.mp h
        omega
    rcases Int.lt_or_le r 0 with c | c
    · have e := per r 1
      rw [Int.mul_one, hr] at e
      have m := (mem (r + z)).mpr ⟨by omega, by omega, e⟩
      have := hi _ m
      exact List.mem_append_left _ (List.mem_append_left _ (List.mem_singleton.mpr (by omega)))
    · rcases Int.lt_or_le r z with c2 | c2
      · exact List.mem_append_left _ (List.mem_append_right _ ((mem r).mpr ⟨c, c2, hr⟩))
      · have e := per (r - z) 1
        rw [show r - z + z * 1 = r by omega, hr] at e
        have m := (mem (r - z)).mpr ⟨by omega, by omega, e.symm⟩
        have := lo _ m
        exact List.mem_append_right _ (List.mem_singleton.mpr (by omega))
/-- of an S day: the last R day up to it, itself, the first R day from it on -/
structure Nb (on : Int → Bool) (a d c : Int) : Prop where
  oa : on a = true
  ad : a ≤ d
  na : ∀ r, a < r → r ≤ d → on r = false
  oc : on c = true
  dc : d ≤ c
  nc : ∀ r, d ≤ r → r < c → on r = false
theorem Rw.nb {on : Int → Bool} {rw : List Int} (h : Rw on rw) {p : Nat} {x y d : Int} (hx : rw[p]? = some x) (hy : rw[p + 1]? = some y) (h1 : x < d) (h2 : d ≤ y) : Nb on (if y = d then d else x) d y := by
  have ox := h.all x (List.mem_of_getElem? hx)
  have oy := h.all y (List.mem_of_getElem? hy)
  by_cases c : y = d
  · rw [if_pos c]
    subst c
    exact ⟨oy, Int.le_refl _, fun r z1 z2 => by omega, oy, Int.le_refl _, fun r z1 z2 => by omega⟩
  · rw [if_neg c]
    exact ⟨ox, by omega, fun r z1 z2 => h.gap hx hy z1 (by omega), oy, h2, fun r z1 z2 => h.gap hx hy (by omega) z2⟩
end Fw

namespace Fw
theorem hit_iff {z : Int} {xs : List Int} {d : Int} : hit z xs d = true ↔ ∃ x ∈ xs, ∃ k, d = x + z * k := by
  unfold hit
  rw [List.any_eq_true]
  constructor
  · rintro ⟨x, hx, h⟩
    obtain ⟨k, hk⟩ := Int.dvd_of_emod_eq_zero (of_decide_eq_true h)
    exact ⟨x, hx, k, by omega⟩
  · rintro ⟨x, hx, k, hk⟩
    refine ⟨x, hx, decide_eq_true ?_⟩
    rw [show d - x = z * k by omega]
    exact Int.mul_emod_right z k
/-- the first R day from s on; the last one up to s; the nearest one -/
def ChUp (on : Int → Bool) (s x : Int) : Prop := on x = true ∧ s ≤ x ∧ ∀ r, s ≤ r → r < x → on r = false
def ChUn (on : Int → Bool) (s x : Int) : Prop := on x = true ∧ x ≤ s ∧ ∀ r, x < r → r ≤ s → on r = false
def ChNr (on : Int → Bool) (s x : Int) : Prop := on x = true ∧ ∀ r, on r = true → (x < r → (x - s).natAbs ≤ (r - s).natAbs) ∧ (r < x → (x - s).natAbs < (r - s).natAbs)
theorem ChUp.per {on : Int → Bool} {z : Int} (per : ∀ d k, on (d + z * k) = on d) (s x k : Int) (h : ChUp on s x) : ChUp on (s + z * k) (x + z * k) :=
  ⟨by rw [per]; exact h.1, by have := h.2.1; omega, fun r h1 h2 => by
    have := h.2.2 (r - z * k) (by omega) (by omega)
    rw [← per (r - z * k) k, show r - z * k + z * k = r by omega] at this
    exact this⟩
theorem ChUn.per {on : Int → Bool} {z : Int} (per : ∀ d k, on (d + z * k) = on d) (s x k : Int) (h : ChUn on s x) : ChUn on (s + z * k) (x + z * k) :=
  ⟨by rw [per]; exact h.1, by have := h.2.1; omega, fun r h1 h2 => by
    have := h.2.2 (r - z * k) (by omega) (by omega)
    rw [← per (r - z * k) k, show r - z * k + z * k = r by omega] at this
    exact this⟩
theorem ChNr.per {on : Int → Bool} {z : Int} (per : ∀ d k, on (d + z * k) = on d) (s x k : Int) (h : ChNr on s x) : ChNr on (s + z * k) (x + z * k) :=
  ⟨by rw [per]; exact h.1, fun r hr => by
    have e := per (r - z * k) k
    rw [show r - z * k + z * k = r by omega, hr] at e
    obtain ⟨h1, h2⟩ := h.2 (r - z * k) e.symm
    refine ⟨fun c => ?_, fun c => ?_⟩
    · have := h1 (by omega)
      omega
    · have := h2 (by omega)
      omega⟩
theorem ChUp.un {on : Int → Bool} (s x y : Int) (h : ChUp on s x) (g : ChUp on s y) : x = y := by
  rcases Int.lt_trichotomy x y with c | c | c
  · have := g.2.2 x h.2.1 c
    rw [h.1] at this
    cases this
  · exact c
  · have := h.2.2 y g.2.1 c
    rw [g.1] at this
    cases this
theorem ChUn.un {on : Int → Bool} (s x y : Int) (h : ChUn on s x) (g : ChUn on s y) : x = y := by
  rcases Int.lt_trichotomy x y with c | c | c
  · have := h.2.2 y c g.2.1
    rw [g.1] at this
    cases this
  · exact c
  · have := g.2.2 x c h.2.1
    rw [h.1] at this
    cases this
theorem ChNr.un {on : Int → Bool} (s x y : Int) (h : ChNr on s x) (g : ChNr on s y) : x = y := by
  have a := h.2 y g.1
  have b := g.2 x h.1
  rcases Int.lt_trichotomy x y with c | c | c
  · have := a.1 c
    have := b.2 c
    omega
  · exact c
  · have := a.2 c
    have := b.1 c
    omega
theorem Nb.up {on : Int → Bool} {a d c : Int} (h : Nb on a d c) : ChUp on d c := ⟨h.oc, h.dc, h.nc⟩
theorem Nb.un {on : Int → Bool} {a d c : Int} (h : Nb on a d c) : ChUn on d a := ⟨h.oa, h.ad, h.na⟩
end Fw

namespace Fw
structure Rs (on : Int → Bool) (row : List Int) (lo hi : Int) : Prop where
  srt : row.Pairwise (· < ·)
  mem : ∀ r, r ∈ row ↔ lo ≤ r ∧ r < hi ∧ on r = true
theorem Rs.mk' {on : Int → Bool} {z b0 : Int} {ds : List Int} (per : ∀ d k, on (d + z * k) = on d) (srt : ds.Pairwise (· < ·)) (mem : ∀ d, d ∈ ds ↔ 0 ≤ d ∧ d < z ∧ on d = true) (h0 : 0 ≤ b0) (h1 : b0 < z) :
    Rs on (ds.filter (fun d => decide (b0 ≤ d)) ++ (ds.filter fun d => decide (d < b0)).map fun d => d + z) b0 (b0 + z) := by
  refine ⟨?_, fun r => ?_⟩
  · rw [List.pairwise_append]
    refine ⟨srt.filter _, ?_, fun a ha b hb => ?_⟩
    · rw [List.pairwise_map]
      exact (srt.filter _).imp fun h => by omega
    · obtain ⟨b', hb', rfl⟩ := List.mem_map.mp hb
      have a1 := (mem a).mp (List.mem_filter.mp ha).1
      have b1 := (mem b').mp (List.mem_filter.mp hb').1
      omega
  · rw [List.mem_append, List.mem_filter, List.mem_map]
    constructor
    · rintro (⟨h, h2⟩ | ⟨d, hd, rfl⟩)
      · have := (mem r).mp h
        have := of_decide_eq_true h2
        exact ⟨by omega, by omega, ((mem r).mp h).2.2⟩
      · obtain ⟨h, h2⟩ := List.mem_filter.mp hd
        have a := (mem d).mp h
        have := of_decide_eq_true h2
        refine ⟨by omega, by omega, ?_⟩
        have e := per d 1
        rw [Int.mul_one] at e
        rw [e]
        exact a.2.2
    · rintro ⟨x, y, w⟩
      rcases Int.lt_or_le r z with c | c
      · exact .inl ⟨(mem r).mpr ⟨by omega, c, w⟩, decide_eq_true x⟩
      · right
        have e := per (r - z) 1
        rw [show r - z + z * 1 = r by omega, w] at e
        exact ⟨r - z, List.mem_filter.mpr ⟨(mem _).mpr ⟨by omega, by omega, e.symm⟩, decide_eq_true (by omega)⟩, by omega⟩
theorem Rs.cut {on : Int → Bool} {row : List Int} {lo hi b e : Int} (R : Rs on row lo hi) {p q : Nat} (pq : p ≤ q) (h1 : ∀ j x, j < p → row[j]? = some x → x < b) (h2 : ∀ j x, p ≤ j → row[j]? = some x → b ≤ x)
    (h3 : ∀ j x, j < q → row[j]? = some x → x < e) (h4 : ∀ j x, q ≤ j → row[j]? = some x → e ≤ x) (lb : lo ≤ b) (eh : e ≤ hi) :
    ((row.drop p).take (q - p)).Pairwise (· < ·) ∧ ∀ r, r ∈ (row.drop p).take (q - p) ↔ b ≤ r ∧ r < e ∧ on r = true := by
  refine ⟨R.srt.sublist ((List.take_sublist _ _).trans (List.drop_sublist _ _)), fun r => ?_⟩
  constructor
  · intro hr
    obtain ⟨j, hj⟩ := List.mem_iff_getElem?.mp hr
    have jl : j < q - p := by
      refine Nat.lt_of_not_le fun z => ?_
      rw [List.getElem?_take_eq_none z] at hj
      cases hj
    rw [List.getElem?_take_of_lt jl, List.getElem?_drop] at hj
    exact ⟨h2 _ _ (by omega) hj, h3 _ _ (by omega) hj, ((R.mem r).mp (List.mem_of_getElem? hj)).2.2⟩
  · rintro ⟨x, y, w⟩
    obtain ⟨j, hj⟩ := List.mem_iff_getElem?.mp ((R.mem r).mpr ⟨by omega, by omega, w⟩)
    have jp : p ≤ j := Nat.le_of_not_lt fun z => by
      have := h1 _ _ z hj
      omega
    have jq : j < q := Nat.lt_of_not_le fun z => by
      have := h4 _ _ z hj
      omega
    refine List.mem_iff_getElem?.mpr ⟨j - p, ?_⟩
    rw [List.getElem?_take_of_lt (by omega), List.getElem?_drop, show p + (j - p) = j by omega]
    exact hj
end Fw

namespace Fw
theorem last_from {on : Int → Bool} {s : Int} (hs : on s = true) : ∀ (n : Nat) (d : Int), d - s = (n : Int) → ∃ x, x ≤ d ∧ on x = true ∧ ∀ r, x < r → r ≤ d → on r = false
  | 0, d, h => ⟨s, by omega, hs, fun r h1 h2 => by omega⟩
  | n + 1, d, h => by
    cases e : on d with
    | true => exact ⟨d, Int.le_refl _, e, fun r h1 h2 => by omega⟩
    | false =>
      obtain ⟨x, h1, h2, h3⟩ := last_from hs n (d - 1) (by omega)
      refine ⟨x, by omega, h2, fun r a b => ?_⟩
      rcases Int.lt_or_le r d with c | c
      · exact h3 r a (by omega)
      · rw [show r = d by omega]
        exact e
theorem last_ex {on : Int → Bool} {z s : Int} (z0 : 0 < z) (per : ∀ d k, on (d + z * k) = on d) (hs : on s = true) (d : Int) : ∃ x, x ≤ d ∧ on x = true ∧ ∀ r, x < r → r ≤ d → on r = false := by
  have e := Int.mul_ediv_add_emod (d - s) z
  have m0 := Int.emod_nonneg (d - s) (show z ≠ 0 by omega)
  have h : on (s + z * ((d - s) / z)) = true := by rw [per]; exact hs
  exact last_from h ((d - s) % z).toNat d (by omega)
def Till (on1 on2 : Int → Bool) (d : Int) : Prop := ∃ r, on1 r = true ∧ r ≤ d ∧ ∀ s, on2 s = true → r < s → d < s
end Fw

namespace Fw
theorem CC_off {n : Int} {b : Nat} (hn : 0 < n) : ∀ (k : Nat) (f : Int), (∀ r, f ≤ r → r < f + (k : Int) → On n b r = false) → CC n b (f + (k : Int)) = CC n b f
  | 0, f, _ => by simp
  | k + 1, f, h => by
    have ih := CC_off hn k f fun r h1 h2 => h r h1 (by omega)
    have e := CC_succ (b := b) hn (f + (k : Int))
    rw [h (f + (k : Int)) (by omega) (by omega), if_neg Bool.false_ne_true, ih] at e
    rw [show f + ((k + 1 : Nat) : Int) = f + (k : Int) + 1 by omega, e]
    omega
theorem CC_rs {n : Int} {b : Nat} (hn : 0 < n) {e : Int} : ∀ (rs : List Int) (f : Int), f ≤ e → rs.Pairwise (· < ·) → (∀ r, r ∈ rs ↔ f ≤ r ∧ r < e ∧ On n b r = true) →
    (∀ (i : Nat) (x : Int), rs[i]? = some x → CC n b x = CC n b f + (i : Int)) ∧ CC n b e = CC n b f + (rs.length : Int)
  | [], f, fe, _, hm => by
    refine ⟨fun i x h => by simp at h, ?_⟩
    have := CC_off (b := b) hn (e - f).toNat f fun r h1 h2 => by
      cases c : On n b r with
      | false => rfl
      | true => exact absurd ((hm r).mpr ⟨h1, by omega, c⟩) (by simp)
    rw [show f + ((e - f).toNat : Int) = e by omega] at this
    simpa using this
  | r :: tl, f, fe, hs, hm => by
    obtain ⟨h1, h2, h3⟩ := (hm r).mp List.mem_cons_self
    obtain ⟨s1, s2⟩ := List.pairwise_cons.mp hs
    have c1 : CC n b r = CC n b f := by
      have := CC_off (b := b) hn (r - f).toNat f fun x x1 x2 => by
        cases c : On n b x with
        | false => rfl
        | true =>
          rcases List.mem_cons.mp ((hm x).mpr ⟨x1, by omega, c⟩) with z | z
          · omega
          · have := s1 x z
            omega
      rwa [show f + ((r - f).toNat : Int) = r by omega] at this
    have c2 := CC_succ (b := b) hn r
    rw [h3, if_pos rfl] at c2
    obtain ⟨i1, i2⟩ := CC_rs hn (e := e) tl (r + 1) (by omega) s2 fun x => by
      constructor
      · intro hx
        have a := (hm x).mp (List.mem_cons_of_mem _ hx)
        have := s1 x hx
        exact ⟨by omega, a.2.1, a.2.2⟩
      · rintro ⟨x1, x2, x3⟩
        rcases List.mem_cons.mp ((hm x).mpr ⟨by omega, x2, x3⟩) with z | z
        · omega
        · exact z
    refine ⟨fun i x hx => ?_, ?_⟩
    · cases i with
      | zero =>
        injection hx with hx
        subst hx
        rw [c1]
        simp
      | succ i =>
        have := i1 i x hx
        rw [this, c2, c1]
        omega
    · rw [i2, c2, c1, List.length_cons]
      omega
/-- the number-th R day of an S day's span -/
def Kth (n1 : Int) (b1 : Nat) (n2 : Int) (b2 : Nat) (k d : Int) : Prop := On n1 b1 d = true ∧ ∃ b e, On n2 b2 b = true ∧ On n2 b2 e = true ∧ b ≤ d ∧ d < e ∧ (∀ r, b < r → r < e → On n2 b2 r = false) ∧ (0 < k → CC n1 b1 (d + 1) - CC n1 b1 b = k) ∧ (k < 0 → CC n1 b1 e - CC n1 b1 d = -k)
theorem CC_per {n m : Int} {b : Nat} (hn : 0 < n) (hd : n ∣ m) (x y k : Int) : CC n b (x + m * k) - CC n b (y + m * k) = CC n b x - CC n b y := by
  obtain ⟨c, rfl⟩ := hd
  have h : ∀ (j : Nat) (d : Int), CC n b (d + n * (j : Int)) = CC n b d + (j : Int) * (cnt b n.toNat : Int) := by
    intro j
    induction j with
    | zero => intro d; simp
    | succ j ih =>
      intro d
      have := CC_turn (b := b) hn (d + n * (j : Int))
      rw [show d + n * ((j + 1 : Nat) : Int) = d + n * (j : Int) + n by rw [Int.natCast_add, Int.mul_add]; simp; omega, this, ih, Int.natCast_add, Int.add_mul]
      simp
      omega
  have h' : ∀ (j d : Int), CC n b (d + n * j) = CC n b d + j * (cnt b n.toNat : Int) := by
    intro j d
    rcases Int.lt_or_le j 0 with z | z
    · have := h (-j).toNat (d + n * j)
      rw [show ((-j).toNat : Int) = -j by omega, Int.mul_neg, show d + n * j + -(n * j) = d by omega] at this
      rw [this, Int.neg_mul]
      omega
    · have := h j.toNat d
      rwa [show (j.toNat : Int) = j by omega] at this
  rw [Int.mul_assoc, h', h']
  omega
theorem Kth.per {n1 n2 z : Int} {b1 b2 : Nat} {k : Int} (hn : 0 < n1) (d1 : n1 ∣ z) (d2 : n2 ∣ z) (d m : Int) (h : Kth n1 b1 n2 b2 k d) : Kth n1 b1 n2 b2 k (d + z * m) := by
  obtain ⟨h0, b, e, h1, h2, h3, h4, h5, h6, h7⟩ := h
  refine ⟨by rw [On_per d1]; exact h0, b + z * m, e + z * m, by rw [On_per d2]; exact h1, by rw [On_per d2]; exact h2, by omega, by omega, fun r r1 r2 => ?_, fun z1 => ?_, fun z1 => ?_⟩
  · have := h5 (r - z * m) (by omega) (by omega)
    rw [← On_per d2 (r - z * m) m, show r - z * m + z * m = r by omega] at this
    exact this
  · have := CC_per (b := b1) hn d1 (d + 1) b m
    rw [show d + 1 + z * m = d + z * m + 1 by omega] at this
    rw [this]
    exact h6 z1
  · rw [CC_per hn d1]
    exact h7 z1
end Fw

namespace Fw
end Fw

namespace Fw
theorem CC_mul {n : Int} {b : Nat} (hn : 0 < n) (d j : Int) : CC n b (d + n * j) = CC n b d + j * (cnt b n.toNat : Int) := by
  unfold CC
  rw [Int.add_mul_ediv_left _ _ (by omega), Int.add_mul_emod_self_left, Int.add_mul]
  omega
theorem CC_zero {n : Int} {b : Nat} : CC n b 0 = 0 := by
  unfold CC
  rw [Int.zero_ediv, Int.zero_emod]
  show 0 * _ + ((cnt b 0 : Nat) : Int) = 0
  rw [Int.zero_mul]
  rfl
theorem CC_uniq {n : Int} {b : Nat} (hn : 0 < n) {d e : Int} (h1 : On n b d = true) (h2 : On n b e = true) (h : CC n b d = CC n b e) : d = e := by
  have c1 := CC_succ (b := b) hn d
  have c2 := CC_succ (b := b) hn e
  rw [h1, if_pos rfl] at c1
  rw [h2, if_pos rfl] at c2
  rcases Int.lt_trichotomy d e with c | c | c
  · have := CC_mono (b := b) hn (show d + 1 ≤ e by omega)
    omega
  · exact c
  · have := CC_mono (b := b) hn (show e + 1 ≤ d by omega)
    omega
/-- every k-th one of them, counted from a day -/
def Evr (n : Int) (b : Nat) (k day d : Int) : Prop := On n b d = true ∧ (CC n b d - CC n b day) % k = 0
/-- the days of one round: ds[j] is the one of the number j -/
structure Dn (n : Int) (b : Nat) (ds : List Int) : Prop where
  len : (ds.length : Int) = (cnt b n.toNat : Int)
  at' : ∀ (j : Nat) (x : Int), ds[j]? = some x → On n b x = true ∧ CC n b x = (j : Int) ∧ 0 ≤ x ∧ x < n
theorem Dn.mk' {n : Int} {b : Nat} {ds : List Int} (hn : 0 < n) (srt : ds.Pairwise (· < ·)) (mem : ∀ d, d ∈ ds ↔ 0 ≤ d ∧ d < n ∧ On n b d = true) : Dn n b ds := by
  obtain ⟨h1, h2⟩ := CC_rs (b := b) hn ds 0 (Int.le_of_lt hn) srt mem
  rw [CC_zero] at h1 h2
  have t := CC_turn (b := b) hn 0
  rw [CC_zero, Int.zero_add, Int.zero_add, h2, Int.zero_add] at t
  refine ⟨t, fun j x hx => ?_⟩
  have m := (mem x).mp (List.mem_of_getElem? hx)
  have := h1 j x hx
  exact ⟨m.2.2, by omega, m.1, m.2.1⟩
/-- the day of the number P -/
def dayOf (n : Int) (ds : List Int) (P : Int) : Int := P / (ds.length : Int) * n + (ds[(P % (ds.length : Int)).toNat]?).getD 0
theorem Dn.day {n : Int} {b : Nat} {ds : List Int} (hn : 0 < n) (D : Dn n b ds) (h : 0 < ds.length) (P : Int) : On n b (dayOf n ds P) = true ∧ CC n b (dayOf n ds P) = P := by
  have m0 := Int.emod_nonneg P (show (ds.length : Int) ≠ 0 by omega)
  have m1 := Int.emod_lt_of_pos P (show (0 : Int) < (ds.length : Int) by omega)
  have hl : (P % (ds.length : Int)).toNat < ds.length := by omega
  obtain ⟨x, hx⟩ : ∃ x, ds[(P % (ds.length : Int)).toNat]? = some x := ⟨_, List.getElem?_eq_getElem hl⟩
  obtain ⟨a1, a2, a3, a4⟩ := D.at' _ _ hx
  have e : dayOf n ds P = x + n * (P / (ds.length : Int)) := by
    unfold dayOf
    rw [hx, Int.mul_comm]
    show _ + x = _
    omega
  have p := Int.mul_ediv_add_emod P (ds.length : Int)
  rw [e]
  constructor
  · unfold On at a1 ⊢
    rwa [Int.add_mul_emod_self_left]
  · rw [CC_mul hn, a2, ← D.len, Int.mul_comm]
    omega
theorem evr_iff {n : Int} {b : Nat} {ds : List Int} {k day : Int} (hn : 0 < n) (k0 : 0 < k) (D : Dn n b ds) (d : Int) :
    hit (n * k) ((List.range ds.length).map fun (i : Nat) => dayOf n ds (CC n b day % k + (i : Int) * k)) d = true ↔ Evr n b k day d := by
  have f0 := Int.emod_nonneg (CC n b day) (show k ≠ 0 by omega)
  have f1 := Int.emod_lt_of_pos (CC n b day) k0
  have fe := Int.mul_ediv_add_emod (CC n b day) k
  have nk : 0 < n * k := Int.mul_pos hn k0
  have per : ∀ d q, On n b (d + n * k * q) = On n b d := fun d q => On_per ⟨k, rfl⟩ d q
  have cmul : ∀ d q, CC n b (d + n * k * q) = CC n b d + k * (q * (ds.length : Int)) := fun d q => by
    rw [Int.mul_assoc, CC_mul hn, ← D.len, Int.mul_assoc]
  rw [hit_iff]
  constructor
  · rintro ⟨x, hx, q, rfl⟩
    obtain ⟨i, hi, rfl⟩ := List.mem_map.mp hx
    have hi' := List.mem_range.mp hi
    obtain ⟨a1, a2⟩ := D.day hn (by omega) (CC n b day % k + (i : Int) * k)
    refine ⟨by rw [per]; exact a1, ?_⟩
    rw [cmul, a2]
    have : CC n b day % k + (i : Int) * k + k * (q * (ds.length : Int)) - CC n b day = k * ((i : Int) + q * (ds.length : Int) - CC n b day / k) := by
      rw [Int.mul_sub, Int.mul_add, Int.mul_comm k (i : Int)]
      omega
    rw [this]
    exact Int.mul_emod_right _ _
  · rintro ⟨o, hd⟩
    have e := Int.mul_ediv_add_emod d (n * k)
    have m0 := Int.emod_nonneg d (show n * k ≠ 0 by omega)
    have m1 := Int.emod_lt_of_pos d nk
    have o' := per (d % (n * k)) (d / (n * k))
    have c' := cmul (d % (n * k)) (d / (n * k))
    rw [show d % (n * k) + n * k * (d / (n * k)) = d by omega] at o' c'
    rw [o] at o'
    generalize d % (n * k) = d' at *
    generalize hq : d / (n * k) = q at *
    have g0 := CC_mono (b := b) hn m0
    rw [CC_zero] at g0
    have g1 := CC_succ (b := b) hn d'
    rw [← o', if_pos rfl] at g1
    have g2 := CC_mono (b := b) hn (show d' + 1 ≤ n * k by omega)
    have g3 := cmul 0 1
    rw [Int.zero_add, Int.mul_one, CC_zero, Int.one_mul, Int.zero_add] at g3
    have hm : 0 < ds.length := by
      rcases Nat.eq_zero_or_pos ds.length with z | z
      · rw [z] at g3
        simp at g3
        omega
      · exact z
    obtain ⟨t, ht⟩ := Int.dvd_of_emod_eq_zero hd
    have hc : CC n b d' - CC n b day % k = k * (t + CC n b day / k - q * (ds.length : Int)) := by
      rw [Int.mul_sub, Int.mul_add]
      omega
    generalize t + CC n b day / k - q * (ds.length : Int) = i at hc
    have i0 : 0 ≤ i := by
      refine Int.not_lt.mp fun z => ?_
      have := Int.mul_le_mul_of_nonneg_left (show i ≤ -1 by omega) (Int.le_of_lt k0)
      omega
    have i1 : i < (ds.length : Int) := by
      refine Int.not_le.mp fun z => ?_
      have := Int.mul_le_mul_of_nonneg_left z (Int.le_of_lt k0)
      omega
    obtain ⟨a1, a2⟩ := D.day hn hm (CC n b day % k + i * k)
    have ed : dayOf n ds (CC n b day % k + i * k) = d' := CC_uniq hn a1 o'.symm (by rw [a2, Int.mul_comm]; omega)
    refine ⟨d', List.mem_map.mpr ⟨i.toNat, List.mem_range.mpr (by omega), ?_⟩, q, by omega⟩
    rw [show (i.toNat : Int) = i by omega]
    exact ed
end Fw

namespace Fw
section
variable {o1 o2 p1 p2 : Int → Bool} {t : Int}
theorem back (h : ∀ d, p1 d = o1 (d - t)) (d : Int) : o1 d = p1 (d + t) := by rw [h, show d + t - t = d by omega]
end
end Fw

namespace Fw
def Gt (T B : Int → Bool) (e : Int) (k : Nat) (d : Int) : Prop := ∃ j : Nat, j < k ∧ T (d - e * (j : Int)) = true ∧ ∀ i : Nat, i < j → B (d - e * (i : Int)) = false
def Fre (B : Int → Bool) (e : Int) (k : Nat) (d : Int) : Prop := ∀ i : Nat, i < k → B (d - e * (i : Int)) = false
def Gat (T B : Int → Bool) (e d : Int) : Prop := ∃ j : Nat, T (d - e * (j : Int)) = true ∧ ∀ i : Nat, i < j → B (d - e * (i : Int)) = false
theorem back_add (d e : Int) (k i : Nat) : d - e * (k : Int) - e * (i : Int) = d - e * ((k + i : Nat) : Int) := by
  rw [Int.natCast_add, Int.mul_add]
  omega
theorem Gt.step {T B : Int → Bool} {e : Int} {k : Nat} {d : Int} : Gt T B e (2 * k) d ↔ Gt T B e k d ∨ (Gt T B e k (d - e * (k : Int)) ∧ Fre B e k d) := by
  constructor
  · rintro ⟨j, hj, ht, hb⟩
    by_cases c : j < k
    · exact .inl ⟨j, c, ht, hb⟩
    · refine .inr ⟨⟨j - k, by omega, ?_, fun i hi => ?_⟩, fun i hi => hb i (by omega)⟩
      · rw [back_add, show k + (j - k) = j by omega]
        exact ht
      · rw [back_add]
        exact hb _ (by omega)
  · rintro (⟨j, hj, ht, hb⟩ | ⟨⟨j, hj, ht, hb⟩, hf⟩)
    · exact ⟨j, by omega, ht, hb⟩
    · refine ⟨k + j, by omega, ?_, fun i hi => ?_⟩
      · rw [← back_add]
        exact ht
      · by_cases c : i < k
        · exact hf i c
        · have := hb (i - k) (by omega)
          rw [back_add, show k + (i - k) = i by omega] at this
          exact this
theorem Fre.step {B : Int → Bool} {e : Int} {k : Nat} {d : Int} : Fre B e (2 * k) d ↔ Fre B e k d ∧ Fre B e k (d - e * (k : Int)) := by
  constructor
  · intro h
    refine ⟨fun i hi => h i (by omega), fun i hi => ?_⟩
    rw [back_add]
    exact h _ (by omega)
  · rintro ⟨h1, h2⟩ i hi
    by_cases c : i < k
    · exact h1 i c
    · have := h2 (i - k) (by omega)
      rw [back_add, show k + (i - k) = i by omega] at this
      exact this
theorem Gt.one {T B : Int → Bool} {e d : Int} : Gt T B e 1 d ↔ T d = true := by
  constructor
  · rintro ⟨j, hj, ht, _⟩
    have : j = 0 := by omega
    subst this
    simpa using ht
  · intro h
    exact ⟨0, by omega, by simpa using h, fun i hi => by omega⟩
theorem Fre.one {B : Int → Bool} {e d : Int} : Fre B e 1 d ↔ B d = false := by
  constructor
  · intro h
    have := h 0 (by omega)
    simpa using this
  · intro h i hi
    have : i = 0 := by omega
    subst this
    simpa using h
theorem Gat.iff {T B : Int → Bool} {e d : Int} {n k : Nat} (n0 : 0 < n) (hk : n ≤ k) (pT : ∀ x y : Int, (n : Int) ∣ x - y → T x = T y) (pB : ∀ x y : Int, (n : Int) ∣ x - y → B x = B y) : Gt T B e k d ↔ Gat T B e d := by
  constructor
  · rintro ⟨j, _, ht, hb⟩
    exact ⟨j, ht, hb⟩
  · rintro ⟨j, ht, hb⟩
    by_cases c : j < k
    · exact ⟨j, c, ht, hb⟩
    · have m := Nat.mod_lt j n0
      have dv : ∀ a : Nat, (n : Int) ∣ d - e * (a : Int) - (d - e * ((a % n : Nat) : Int)) := fun a => by
        have h := Nat.mod_add_div a n
        refine ⟨-(e * ((a / n : Nat) : Int)), ?_⟩
        have h2 : (a : Int) = ((a % n : Nat) : Int) + (n : Int) * ((a / n : Nat) : Int) := by
          rw [← Int.natCast_mul, ← Int.natCast_add, h]
        generalize ((a % n : Nat) : Int) = r at *
        generalize ((a / n : Nat) : Int) = q at *
        rw [h2, Int.mul_add, Int.mul_neg, Int.mul_left_comm]
        omega
      refine ⟨j % n, by omega, ?_, fun i hi => hb i (by omega)⟩
      rw [← pT _ _ (dv j)]
      exact ht
theorem lcm_self {n : Int} (h : 0 < n) : lcmI n n = n := by
  unfold lcmI
  have e : ((Int.gcd n n : Nat) : Int) = n := by
    rw [Int.gcd_self]
    omega
  rw [e, Int.ediv_self (by omega), Int.one_mul]
theorem on_dvd {n : Int} {b : Nat} {x y : Int} (h : n ∣ x - y) : On n b x = On n b y := by
  unfold On
  rw [Int.emod_eq_emod_iff_emod_sub_eq_zero.mpr (Int.emod_eq_zero_of_dvd h)]
end Fw

namespace Fw
def cG (T B : Int → Bool) (e : Int) : Nat → Int → Nat
  | 0, _ => 0
  | k + 1, d => (if T d = true then 1 else 0) + (if B d = true then 0 else cG T B e k (d - e))
def Bar (B : Int → Bool) (e : Int) (k : Nat) (d : Int) : Prop := ∃ j : Nat, j < k ∧ B (d - e * (j : Int)) = true
theorem Bar.down {B : Int → Bool} {e d : Int} {k : Nat} (h : Bar B e (k + 1) d) (hb : ¬ B d = true) : Bar B e k (d - e) := by
  obtain ⟨j, hj, ht⟩ := h
  cases j with
  | zero => exact absurd (by simpa using ht) hb
  | succ j =>
    refine ⟨j, by omega, ?_⟩
    rw [show d - e - e * (j : Int) = d - e * ((j + 1 : Nat) : Int) by rw [Int.natCast_add, Int.mul_add]; simp; omega]
    exact ht
theorem cG_stab {T B : Int → Bool} {e : Int} : ∀ {k N : Nat} {d : Int}, Bar B e k d → k ≤ N → cG T B e N d = cG T B e k d
  | 0, _, _, ⟨j, hj, _⟩, _ => absurd hj (by omega)
  | k + 1, 0, _, _, h => absurd h (by omega)
  | k + 1, N + 1, d, h, hk => by
    unfold cG
    by_cases hb : B d = true
    · rw [if_pos hb, if_pos hb]
    · rw [if_neg hb, if_neg hb, cG_stab (h.down hb) (by omega)]
theorem cG_rec {T B : Int → Bool} {e : Int} {n : Nat} (hB : ∀ d, Bar B e n d) (d : Int) : cG T B e n d = (if T d = true then 1 else 0) + (if B d = true then 0 else cG T B e n (d - e)) := by
  rw [← cG_stab (N := n + 1) (hB d) (by omega)]
  rfl
theorem cG_add {T B : Int → Bool} {e : Int} (m : Nat) : ∀ (k : Nat) (d : Int), (Fre B e k d → cG T B e (k + m) d = cG T B e k d + cG T B e m (d - e * (k : Int))) ∧ (¬ Fre B e k d → cG T B e (k + m) d = cG T B e k d)
  | 0, d => ⟨fun _ => by rw [Nat.zero_add]; unfold cG; cases m <;> simp [cG], fun h => absurd (fun i hi => absurd hi (by omega)) h⟩
  | k + 1, d => by
    have ih := cG_add (T := T) (B := B) (e := e) m k (d - e)
    have fr : Fre B e (k + 1) d ↔ B d = false ∧ Fre B e k (d - e) := by
      constructor
      · intro h
        refine ⟨by simpa using h 0 (by omega), fun i hi => ?_⟩
        have := h (i + 1) (by omega)
        rw [show d - e * ((i + 1 : Nat) : Int) = d - e - e * (i : Int) by rw [Int.natCast_add, Int.mul_add]; simp; omega] at this
        exact this
      · rintro ⟨h1, h2⟩ i hi
        cases i with
        | zero => simpa using h1
        | succ i =>
          have := h2 i (by omega)
          rw [show d - e * ((i + 1 : Nat) : Int) = d - e - e * (i : Int) by rw [Int.natCast_add, Int.mul_add]; simp; omega]
          exact this
    have ek : d - e * ((k + 1 : Nat) : Int) = d - e - e * (k : Int) := by rw [Int.natCast_add, Int.mul_add]; simp; omega
    rw [show k + 1 + m = (k + m) + 1 by omega, ek]
    constructor
    · intro h
      obtain ⟨h1, h2⟩ := fr.mp h
      have hn : ¬ B d = true := by rw [h1]; exact Bool.false_ne_true
      show _ + (if B d = true then 0 else _) = _ + (if B d = true then 0 else _) + _
      rw [if_neg hn, if_neg hn, ih.1 h2, Nat.add_assoc]
    · intro h
      show _ + (if B d = true then 0 else _) = _ + (if B d = true then 0 else _)
      by_cases hb : B d = true
      · rw [if_pos hb, if_pos hb]
      · rw [if_neg hb, if_neg hb, ih.2 fun h2 => h (fr.mpr ⟨by simpa using hb, h2⟩)]
/-- the day is told, and the number of told days up to it is odd -/
theorem cG_xor {T B : Int → Bool} {e d : Int} {k : Nat} : cG T B e (2 * k) d % 2 = 1 ↔ ((cG T B e k d % 2 = 1) ≠ (cG T B e k (d - e * (k : Int)) % 2 = 1 ∧ Fre B e k d)) := by
  have h := cG_add (T := T) (B := B) (e := e) k k d
  rw [show 2 * k = k + k by omega]
  by_cases f : Fre B e k d
  · rw [h.1 f]
    simp only [f, and_true, ne_eq, eq_iff_iff]
    omega
  · rw [h.2 f]
    simp only [f, and_false, ne_eq, eq_iff_iff, iff_false, Decidable.not_not]
theorem cG_odd {T T' B : Int → Bool} {e : Int} {n : Nat} (hB : ∀ d, Bar B e n d) (hT : ∀ d, T' d = true ↔ T d = true ∧ cG T B e n d % 2 = 1) : ∀ (k : Nat) (d : Int), Bar B e k d → cG T' B e n d = (cG T B e n d + 1) / 2
  | 0, _, ⟨j, hj, _⟩ => absurd hj (by omega)
  | k + 1, d, h => by
    have r := cG_rec (T := T) hB d
    have r' := cG_rec (T := T') hB d
    have t := hT d
    by_cases hb : B d = true
    · rw [if_pos hb] at r r'
      by_cases td : T d = true
      · rw [if_pos td] at r
        rw [if_pos (t.mpr ⟨td, by omega⟩)] at r'
        omega
      · rw [if_neg td] at r
        rw [if_neg (fun x => td (t.mp x).1)] at r'
        omega
    · have ih := cG_odd hB hT k (d - e) (h.down hb)
      rw [if_neg hb] at r r'
      by_cases td : T d = true
      · rw [if_pos td] at r
        by_cases o : cG T B e n d % 2 = 1
        · rw [if_pos (t.mpr ⟨td, o⟩)] at r'
          omega
        · rw [if_neg (fun x => o (t.mp x).2)] at r'
          omega
      · rw [if_neg td] at r
        rw [if_neg (fun x => td (t.mp x).1)] at r'
        omega
theorem cG_even {T T' B : Int → Bool} {e : Int} {n : Nat} (hB : ∀ d, Bar B e n d) (hT : ∀ d, T' d = true ↔ T d = true ∧ cG T B e n d % 2 = 0) : ∀ (k : Nat) (d : Int), Bar B e k d → cG T' B e n d = cG T B e n d / 2
  | 0, _, ⟨j, hj, _⟩ => absurd hj (by omega)
  | k + 1, d, h => by
    have r := cG_rec (T := T) hB d
    have r' := cG_rec (T := T') hB d
    have t := hT d
    by_cases hb : B d = true
    · rw [if_pos hb] at r r'
      by_cases td : T d = true
      · rw [if_pos td] at r
        rw [if_neg (fun x => by have := (t.mp x).2; omega)] at r'
        omega
      · rw [if_neg td] at r
        rw [if_neg (fun x => td (t.mp x).1)] at r'
        omega
    · have ih := cG_even hB hT k (d - e) (h.down hb)
      rw [if_neg hb] at r r'
      by_cases td : T d = true
      · rw [if_pos td] at r
        by_cases o : cG T B e n d % 2 = 0
        · rw [if_pos (t.mpr ⟨td, o⟩)] at r'
          omega
        · rw [if_neg (fun x => o (t.mp x).2)] at r'
          omega
      · rw [if_neg td] at r
        rw [if_neg (fun x => td (t.mp x).1)] at r'
        omega
/-- the first told day from a barred day on -/
theorem cG_first {T B : Int → Bool} {e : Int} {n : Nat} (hB : ∀ d, Bar B e n d) : ∀ (k : Nat) (d : Int), Bar B e k d → (cG T B e n d = 0 ↔ ∃ j : Nat, B (d - e * (j : Int)) = true ∧ ∀ i : Nat, i ≤ j → T (d - e * (i : Int)) = false)
  | 0, _, ⟨j, hj, _⟩ => absurd hj (by omega)
  | k + 1, d, h => by
    have r := cG_rec (T := T) hB d
    by_cases td : T d = true
    · rw [if_pos td] at r
      constructor
      · intro h0
        omega
      · rintro ⟨j, _, h2⟩
        have := h2 0 (by omega)
        rw [show d - e * ((0 : Nat) : Int) = d by simp, td] at this
        cases this
    · rw [if_neg td] at r
      by_cases hb : B d = true
      · rw [if_pos hb] at r
        refine ⟨fun _ => ⟨0, by simpa using hb, fun i hi => ?_⟩, fun _ => by omega⟩
        have : i = 0 := by omega
        subst this
        simpa using td
      · rw [if_neg hb, Nat.zero_add] at r
        rw [r, cG_first hB k (d - e) (h.down hb)]
        have ek : ∀ j : Nat, d - e * ((j + 1 : Nat) : Int) = d - e - e * (j : Int) := fun j => by rw [Int.natCast_add, Int.mul_add]; simp; omega
        constructor
        · rintro ⟨j, h1, h2⟩
          refine ⟨j + 1, by rw [ek]; exact h1, fun i hi => ?_⟩
          cases i with
          | zero => simpa using td
          | succ i =>
            rw [ek]
            exact h2 i (by omega)
        · rintro ⟨j, h1, h2⟩
          cases j with
          | zero => exact absurd (by simpa using h1) hb
          | succ j =>
            refine ⟨j, by rw [← ek]; exact h1, fun i hi => ?_⟩
            rw [← ek]
            exact h2 _ (by omega)
end Fw

namespace Fw
theorem cG_up {n1 n2 : Int} {b1 b2 n : Nat} (h1 : 0 < n1) (hB : ∀ d, Bar (On n2 b2) 1 n d) : ∀ (k : Nat) (d : Int), Bar (On n2 b2) 1 k d → ∃ b, On n2 b2 b = true ∧ b ≤ d ∧ (∀ r, b < r → r ≤ d → On n2 b2 r = false) ∧ CC n1 b1 (d + 1) - CC n1 b1 b = (cG (On n1 b1) (On n2 b2) 1 n d : Int)
  | 0, _, ⟨j, hj, _⟩ => absurd hj (by omega)
  | k + 1, d, h => by
    have r := cG_rec (T := On n1 b1) hB d
    have c := CC_succ (b := b1) h1 d
    by_cases hb : On n2 b2 d = true
    · rw [if_pos hb] at r
      refine ⟨d, hb, by omega, fun r h1 h2 => by omega, ?_⟩
      rw [r, c]
      split <;> simp_all <;> omega
    · rw [if_neg hb] at r
      obtain ⟨b, g1, g2, g3, g4⟩ := cG_up h1 hB k (d - 1) (h.down hb)
      rw [show d - 1 + 1 = d by omega] at g4
      refine ⟨b, g1, by omega, fun r h1 h2 => ?_, ?_⟩
      · by_cases e : r = d
        · rw [e]
          simpa using hb
        · exact g3 r h1 (by omega)
      · rw [r, c, Int.natCast_add, ← g4]
        split <;> simp_all <;> omega
theorem cG_dn {n1 n2 : Int} {b1 b2 n : Nat} {B : Int → Bool} (hb' : ∀ d, B d = On n2 b2 (d + 1)) (h1 : 0 < n1) (hB : ∀ d, Bar B (-1) n d) : ∀ (k : Nat) (d : Int), Bar B (-1) k d → ∃ e, On n2 b2 e = true ∧ d < e ∧ (∀ r, d < r → r < e → On n2 b2 r = false) ∧ CC n1 b1 e - CC n1 b1 d = (cG (On n1 b1) B (-1) n d : Int)
  | 0, _, ⟨j, hj, _⟩ => absurd hj (by omega)
  | k + 1, d, h => by
    have r := cG_rec (T := On n1 b1) hB d
    have c := CC_succ (b := b1) h1 d
    by_cases hb : B d = true
    · rw [if_pos hb] at r
      refine ⟨d + 1, by rw [← hb']; exact hb, by omega, fun r h1 h2 => by omega, ?_⟩
      rw [r, c]
      split <;> simp_all <;> omega
    · rw [if_neg hb] at r
      obtain ⟨e, g1, g2, g3, g4⟩ := cG_dn hb' h1 hB k (d - -1) (h.down hb)
      rw [show d - -1 = d + 1 by omega] at g2 g3 g4 r
      refine ⟨e, g1, by omega, fun r h1 h2 => ?_, ?_⟩
      · by_cases e : r = d + 1
        · rw [e, ← hb']
          simpa using hb
        · exact g3 r (by omega) h2
      · rw [r, Int.natCast_add, ← g4, c]
        split <;> simp_all <;> omega
end Fw

namespace Fw
theorem bar_of {B : Int → Bool} {z e : Int} (z0 : 0 < z) (per : ∀ x y : Int, z ∣ x - y → B x = B y) {x : Int} (hx : B x = true) (he : e = 1 ∨ e = -1) (d : Int) : Bar B e z.toNat d := by
  rcases he with rfl | rfl
  · have h1 := Int.emod_nonneg (d - x) (show z ≠ 0 by omega)
    have h2 := Int.emod_lt_of_pos (d - x) z0
    have h3 := Int.emod_add_mul_ediv (d - x) z
    refine ⟨((d - x) % z).toNat, by omega, ?_⟩
    rw [show d - 1 * ((((d - x) % z).toNat : Nat) : Int) = d - (d - x) % z by omega, per _ x ⟨(d - x) / z, by omega⟩]
    exact hx
  · have h1 := Int.emod_nonneg (x - d) (show z ≠ 0 by omega)
    have h2 := Int.emod_lt_of_pos (x - d) z0
    have h3 := Int.emod_add_mul_ediv (x - d) z
    refine ⟨((x - d) % z).toNat, by omega, ?_⟩
    rw [show d - -1 * ((((x - d) % z).toNat : Nat) : Int) = d + (x - d) % z by omega, per _ x ⟨-((x - d) / z), by rw [Int.mul_neg]; omega⟩]
    exact hx
theorem cG_one {T B : Int → Bool} {e : Int} {n : Nat} (hB : ∀ d, Bar B e n d) {d : Int} (td : T d = true) : cG T B e n d = 1 ↔ ∃ j : Nat, B (d - e * (j : Int)) = true ∧ ∀ i : Nat, 0 < i → i ≤ j → T (d - e * (i : Int)) = false := by
  have r := cG_rec (T := T) hB d
  have f := cG_first (T := T) hB n (d - e) (hB _)
  have ek : ∀ j : Nat, d - e * ((j + 1 : Nat) : Int) = d - e - e * (j : Int) := fun j => by rw [Int.natCast_add, Int.mul_add]; simp; omega
  rw [if_pos td] at r
  by_cases hb : B d = true
  · rw [if_pos hb] at r
    exact ⟨fun _ => ⟨0, by simpa using hb, fun i h1 h2 => by omega⟩, fun _ => by omega⟩
  · rw [if_neg hb] at r
    constructor
    · intro h
      obtain ⟨j, h1, h2⟩ := f.mp (by omega)
      refine ⟨j + 1, by rw [ek]; exact h1, fun i i0 hi => ?_⟩
      have := h2 (i - 1) (by omega)
      rw [← ek, show i - 1 + 1 = i by omega] at this
      exact this
    · rintro ⟨j, h1, h2⟩
      cases j with
      | zero => exact absurd (by simpa using h1) hb
      | succ j =>
        have := f.mpr ⟨j, by rw [← ek]; exact h1, fun i hi => by rw [← ek]; exact h2 _ (by omega) (by omega)⟩
        omega
theorem kth_cG {n1 n2 k d : Int} {b1 b2 n : Nat} {B : Int → Bool} (hb' : ∀ d, B d = On n2 b2 (d + 1)) (h1 : 0 < n1) (hU : ∀ d, Bar (On n2 b2) 1 n d) (hD : ∀ d, Bar B (-1) n d) (k0 : k ≠ 0) :
    Kth n1 b1 n2 b2 k d ↔ On n1 b1 d = true ∧ (if 0 < k then cG (On n1 b1) (On n2 b2) 1 n d else cG (On n1 b1) B (-1) n d) = k.natAbs := by
  obtain ⟨b, p1, p2, p3, p4⟩ := cG_up (b1 := b1) h1 hU n d (hU d)
  obtain ⟨e, q1, q2, q3, q4⟩ := cG_dn (b1 := b1) hb' h1 hD n d (hD d)
  constructor
  · rintro ⟨od, b', e', g1, g2, g3, g4, g5, g6, g7⟩
    have eb : b = b' := by
      rcases Int.lt_trichotomy b b' with h | h | h
      · rw [p3 b' h g3] at g1
        cases g1
      · exact h
      · rw [g5 b h (by omega)] at p1
        cases p1
    have ee : e = e' := by
      rcases Int.lt_trichotomy e e' with h | h | h
      · rw [g5 e (by omega) h] at q1
        cases q1
      · exact h
      · rw [q3 e' (by omega) h] at g2
        cases g2
    subst eb
    subst ee
    refine ⟨od, ?_⟩
    split
    · next h =>
      have := g6 h
      omega
    · next h =>
      have := g7 (by omega)
      omega
  · rintro ⟨od, h⟩
    refine ⟨od, b, e, p1, q1, p2, q2, fun r r1 r2 => ?_, fun h0 => ?_, fun h0 => ?_⟩
    · by_cases c : r ≤ d
      · exact p3 r r1 c
      · exact q3 r (by omega) r2
    · rw [if_pos h0] at h
      omega
    · rw [if_neg (by omega)] at h
      omega
end Fw

namespace Fw
structure Nx (on : Int → Bool) (r r' : Int) : Prop where
  o1 : on r = true
  o2 : on r' = true
  lt : r < r'
  no : ∀ x, r < x → x < r' → on x = false
theorem Nx.per {on : Int → Bool} {z r r' : Int} (per : ∀ d k, on (d + z * k) = on d) (h : Nx on r r') (k : Int) : Nx on (r + z * k) (r' + z * k) := by
  refine ⟨by rw [per]; exact h.o1, by rw [per]; exact h.o2, by have := h.lt; omega, fun x h1 h2 => ?_⟩
  have := h.no (x + z * -k) (by rw [Int.mul_neg]; omega) (by rw [Int.mul_neg]; omega)
  rwa [per] at this
theorem Nx.ge {on : Int → Bool} {r r' x : Int} (h : Nx on r r') (hx : on x = true) (l : r < x) : r' ≤ x := by
  by_cases c : r' ≤ x
  · exact c
  · have := h.no x l (by omega)
    rw [hx] at this; cases this
theorem Nx.le {on : Int → Bool} {r r' x : Int} (h : Nx on r r') (hx : on x = true) (l : x < r') : x ≤ r := by
  by_cases c : x ≤ r
  · exact c
  · have := h.no x (by omega) l
    rw [hx] at this; cases this
theorem Nx.un {on : Int → Bool} {r r' u u' s : Int} (h : Nx on r r') (g : Nx on u u') (h1 : r ≤ s) (h2 : s < r') (g1 : u ≤ s) (g2 : s < u') : r = u ∧ r' = u' := by
  have a1 := h.le g.o1 (by omega)
  have a2 := g.le h.o1 (by omega)
  have b1 := h.ge g.o2 (by omega)
  have b2 := g.ge h.o2 (by omega)
  omega
theorem next_gt {on : Int → Bool} {z s : Int} (z0 : 0 < z) (per : ∀ d k, on (d + z * k) = on d) (hs : on s = true) (d : Int) : ∃ y, d < y ∧ on y = true ∧ ∀ r, d < r → r < y → on r = false := by
  obtain ⟨x, h1, h2, h3⟩ := last_ex (on := fun t => on (-t)) (z := z) (s := -s) z0 (fun t k => by show on (-(t + z * k)) = on (-t); rw [← per (-t) (-k), Int.mul_neg]; congr 1; omega) (by show on (- -s) = true; rw [Int.neg_neg]; exact hs) (-(d + 1))
  refine ⟨-x, by omega, h2, fun r a b => ?_⟩
  have := h3 (-r) (by omega) (by omega)
  rwa [Int.neg_neg] at this
theorem nx_ex {on : Int → Bool} {z s : Int} (z0 : 0 < z) (per : ∀ d k, on (d + z * k) = on d) (hs : on s = true) (d : Int) : ∃ r r', Nx on r r' ∧ r ≤ d ∧ d < r' := by
  obtain ⟨r, a1, a2, a3⟩ := last_ex z0 per hs d
  obtain ⟨r', b1, b2, b3⟩ := next_gt z0 per hs d
  refine ⟨r, r', ⟨a2, b2, by omega, fun x h1 h2 => ?_⟩, a1, b1⟩
  rcases Int.lt_or_le d x with c | c
  · exact b3 x c h2
  · exact a3 x h1 c
/-- the first day nearer to the R day behind, for each R day of a round -/
def behindOf (z : Int) (ds : List Int) : List Int := ds.drop 1 ++ (ds.take 1).map (· + z)
def mids (z : Int) (ds : List Int) : List Int := List.zipWith (fun x y => (x + y) / 2 + 1) ds (behindOf z ds)
theorem behind_len (z : Int) (ds : List Int) : (behindOf z ds).length = ds.length := by
  unfold behindOf
  rw [List.length_append, List.length_drop, List.length_map, List.length_take]
  omega
theorem behind_nx {on : Int → Bool} {z : Int} {ds : List Int} (z0 : 0 < z) (per : ∀ d k, on (d + z * k) = on d) (srt : ds.Pairwise (· < ·)) (mem : ∀ d, d ∈ ds ↔ 0 ≤ d ∧ d < z ∧ on d = true) {i : Nat} {x y : Int}
    (hx : ds[i]? = some x) (hy : (behindOf z ds)[i]? = some y) : Nx on x y := by
  have il : i < ds.length := (List.getElem?_eq_some_iff.mp hx).1
  obtain ⟨f, hf⟩ : ∃ f, ds[0]? = some f := ⟨_, List.getElem?_eq_getElem (by omega)⟩
  obtain ⟨g, hg⟩ : ∃ g, ds[ds.length - 1]? = some g := ⟨_, List.getElem?_eq_getElem (by omega)⟩
  obtain ⟨R, _, _⟩ := Rw.mk' z0 per srt mem hf hg
  have e1 : ([g - z] ++ ds ++ [f + z])[i + 1]? = some x := by
    rw [List.append_assoc, List.singleton_append, List.getElem?_cons_succ, List.getElem?_append_left il]
    exact hx
  have ht : ds.take 1 = [f] := by
    cases ds with
    | nil => simp at hf
    | cons a r =>
      have : a = f := by simpa using hf
      rw [this]; rfl
  have hd : ds = f :: ds.drop 1 := by
    cases ds with
    | nil => simp at hf
    | cons a r =>
      have : a = f := by simpa using hf
      rw [this]; rfl
  have e2 : ([g - z] ++ ds ++ [f + z])[i + 1 + 1]? = some y := by
    rw [List.append_assoc, List.singleton_append, List.getElem?_cons_succ]
    have : ds ++ [f + z] = f :: (ds.drop 1 ++ [f + z]) := by
      conv => lhs; rw [hd]
      rfl
    rw [this, List.getElem?_cons_succ]
    unfold behindOf at hy
    rw [ht] at hy
    exact hy
  exact ⟨R.all _ (List.mem_of_getElem? e1), R.all _ (List.mem_of_getElem? e2), pw_get R.srt (Nat.lt_succ_self _) e1 e2, fun r a b => R.gap e1 e2 a b⟩
theorem mids_iff {on : Int → Bool} {z : Int} {ds : List Int} (z0 : 0 < z) (per : ∀ d k, on (d + z * k) = on d) (srt : ds.Pairwise (· < ·)) (mem : ∀ d, d ∈ ds ↔ 0 ≤ d ∧ d < z ∧ on d = true) (d : Int) :
    hit z (mids z ds) d = true ↔ ∃ r r', Nx on r r' ∧ d = (r + r') / 2 + 1 := by
  rw [hit_iff]
  have bl := behind_len z ds
  constructor
  · rintro ⟨m, hm, k, rfl⟩
    obtain ⟨i, hi⟩ := List.mem_iff_getElem?.mp hm
    unfold mids at hi
    rw [List.getElem?_zipWith'] at hi
    cases ex : ds[i]? with
    | none => rw [ex] at hi; simp at hi
    | some x =>
      cases ey : (behindOf z ds)[i]? with
      | none => rw [ex, ey] at hi; simp at hi
      | some y =>
        rw [ex, ey] at hi
        have hi' : (x + y) / 2 + 1 = m := by simpa using hi
        have N := (behind_nx z0 per srt mem ex ey).per per k
        exact ⟨_, _, N, by omega⟩
  · rintro ⟨r, r', N, rfl⟩
    have e := Int.mul_ediv_add_emod r z
    have m0 := Int.emod_nonneg r (show z ≠ 0 by omega)
    have m1 := Int.emod_lt_of_pos r z0
    have N0 := N.per per (-(r / z))
    rw [Int.mul_neg, show r + -(z * (r / z)) = r % z by omega] at N0
    obtain ⟨i, hi⟩ := List.mem_iff_getElem?.mp ((mem (r % z)).mpr ⟨m0, m1, N0.o1⟩)
    have il : i < ds.length := (List.getElem?_eq_some_iff.mp hi).1
    obtain ⟨y, hy⟩ : ∃ y, (behindOf z ds)[i]? = some y := ⟨_, List.getElem?_eq_getElem (by omega)⟩
    have N1 := behind_nx z0 per srt mem hi hy
    obtain ⟨_, ey⟩ := N0.un N1 (Int.le_refl _) N0.lt (Int.le_refl _) N1.lt
    refine ⟨(r % z + y) / 2 + 1, ?_, r / z, by omega⟩
    refine List.mem_iff_getElem?.mpr ⟨i, ?_⟩
    unfold mids
    rw [List.getElem?_zipWith', hi, hy]
    rfl
def Early (on : Int → Bool) (d : Int) : Prop := ∃ r r', Nx on r r' ∧ r ≤ d ∧ d < r' ∧ d - r ≤ r' - d
theorem early_iff {on on2 : Int → Bool} {z d : Int} (z0 : 0 < z) (per : ∀ d k, on (d + z * k) = on d) (hm : ∀ d, on2 d = true ↔ ∃ r r', Nx on r r' ∧ d = (r + r') / 2 + 1) :
    (∃ r, on r = true ∧ r ≤ d ∧ ∀ s, on2 s = true → r < s → d < s) ↔ Early on d := by
  constructor
  · rintro ⟨r, h1, h2, h3⟩
    obtain ⟨x, y, N, a, b⟩ := nx_ex z0 per h1 d
    refine ⟨x, y, N, a, b, ?_⟩
    have rx := N.le h1 (by omega)
    have lt := N.lt
    have := h3 _ ((hm _).mpr ⟨x, y, N, rfl⟩) (by omega)
    omega
  · rintro ⟨r, r', N, h1, h2, h3⟩
    refine ⟨r, N.o1, h1, fun s hs rs => ?_⟩
    obtain ⟨u, u', M, e⟩ := (hm s).mp hs
    by_cases c : d < s
    · exact c
    · have lt := N.lt
      have lt' := M.lt
      by_cases c2 : u < r
      · have := M.ge N.o1 c2
        omega
      · obtain ⟨rfl, rfl⟩ := N.un M (s := s - 1) (by omega) (by omega) (by have := N.le M.o1 (by omega); omega) (by omega)
        omega
theorem near_iff {on on2 : Int → Bool} {z d : Int} (z0 : 0 < z) (per : ∀ d k, on (d + z * k) = on d) :
    ((on d = true ∧ ∃ s, (on2 s = true ∧ Early on s) ∧ d ≤ s ∧ ∀ r, d < r → r ≤ s → on r = false) ∨ (on d = true ∧ ∃ s, (on2 s = true ∧ ¬ Early on s) ∧ s ≤ d ∧ ∀ r, s ≤ r → r < d → on r = false)) ↔
      (on d = true ∧ ∃ s, on2 s = true ∧ ∀ r, on r = true → (d < r → (d - s).natAbs ≤ (r - s).natAbs) ∧ (r < d → (d - s).natAbs < (r - s).natAbs)) := by
  constructor
  · rintro (⟨hd, s, ⟨hs, r, r', N, h1, h2, h3⟩, ds, no⟩ | ⟨hd, s, ⟨hs, ne⟩, sd, no⟩)
    · have e1 := N.le hd (by omega)
      have e : r = d := by
        by_cases c : r = d
        · exact c
        · have := no r (by omega) h1
          rw [N.o1] at this; cases this
      subst e
      refine ⟨hd, s, hs, fun x hx => ⟨fun l => ?_, fun l => by omega⟩⟩
      have := N.ge hx l
      omega
    · refine ⟨hd, s, hs, fun x hx => ⟨fun l => by omega, fun l => ?_⟩⟩
      by_cases c : s = d
      · omega
      obtain ⟨r, r', N, h1, h2⟩ := nx_ex z0 per hd s
      have g1 := N.ge hd (by omega)
      have g2 : r' = d := by
        by_cases c : r' = d
        · exact c
        · have := no r' (by omega) (by omega)
          rw [N.o2] at this; cases this
      subst g2
      have := N.le hx l
      by_cases c2 : s - r ≤ r' - s
      · exact absurd ⟨r, r', N, h1, h2, c2⟩ ne
      · omega
  · rintro ⟨hd, s, hs, all⟩
    rcases Int.lt_or_le s d with c | c
    · refine .inr ⟨hd, s, ⟨hs, ?_⟩, by omega, fun r h1 h2 => ?_⟩
      · rintro ⟨r, r', N, h1, h2, h3⟩
        have g1 := N.ge hd (by omega)
        have := (all r N.o1).2 (by omega)
        have := (all r' N.o2)
        by_cases c2 : r' = d
        · omega
        · have := this.2 (by omega)
          omega
      · cases e : on r with
        | false => rfl
        | true =>
          have := (all r e).2 h2
          omega
    · obtain ⟨r, r', N, h1, h2⟩ := nx_ex z0 per hd s
      refine .inl ⟨hd, s, ⟨hs, r, r', N, h1, h2, ?_⟩, c, fun x a b => ?_⟩
      · have g1 := N.le hd (by omega)
        have g2 : r = d := by
          by_cases c2 : r = d
          · exact c2
          · have := (all r N.o1).1 (by omega)
            omega
        subst g2
        have := (all r' N.o2).1 (by omega)
        omega
      · cases e : on x with
        | false => rfl
        | true =>
          have := (all x e).1 a
          omega
end Fw

namespace Fw
open PySem L2 PyProof.Rows
theorem mulb {x k X Y : Int} (h1 : 1 ≤ x) (h2 : x ≤ X) (h3 : 1 ≤ k) (h4 : k ≤ Y) : 1 ≤ x * k ∧ x * k ≤ X * Y := by
  have a := Int.mul_le_mul h1 h3 (by omega) (by omega)
  have b := Int.mul_le_mul h2 h4 (by omega) (by omega)
  omega
def top (i : Nat) : Stmt := PySem.Challenge.pw_feastwheel_k63_rules_as_wheels.main.body.getD i (.Pass ⟨0, 0, 0, 0⟩)
abbrev s_refuse_below_one : Stmt := top 6
abbrev s_divisor : Stmt := top 7
abbrev s_equation : Stmt := top 8
abbrev s_common : Stmt := top 9
abbrev s_refuse_too_long : Stmt := top 13
abbrev s_round_by : Stmt := top 14
abbrev s_days_in : Stmt := top 15
abbrev s_on : Stmt := top 16
abbrev s_full_bits : Stmt := top 18
abbrev s_bits_by : Stmt := top 19
abbrev s_stretched : Stmt := top 20
abbrev s_common_size : Stmt := top 21
abbrev s_both : Stmt := top 22
abbrev s_either : Stmt := top 23
abbrev s_unlike : Stmt := top 24
abbrev s_without : Stmt := top 25
abbrev s_other_days : Stmt := top 26
abbrev s_later : Stmt := top 27
abbrev s_ones_in : Stmt := top 29
abbrev s_days_ahead : Stmt := top 30
abbrev s_how_many : Stmt := top 31
abbrev s_gathered : Stmt := top 33
abbrev s_upon : Stmt := top 34
abbrev s_until : Stmt := top 35
abbrev s_till : Stmt := top 36
abbrev s_nearer_ahead : Stmt := top 37
abbrev s_near : Stmt := top 38
abbrev s_kth : Stmt := top 39
abbrev s_every : Stmt := top 40
abbrev s_Rule___init__ : Stmt := inClass (top 42) 0
abbrev s_Rule_on : Stmt := inClass (top 42) 1
abbrev s_Rule_size : Stmt := inClass (top 42) 2
abbrev s_Rule_turn : Stmt := inClass (top 42) 3
abbrev s_All___init__ : Stmt := inClass (top 43) 0
abbrev s_No___init__ : Stmt := inClass (top 44) 0
abbrev s_each_text : Stmt := top 45
abbrev s_Each___init__ : Stmt := inClass (top 46) 0
abbrev s_Either___init__ : Stmt := inClass (top 47) 0
abbrev s_Upon___init__ : Stmt := inClass (top 48) 0
abbrev s_Until___init__ : Stmt := inClass (top 49) 0
abbrev s_Near___init__ : Stmt := inClass (top 50) 0
abbrev s_Till___init__ : Stmt := inClass (top 51) 0
abbrev s_Kth___init__ : Stmt := inClass (top 52) 0
abbrev s_Every___init__ : Stmt := inClass (top 53) 0
abbrev s_law_cell_at : Stmt := top 55
abbrev s_law_part : Stmt := top 56
abbrev s_law_parts : Stmt := top 57
abbrev s_law_right : Stmt := top 58
abbrev s_law : Stmt := top 59
def spCell (K : PySem.W.Frag) : Sp := fun vs H Q _ => ∃ (a : Addr) (ns : List Int) (k : Int), vs = [.ref a, .int k] ∧ SqL K H a (ns.map V.int) ∧ 0 ≤ k ∧ ns.length ≤ 63 ∧ Q (.int (ns.getD k.toNat 0)) H
def spWhole : Sp := fun vs H Q _ => ∃ i : Int, vs = [.int i] ∧ Q (.bl true) H
theorem rd_cell {K : PySem.W.Frag} {a : Addr} {ns : List Int} {k : Int} {H : Hp} {Q : VK} {E : XK} (hS : SqL K H a (ns.map V.int)) (hl : ns.length ≤ 63) (hk : 0 ≤ k) (h : Q (.int (ns.getD k.toNat 0)) H) : spCell K ([.ref a, .int k] ++ []) H Q E := ⟨a, ns, k, rfl, hS, hk, hl, h⟩
theorem rd_whole {i : Int} {H : Hp} {Q : VK} {E : XK} (h : Q (.bl true) H) : spWhole ([.int i] ++ []) H Q E := ⟨i, rfl, h⟩
theorem at_ints {ns : List Int} {k : Int} (h0 : 0 ≤ k) (h : k < (ns.length : Int)) : atI (ns.map V.int) k = some (.int (ns.getD k.toNat 0)) := by
  have hk : k.toNat < ns.length := by omega
  have ek : k = ((k.toNat : Nat) : Int) := by omega
  have q : atI (ns.map V.int) ((k.toNat : Nat) : Int) = some (.int ns[k.toNat]) := atI_nat (by rw [List.getElem?_map, List.getElem?_eq_getElem hk] <;> rfl)
  rw [← ek] at q
  rw [q]
  simp [List.getD, hk]
theorem p40 : (10 : Int) ^ (40 : Int).toNat = 10000000000000000000000000000000000000000 := by decide
theorem p39 : (10 : Int) ^ (39 : Int).toNat = 1000000000000000000000000000000000000000 := by decide
theorem bt_of {x : Int} (h1 : -1000000000000000000000000000000000000000000000000000000000000 ≤ x) (h2 : x ≤ 1000000000000000000000000000000000000000000000000000000000000) : Bt 200 x := by
  unfold Bt
  have : (2 : Nat) ^ 200 = 1606938044258990275541962092341162602522202993782792835301376 := by decide
  omega
theorem two' {a b : V} : ([a, b] : List V).length ≤ sizeLine := by show 2 ≤ sizeLine; decide
theorem at0 {x y : V} : atI [x, y] 0 = some x := rfl
theorem at1 {x y : V} : atI [x, y] 1 = some y := rfl
local macro_rules | `(tactic| walk_at "rdc") => `(tactic| (repeat (first | walk_at "rd1" | ((with_reducible refine' Fw.rd_cell ?hc1 ?hc2 ?hc3 ?_); (case hc1 => assumption); (case hc2 => assumption); (case hc3 => decide)) | with_reducible refine Fw.rd_whole ?_)))
local macro_rules | `(tactic| walk_at "rdy") => `(tactic| (repeat (first | walk_at "rd1" | ((with_reducible refine' Fw.rd_cell ?hc1 ?hc2 ?hc3 ?_); (case hc1 => assumption); (case hc2 => assumption); (case hc3 => decide)) | with_reducible refine Fw.rd_whole ?_ | with_reducible refine L2.rd_callE ?_ | with_reducible refine L2.rd_raise ?_ | with_reducible refine L2.rd_try ?_ | with_reducible refine L2.rd_xget ?_ | with_reducible refine L2.rd_ifE ?_)))
def spRefuse : Sp := fun vs H Q _ => ∃ n : Int, vs = [.int n] ∧ 1 ≤ n ∧ Q .non H
def spEq : Sp := fun vs H Q _ => ∃ a b : Int, vs = [.int a, .int b] ∧ Bt 500 a ∧ Bt 500 b ∧ ∀ (p : Addr) (u v g : Int) (H' : Hp), Same H H' → H' p = some (.tup [.int u, .int v, .int g]) → Eqn a b u v g → Q (.ref p) H'
def spDivisor : Sp := fun vs H Q _ => ∃ a b : Int, vs = [.int a, .int b] ∧ Bt 500 a ∧ Bt 500 b ∧ ∀ H', Same H H' → Q (.int (Int.gcd a b : Int)) H'
def spCommon : Sp := fun vs H Q _ => ∃ a b : Int, vs = [.int a, .int b] ∧ 0 < a ∧ 0 < b ∧ Bt 500 a ∧ Bt 500 b ∧ ∀ H', Same H H' → Q (.int (lcmI a b)) H'
theorem at30 {x y z : V} : atI [x, y, z] 0 = some x := rfl
theorem at31 {x y z : V} : atI [x, y, z] 1 = some y := rfl
theorem at32 {x y z : V} : atI [x, y, z] 2 = some z := rfl
theorem three {a b c : V} : ([a, b, c] : List V).length ≤ sizeLine := by show 3 ≤ sizeLine; decide
theorem two {a b : V} : ([a, b] : List V).length ≤ sizeLine := by show 2 ≤ sizeLine; decide
theorem bt_le {k m : Nat} {x y : Int} (h : Bt k y) (l : x.natAbs ≤ 4 * y.natAbs + 4) (hk : k + 4 ≤ m) : Bt m x := by
  unfold Bt at *
  have p : 2 ^ (k + 4) ≤ 2 ^ m := Nat.pow_le_pow_right (by decide) hk
  have e : 2 ^ (k + 4) = 2 ^ k * 16 := by rw [Nat.pow_add]
  omega
theorem bt_le2 {k m : Nat} {x y z : Int} (h : Bt k y) (h' : Bt k z) (l : x.natAbs ≤ y.natAbs + z.natAbs + 4) (hk : k + 4 ≤ m) : Bt m x := by
  unfold Bt at *
  have p : 2 ^ (k + 4) ≤ 2 ^ m := Nat.pow_le_pow_right (by decide) hk
  have e : 2 ^ (k + 4) = 2 ^ k * 16 := by rw [Nat.pow_add]
  omega
theorem bt_small {k : Nat} {x : Int} (h0 : 0 ≤ x) (h1 : x < 18446744073709551616) (hk : 64 ≤ k) : Bt k x := Bt.mono (k := 64) (by unfold Bt; omega) hk
def spFull : Sp := fun vs H Q _ => ∃ n : Int, vs = [.int n] ∧ 0 ≤ n ∧ n ≤ 1000000 ∧ Q (.int ((2 ^ n.toNat - 1 : Nat) : Int)) H
def spOn (K : PySem.W.Frag) : Sp := fun vs H Q _ => ∃ (a : Addr) (n d : Int) (b : Nat), vs = [.ref a, .int d] ∧ SqT K H a [.int n, .int (b : Int)] ∧ 0 < n ∧ Q (.bl (On n b d)) H
theorem bt_nat {b n : Nat} (h : b < 2 ^ n) : Bt n (b : Int) := by unfold Bt; rw [Int.natAbs_natCast]; exact h
theorem on_dec (b k : Nat) : decide (V.int (((b : Nat) : Int) / 2 ^ k % 2) = V.int 1) = b.testBit k := by
  rw [← on_eq, Bool.eq_iff_iff]
  simp
theorem bt1 : Bt 1 1 := by unfold Bt; decide
theorem eq2 {n : Int} {b c : Nat} (h : b = c) : eqVs [V.int n, V.int (b : Int)] [V.int n, V.int (c : Int)] = true := by
  subst h
  show ((n == n) && (((b : Int) == (b : Int)) && true)) = true
  simp
def spTooLong : Sp := fun vs H Q _ => ∃ n : Int, vs = [.int n] ∧ n ≤ 150000 ∧ Q .non H
def spBitsByL (K : PySem.W.Frag) : Sp := fun vs H Q _ => ∃ (a : Addr) (n z : Int) (b : Nat), vs = [.ref a, .int z] ∧ SqT K H a [.int n, .int (b : Int)] ∧ 0 < n ∧ n ≤ 300000 ∧ b < 2 ^ n.toNat ∧ 0 < z ∧ z ≤ 150000 ∧
  ∀ c : Nat, Strt n.toNat b z.toNat c → Q (.int (c : Int)) H
/-- bits of two rounds by a common size -/
structure Bo (f : Bool → Bool → Bool) (n1 : Int) (b1 : Nat) (n2 : Int) (b2 : Nat) (z : Int) (c : Nat) : Prop where
  lt : c < 2 ^ z.toNat
  bit : ∀ i, i < z.toNat → c.testBit i = f (b1.testBit (i % n1.toNat)) (b2.testBit (i % n2.toNat))
theorem Bo.on {f : Bool → Bool → Bool} {n1 n2 z : Int} {b1 b2 c : Nat} (B : Bo f n1 b1 n2 b2 z c) (h1 : 0 < n1) (h2 : 0 < n2) (hz : 0 < z) (d1 : n1 ∣ z) (d2 : n2 ∣ z) (d : Int) : On z c d = f (On n1 b1 d) (On n2 b2 d) := by
  have k1 := Int.emod_nonneg d (show z ≠ 0 by omega)
  have k2 := Int.emod_lt_of_pos d hz
  have m : ∀ n : Int, 0 < n → n ∣ z → (d % z).toNat % n.toNat = (d % n).toNat := fun n hn hd => by
    have e : (d % z) % n = d % n := Int.emod_emod_of_dvd d hd
    have h3 := Int.emod_nonneg d (show n ≠ 0 by omega)
    have k : (((d % z).toNat % n.toNat : Nat) : Int) = d % z % n := by
      rw [Int.natCast_emod]
      have a1 : ((d % z).toNat : Int) = d % z := by omega
      have a2 : (n.toNat : Int) = n := by omega
      rw [a1, a2]
    rw [e] at k
    omega
  unfold On
  rw [B.bit _ (by omega), m n1 h1 d1, m n2 h2 d2]
theorem Bo.mk' {f : Bool → Bool → Bool} {g : Nat → Nat → Nat} (hg : ∀ x y i, (g x y).testBit i = f (x.testBit i) (y.testBit i)) (hl : ∀ x y k, x < 2 ^ k → y < 2 ^ k → g x y < 2 ^ k) {n1 n2 z : Int} {b1 b2 c1 c2 : Nat}
    (S1 : Strt n1.toNat b1 z.toNat c1) (S2 : Strt n2.toNat b2 z.toNat c2) : Bo f n1 b1 n2 b2 z (g c1 c2) :=
  ⟨hl _ _ _ S1.lt S2.lt, fun i hi => by rw [hg, S1.bit i hi, S2.bit i hi]⟩
def spCS (K : PySem.W.Frag) : Sp := fun vs H Q _ => ∃ (a1 a2 : Addr) (n1 n2 : Int) (b1 b2 : Nat), vs = [.ref a1, .ref a2] ∧ SqT K H a1 [.int n1, .int (b1 : Int)] ∧ SqT K H a2 [.int n2, .int (b2 : Int)] ∧ 0 < n1 ∧ 0 < n2 ∧ n1 ≤ 150000 ∧ n2 ≤ 150000 ∧ lcmI n1 n2 ≤ 150000 ∧
  ∀ H', Same H H' → Q (.int (lcmI n1 n2)) H'
def spBo (K : PySem.W.Frag) (f : Bool → Bool → Bool) : Sp := fun vs H Q _ => ∃ (a1 a2 : Addr) (n1 n2 : Int) (b1 b2 : Nat), vs = [.ref a1, .ref a2] ∧ SqT K H a1 [.int n1, .int (b1 : Int)] ∧ SqT K H a2 [.int n2, .int (b2 : Int)] ∧ 0 < n1 ∧ 0 < n2 ∧ n1 ≤ 150000 ∧ n2 ≤ 150000 ∧ lcmI n1 n2 ≤ 150000 ∧ b1 < 2 ^ n1.toNat ∧ b2 < 2 ^ n2.toNat ∧
  ∀ (p : Addr) (c : Nat) (H' : Hp), Same H H' → H' p = some (.tup [.int (lcmI n1 n2), .int (c : Int)]) → Bo f n1 b1 n2 b2 (lcmI n1 n2) c → Q (.ref p) H'
def ENum (cN : Addr) (H : Hp) (E : XK) : Prop := ∀ H', Same H H' → E (.ref cN) none H'
theorem ENum.later {cN : Addr} {H H' : Hp} {E : XK} (h : ENum cN H E) (s : Same H H') : ENum cN H' E := fun H2 s2 => h H2 (s.trans s2)
theorem ENum.here {cN : Addr} {H : Hp} {E : XK} (h : ENum cN H E) : E (.ref cN) none H := h H (Same.refl H)
/-- two rounds at a1, a2 -/
structure Two (K : PySem.W.Frag) (H : Hp) (a1 a2 : Addr) (n1 n2 : Int) (b1 b2 : Nat) : Prop where
  s1 : SqT K H a1 [.int n1, .int (b1 : Int)]
  s2 : SqT K H a2 [.int n2, .int (b2 : Int)]
  p1 : 0 < n1
  p2 : 0 < n2
  l1 : n1 ≤ 150000
  l2 : n2 ≤ 150000
  k1 : b1 < 2 ^ n1.toNat
  k2 : b2 < 2 ^ n2.toNat
theorem Two.later {K : PySem.W.Frag} {H H' : Hp} {a1 a2 : Addr} {n1 n2 : Int} {b1 b2 : Nat} (t : Two K H a1 a2 n1 n2 b1 b2) (s : Same H H') : Two K H' a1 a2 n1 n2 b1 b2 := ⟨s.tup t.s1, s.tup t.s2, t.p1, t.p2, t.l1, t.l2, t.k1, t.k2⟩
def pcsV (b k : Nat) : List V := (List.range k).map fun j => V.int ((pc b j : Nat) : Int)
theorem pcsV_len (b k : Nat) : (pcsV b k).length = k := by unfold pcsV; simp
theorem pcsV_at {b k j : Nat} (h : j < k) : (pcsV b k)[j]? = some (V.int ((pc b j : Nat) : Int)) := by
  unfold pcsV
  rw [List.getElem?_map, List.getElem?_range h]
  rfl
theorem pcsV_zero (k : Nat) : (List.replicate k [V.int 0]).flatten = pcsV 0 k := by
  unfold pcsV
  have : (fun j => V.int ((pc 0 j : Nat) : Int)) = fun _ => V.int 0 := by
    funext j
    unfold pc
    simp
  rw [this, List.map_const', List.length_range]
  induction k with
  | zero => rfl
  | succ k ih => rw [List.replicate_succ, List.flatten_cons, ih, List.replicate_succ]; rfl
theorem pcsV_set {b k p : Nat} (h : p / 256 < k) : (pcsV b k).set (p / 256) (V.int ((pc b (p / 256) ||| 2 ^ (p % 256) : Nat) : Int)) = pcsV (b ||| 2 ^ p) k := by
  refine List.ext_getElem? fun j => ?_
  rw [List.getElem?_set]
  by_cases hj : j < k
  · rw [pcsV_at hj]
    by_cases c : p / 256 = j
    · rw [if_pos c, if_pos (by rw [pcsV_len]; omega)]
      subst c
      rw [pcsV_at hj, pc_or_at]
    · rw [if_neg c, pcsV_at hj, pc_or_ne (Ne.symm c)]
  · have e : ∀ b, (pcsV b k)[j]? = none := fun b => List.getElem?_eq_none (by rw [pcsV_len]; omega)
    rw [if_neg (by omega), e, e]
def spRoundBy (K : PySem.W.Frag) : Sp := fun vs H Q _ => ∃ (a : Addr) (ds : List Int) (n : Int), vs = [.int n, .ref a] ∧ SqL K H a (ds.map V.int) ∧ 0 < n ∧ n ≤ 150000 ∧
  ∀ (p : Addr) (b : Nat) (H' : Hp), Same H H' → H' p = some (.tup [.int n, .int (b : Int)]) → RB n ds b → Q (.ref p) H'
theorem rb_bits {n : Int} {b : Nat} (hn : 0 < n) (hb : b < 2 ^ n.toNat) : b % 2 ^ (256 * ((n / 256 + 1).toNat)) = b :=
  Nat.mod_eq_of_lt (Nat.lt_of_lt_of_le hb (Nat.pow_le_pow_right (by decide) (by omega)))
def spStretched (K : PySem.W.Frag) : Sp := fun vs H Q _ => ∃ (a : Addr) (n z : Int) (b : Nat), vs = [.ref a, .int z] ∧ SqT K H a [.int n, .int (b : Int)] ∧ 0 < n ∧ n ≤ 150000 ∧ b < 2 ^ n.toNat ∧ 0 < z ∧ z ≤ 150000 ∧ n ∣ z ∧
  ∀ (p : Addr) (c : Nat), H p = none → Strt n.toNat b z.toNat c → Q (.ref p) (upd H p (.tup [.int z, .int (c : Int)]))
def spOtherC (K : PySem.W.Frag) : Sp := fun vs H Q _ => ∃ (a : Addr) (n : Int) (b : Nat), vs = [.ref a] ∧ SqT K H a [.int n, .int (b : Int)] ∧ 0 < n ∧ n ≤ 150000 ∧ b < 2 ^ n.toNat ∧
  ∀ (p : Addr) (c : Nat), H p = none → c < 2 ^ n.toNat → (∀ i, i < n.toNat → c.testBit i = !b.testBit i) → Q (.ref p) (upd H p (.tup [.int n, .int (c : Int)]))
theorem other_on {n : Int} {b c : Nat} (n0 : 0 < n) (h : ∀ i, i < n.toNat → c.testBit i = !b.testBit i) (d : Int) : On n c d = !On n b d := by
  have k3 := Int.emod_nonneg d (show n ≠ 0 by omega)
  have k4 := Int.emod_lt_of_pos d n0
  unfold On
  exact h _ (by omega)
def spGathJ (K : PySem.W.Frag) (mg : Str → Option Value) (L : List (Str × Sp)) : Sp := fun vs H Q _ => ∃ (a1 a2 f : Addr) (n e : Int) (b c : Nat) (x : Str) (j : Bool → Bool → Bool) (G : Nat → Int → Prop), vs = [.ref a1, .ref a2, .int e, .ref f] ∧ (x, spBo K j) ∈ L ∧ mg x = some (.ref f) ∧ H a1 = some (.tup [.int n, .int (b : Int)]) ∧ SqT K H a2 [.int n, .int (c : Int)] ∧ 0 < n ∧ n ≤ 150000 ∧ b < 2 ^ n.toNat ∧ c < 2 ^ n.toNat ∧ (e = 1 ∨ e = -1) ∧
  (∀ d, On n b d = true ↔ G 1 d) ∧ (∀ k d u v, (u = true ↔ G k d) → (v = true ↔ G k (d - e * (k : Int)) ∧ Fre (On n c) e k d) → (j u v = true ↔ G (2 * k) d)) ∧
  ∀ (p : Addr) (g : Nat) (H' : Hp) (k : Nat), n.toNat ≤ k → Same H H' → H' p = some (.tup [.int n, .int (g : Int)]) → g < 2 ^ n.toNat → (∀ d, On n g d = true ↔ G k d) → Q (.ref p) H'
theorem join_either {T B : Int → Bool} {e : Int} (k : Nat) (d : Int) (u v : Bool) (hu : u = true ↔ Gt T B e k d) (hv : v = true ↔ Gt T B e k (d - e * (k : Int)) ∧ Fre B e k d) : (or u v = true ↔ Gt T B e (2 * k) d) := by
  rw [Gt.step, Bool.or_eq_true, hu, hv]
theorem join_unlike {T B : Int → Bool} {e : Int} (k : Nat) (d : Int) (u v : Bool) (hu : u = true ↔ cG T B e k d % 2 = 1) (hv : v = true ↔ cG T B e k (d - e * (k : Int)) % 2 = 1 ∧ Fre B e k d) : ((u != v) = true ↔ cG T B e (2 * k) d % 2 = 1) := by
  rw [cG_xor, ← hu, ← hv]
  cases u <;> cases v <;> simp
theorem cG_start {T B : Int → Bool} {e d : Int} : T d = true ↔ cG T B e 1 d % 2 = 1 := by
  unfold cG
  cases T d <;> simp [cG]
def dl (b m : Nat) : List Nat := (List.range m).filter fun i => b.testBit i
def dli (b m : Nat) : List Int := (dl b m).map fun (i : Nat) => (i : Int)
theorem dl_add (b m k : Nat) : dl b (m + k) = dl b m ++ ((List.range k).filter fun i => b.testBit (m + i)).map fun i => m + i := by
  unfold dl
  rw [List.range_add, List.filter_append, List.filter_map]
  rfl
theorem dl_over {b n : Nat} (hb : b < 2 ^ n) (k : Nat) : dl b (n + k) = dl b n := by
  rw [dl_add]
  have : ((List.range k).filter fun i => b.testBit (n + i)) = [] := by
    rw [List.filter_eq_nil_iff]
    intro i _
    rw [high hb (by omega)]
    exact Bool.false_ne_true
  rw [this, List.map_nil, List.append_nil]
theorem dl_len (b m : Nat) : (dl b m).length ≤ m := by
  unfold dl
  exact Nat.le_trans (List.length_filter_le _ _) (by simp)
theorem mem_dl {b m i : Nat} : i ∈ dl b m ↔ i < m ∧ b.testBit i = true := by
  unfold dl
  rw [List.mem_filter, List.mem_range]
theorem mem_dli {b m : Nat} {d : Int} : d ∈ dli b m ↔ 0 ≤ d ∧ d < m ∧ b.testBit d.toNat = true := by
  unfold dli
  rw [List.mem_map]
  constructor
  · rintro ⟨i, hi, rfl⟩
    obtain ⟨h1, h2⟩ := mem_dl.mp hi
    exact ⟨by omega, by omega, by rw [Int.toNat_natCast]; exact h2⟩
  · rintro ⟨h1, h2, h3⟩
    exact ⟨d.toNat, mem_dl.mpr ⟨by omega, h3⟩, by omega⟩
theorem dl_pair (b m : Nat) : (dl b m).Pairwise (· < ·) := List.Pairwise.filter _ List.pairwise_lt_range
theorem dli_pair (b m : Nat) : (dli b m).Pairwise (· < ·) := by
  unfold dli
  rw [List.pairwise_map]
  exact (dl_pair b m).imp fun h => by omega
theorem dli_len (b m : Nat) : (dli b m).length ≤ m := by
  unfold dli
  rw [List.length_map]
  exact dl_len b m
def spDaysIn (K : PySem.W.Frag) : Sp := fun vs H Q _ => ∃ (a : Addr) (n : Int) (b : Nat), vs = [.ref a] ∧ SqT K H a [.int n, .int (b : Int)] ∧ 0 < n ∧ n ≤ 150000 ∧ b < 2 ^ n.toNat ∧
  ∀ (l : Addr) (H' : Hp), H l = none → Same H H' → H' l = some (.lst ((dli b n.toNat).map V.int)) → Q (.ref l) H'
theorem piece_bit (b m i : Nat) : (Builtin.bitAnd (((b / 2 ^ m % 2 ^ 256 : Nat) : Int) / 2 ^ i) 1 != 0) = (decide (i < 256) && b.testBit (m + i)) := by
  have h : (b / 2 ^ m % 2 ^ 256).testBit i = (decide (i < 256) && b.testBit (m + i)) := by
    rw [Nat.testBit_mod_two_pow, ← Nat.shiftRight_eq_div_pow, Nat.testBit_shiftRight]
  rw [shr_cast, show (1 : Int) = ((1 : Nat) : Int) from rfl, bitAnd_nat, Nat.and_one_is_mod, ← h, Nat.testBit_eq_decide_div_mod_eq, Nat.shiftRight_eq_div_pow, Bool.eq_iff_iff]
  simp only [bne_iff_ne, decide_eq_true_eq]
  omega
theorem dli_step (b m : Nat) : ((dli b m).map V.int) ++ (((((List.range 256).map fun i => V.int (0 + (i : Nat)))).filter fun v => match v with | .int d => b.testBit (m + d.toNat) | _ => false).map fun v => match v with | .int d => V.int ((m : Int) + d) | _ => .non) = (dli b (m + 256)).map V.int := by
  unfold dli
  rw [dl_add, List.map_append, List.map_append]
  congr 1
  rw [List.filter_map, List.map_map, List.map_map, List.map_map]
  have e : ((fun v : V => match v with | .int d => b.testBit (m + d.toNat) | _ => false) ∘ fun i : Nat => V.int (0 + (i : Nat))) = fun i => b.testBit (m + i) := by
    funext i
    show b.testBit (m + (0 + (i : Int)).toNat) = _
    rw [show (0 + (i : Int)).toNat = i by omega]
  rw [e]
  refine List.map_congr_left fun i _ => ?_
  show V.int ((m : Int) + (0 + (i : Int))) = V.int (((m + i : Nat) : Int))
  rw [show (m : Int) + (0 + (i : Int)) = ((m + i : Nat) : Int) by omega]
def spW (K : PySem.W.Frag) (U : Int → Nat → Int → Nat → Int → Prop) : Sp := fun vs H Q _ => ∃ (a1 a2 : Addr) (n1 n2 : Int) (b1 b2 : Nat), vs = [.ref a1, .ref a2] ∧ SqT K H a1 [.int n1, .int (b1 : Int)] ∧ SqT K H a2 [.int n2, .int (b2 : Int)] ∧ 0 < n1 ∧ 0 < n2 ∧ n1 ≤ 150000 ∧ n2 ≤ 150000 ∧ b1 < 2 ^ n1.toNat ∧ b2 < 2 ^ n2.toNat ∧ lcmI n1 n2 ≤ 150000 ∧
  ∀ (p : Addr) (c : Nat) (H' : Hp), Same H H' → H' p = some (.tup [.int (lcmI n1 n2), .int (c : Int)]) → c < 2 ^ (lcmI n1 n2).toNat → (∀ d, On (lcmI n1 n2) c d = true ↔ U n1 b1 n2 b2 d) → Q (.ref p) H'
/-- R upon S, on the day d -/
def UponR (n1 : Int) (b1 : Nat) (n2 : Int) (b2 : Nat) (d : Int) : Prop := On n1 b1 d = true ∧ ∃ s, On n2 b2 s = true ∧ s ≤ d ∧ ∀ r, s ≤ r → r < d → On n1 b1 r = false
/-- R until S, on the day d -/
def UntilR (n1 : Int) (b1 : Nat) (n2 : Int) (b2 : Nat) (d : Int) : Prop := On n1 b1 d = true ∧ ∃ s, On n2 b2 s = true ∧ d ≤ s ∧ ∀ r, d < r → r ≤ s → On n1 b1 r = false
/-- from R till S, on the day d -/
def TillR (n1 : Int) (b1 : Nat) (n2 : Int) (b2 : Nat) (d : Int) : Prop := ∃ r, On n1 b1 r = true ∧ r ≤ d ∧ ∀ s, On n2 b2 s = true → r < s → d < s
/-- R near S, on the day d: of two as near the earlier one -/
def NearR (n1 : Int) (b1 : Nat) (n2 : Int) (b2 : Nat) (d : Int) : Prop := On n1 b1 d = true ∧ ∃ s, On n2 b2 s = true ∧ ∀ r, On n1 b1 r = true → (d < r → (d - s).natAbs ≤ (r - s).natAbs) ∧ (r < d → (d - s).natAbs < (r - s).natAbs)
def spNearA (K : PySem.W.Frag) : Sp := fun vs H Q _ => ∃ (a : Addr) (n : Int) (b : Nat), vs = [.ref a] ∧ SqT K H a [.int n, .int (b : Int)] ∧ 0 < n ∧ n ≤ 150000 ∧ b < 2 ^ n.toNat ∧
  ∀ (p : Addr) (c : Nat) (H' : Hp), Same H H' → H' p = some (.tup [.int n, .int (c : Int)]) → c < 2 ^ n.toNat → (∀ d, On n c d = true ↔ Early (On n b) d) → Q (.ref p) H'
theorem dli_mem {n : Int} {b : Nat} (n0 : 0 < n) (d : Int) : d ∈ dli b n.toNat ↔ 0 ≤ d ∧ d < n ∧ On n b d = true := by
  rw [mem_dli]
  constructor
  · rintro ⟨h1, h2, h3⟩
    refine ⟨h1, by omega, ?_⟩
    unfold On
    rwa [Int.emod_eq_of_lt h1 (by omega)]
  · rintro ⟨h1, h2, h3⟩
    refine ⟨h1, by omega, ?_⟩
    unfold On at h3
    rwa [Int.emod_eq_of_lt h1 h2] at h3
theorem lcm_dvd {n z : Int} (n0 : 0 < n) (z0 : 0 < z) (h : n ∣ z) : lcmI n z = z := by
  have f := lcmI_facts n0 z0
  have h1 : lcmI n z ∣ z := f.2.2.2.2.1 _ h (Int.dvd_refl _)
  exact Int.dvd_antisymm (by omega) (by omega) h1 f.2.2.1
theorem cut_from1 (xs : List Int) : cutV (xs.map V.int) (some 1) none = (xs.drop 1).map V.int := cutV_from xs 1
theorem cut_upto1 (xs : List V) : cutV xs none (some 1) = xs.take 1 := cut_upto xs 1
theorem comp_zip {K : PySem.W.Frag} {a b : Addr} {xs ys : List Int} {σ : L2.St} {H : Hp} {Q : VK} {te : TE} (ha : SqL K H a (xs.map V.int)) (hb : SqL K H b (ys.map V.int)) (hl : xs.length < sizeLine) (f : Int → Int → Int)
    (he : ∀ (x y : Int) (H' : Hp) (Q' : VK), Q' (.int (f x y)) H' → te (some (.int x) :: some (.int y) :: σ) H' Q')
    (h : ∀ (D : Addr) (H' : Hp), H D = none → Same H H' → H' D = some (.lst ((List.zipWith f xs ys).map V.int)) → Q (.ref D) H') :
    CompRT 2 (gTup K 2 (gCons (gName 0) (gCons (gName 1) gNil))) tTrue te σ Q (Itz K a b) H := by
  intro D hD
  have zl : (List.zipWith f xs ys).length = min xs.length ys.length := List.length_zipWith
  refine ⟨fun i m zs H2 => i ≤ min xs.length ys.length ∧ m = min xs.length ys.length - i ∧ zs = ((List.zipWith f xs ys).take i).map V.int ∧ H2 D = some (.lst zs) ∧ Same H H2, ⟨_, Nat.zero_le _, rfl, rfl, upd_same, same_new hD _⟩, ?_⟩
  rintro i m zs H2 ⟨hi, rfl, rfl, hz, s2⟩
  refine ⟨hz, ?_⟩
  by_cases c : i < min xs.length ys.length
  · have c1 : i < xs.length := by omega
    have c2 : i < ys.length := by omega
    have ex : (xs.map V.int)[i]? = some (.int xs[i]) := by rw [List.getElem?_map, List.getElem?_eq_getElem c1]; rfl
    have ey : (ys.map V.int)[i]? = some (.int ys[i]) := by rw [List.getElem?_map, List.getElem?_eq_getElem c2]; rfl
    refine .inr ⟨⟨_, _, _, _, s2.seq ha, s2.seq hb, ex, ey⟩, ?_, min xs.length ys.length - (i + 1), by omega, ?_⟩
    · rw [List.length_map, List.length_take]
      omega
    rintro v H3 ⟨T, x, y, hT, rfl, rfl, hxy⟩ ρ hρ
    obtain ⟨gx, gy⟩ := hxy _ _ (s2.seq ha) (s2.seq hb)
    rw [ex] at gx
    rw [ey] at gy
    cases gx
    cases gy
    obtain ⟨p, q, rfl⟩ : ∃ p q, ρ = [p, q] := by
      match ρ, hρ with
      | [p, q], _ => exact ⟨p, q, rfl⟩
    refine ⟨T, [.int xs[i], .int ys[i]], rfl, SqT.of upd_same, rfl, .int xs[i], [.int ys[i]], rfl, .int ys[i], [], rfl, ⟨rfl, [some (.int xs[i]), some (.int ys[i])], rfl, rfl, ?_⟩⟩
    refine rd_true ?_
    rw [if_pos rfl]
    have nT : D ≠ T := ne_of_none hz hT
    refine he _ _ _ _ ⟨by rw [upd_ne nT]; exact hz, by omega, rfl, ?_, upd_same, ?_⟩
    · rw [List.take_succ, List.map_append]
      congr 1
      have : (List.zipWith f xs ys)[i]? = some (f xs[i] ys[i]) := by
        rw [List.getElem?_zipWith', List.getElem?_eq_getElem c1, List.getElem?_eq_getElem c2]
        rfl
      rw [this]
      rfl
    · exact same_app hD (s2.trans (same_new hT _))
  · have e : i = min xs.length ys.length := by omega
    refine .inl ⟨⟨_, _, s2.seq ha, s2.seq hb, by rw [List.length_map, List.length_map]; exact e⟩, h D H2 hD s2 ?_⟩
    rw [hz, List.take_of_length_le (by omega)]
def spKth0 (K : PySem.W.Frag) : Sp := fun vs H Q _ => ∃ (k : Int) (a1 a2 : Addr) (n1 n2 : Int) (b1 b2 : Nat), vs = [.int k, .ref a1, .ref a2] ∧ Two K H a1 a2 n1 n2 b1 b2 ∧ k ≠ 0 ∧ lcmI n1 n2 ≤ 150000 ∧
  ∀ (p : Addr) (c : Nat) (H' : Hp), Same H H' → H' p = some (.tup [.int (lcmI n1 n2), .int (c : Int)]) → c < 2 ^ (lcmI n1 n2).toNat → (∀ d, On (lcmI n1 n2) c d = true ↔ Kth n1 b1 n2 b2 k d) → Q (.ref p) H'
theorem kth_step {z e p : Int} {t c g t' ce kk : Nat} (hB : ∀ d, Bar (On z ce) e z.toNat d) (kn : z.toNat ≤ kk) (og : ∀ d, On z g d = true ↔ cG (On z t) (On z ce) e kk d % 2 = 1) (oB : ∀ d, On z c d = (On z t d && On z g d)) (p1 : 1 < p) (h1 : p % 2 = 1 → ∀ d, On z t' d = On z c d) (h2 : ¬ p % 2 = 1 → ∀ d, On z t' d = (On z t d && !On z c d)) (d : Int) :
    (On z t' d = true ∧ (cG (On z t') (On z ce) e z.toNat d : Int) = (p + 1) / 2) ↔ (On z t d = true ∧ (cG (On z t) (On z ce) e z.toNat d : Int) = p) := by
  have oc : ∀ d, On z c d = true ↔ On z t d = true ∧ cG (On z t) (On z ce) e z.toNat d % 2 = 1 := fun d => by
    rw [oB, Bool.and_eq_true, og, cG_stab (hB d) kn]
  by_cases h : p % 2 = 1
  · have hT : ∀ d, On z t' d = true ↔ On z t d = true ∧ cG (On z t) (On z ce) e z.toNat d % 2 = 1 := fun d => by rw [h1 h, oc]
    rw [cG_odd hB hT z.toNat d (hB d), hT]
    generalize cG (On z t) (On z ce) e z.toNat d = m
    constructor
    · rintro ⟨⟨g1, g2⟩, g3⟩
      exact ⟨g1, by omega⟩
    · rintro ⟨g1, g2⟩
      exact ⟨⟨g1, by omega⟩, by omega⟩
  · have hT : ∀ d, On z t' d = true ↔ On z t d = true ∧ cG (On z t) (On z ce) e z.toNat d % 2 = 0 := fun d => by
      rw [h2 h, Bool.and_eq_true, Bool.not_eq_true', ← Bool.not_eq_true, oc]
      generalize cG (On z t) (On z ce) e z.toNat d = m
      constructor
      · rintro ⟨g1, g2⟩
        refine ⟨g1, ?_⟩
        by_cases o : m % 2 = 1
        · exact absurd ⟨g1, o⟩ g2
        · omega
      · rintro ⟨g1, g2⟩
        exact ⟨g1, fun ⟨_, o⟩ => by omega⟩
    rw [cG_even hB hT z.toNat d (hB d), hT]
    generalize cG (On z t) (On z ce) e z.toNat d = m
    constructor
    · rintro ⟨⟨g1, g2⟩, g3⟩
      exact ⟨g1, by omega⟩
    · rintro ⟨g1, g2⟩
      exact ⟨⟨g1, by omega⟩, by omega⟩
theorem zero_on (z d : Int) : On z 0 d = false := by
  unfold On
  exact Nat.zero_testBit _
theorem kth_end {z n1 n2 k p p0 e : Int} {b1 b2 t ce : Nat} (z0 : 0 < z) (d2 : n2 ∣ z) (h1 : 0 < n1) (k0 : k ≠ 0) (hek : e = if 0 < k then 1 else -1) (ap : p0 = (k.natAbs : Int)) (oe : ∀ d, On z ce d = On n2 b2 (if 0 < k then d else d + 1))
    (hT : (∀ d, Bar (On z ce) e z.toNat d) → ∀ d, (On z t d = true ∧ (cG (On z t) (On z ce) e z.toNat d : Int) = p) ↔ (On n1 b1 d = true ∧ (cG (On n1 b1) (On z ce) e z.toNat d : Int) = p0)) (hp : p = 1 ∨ t = 0) (d : Int) :
    Kth n1 b1 n2 b2 k d ↔ On z t d = true ∧ ∃ j : Nat, On z ce (d - e * (j : Int)) = true ∧ ∀ i : Nat, 0 < i → i ≤ j → On z t (d - e * (i : Int)) = false := by
  have he : e = 1 ∨ e = -1 := by split at hek <;> omega
  by_cases hx : ∃ x, On n2 b2 x = true
  · obtain ⟨x, hx⟩ := hx
    have pe : ∀ u v : Int, z ∣ u - v → On n2 b2 u = On n2 b2 v := fun u v h => on_dvd (Int.dvd_trans d2 h)
    have hU : ∀ d, Bar (On n2 b2) 1 z.toNat d := fun d => bar_of z0 pe hx (.inl rfl) d
    have hD : ∀ d, Bar (fun d => On n2 b2 (d + 1)) (-1) z.toNat d := fun d => bar_of (B := fun d => On n2 b2 (d + 1)) z0 (fun u v h => pe _ _ (by rw [show u + 1 - (v + 1) = u - v by omega]; exact h)) (x := x - 1) (by show On n2 b2 (x - 1 + 1) = true; rw [show x - 1 + 1 = x by omega]; exact hx) (.inr rfl) d
    have key : (∀ d, Bar (On z ce) e z.toNat d) ∧ (Kth n1 b1 n2 b2 k d ↔ On n1 b1 d = true ∧ cG (On n1 b1) (On z ce) e z.toNat d = k.natAbs) := by
      have kk := kth_cG (n1 := n1) (b1 := b1) (d := d) (k := k) (B := fun d => On n2 b2 (d + 1)) (fun _ => rfl) h1 hU hD k0
      by_cases c : 0 < k
      · have fe : On z ce = On n2 b2 := funext fun d => by rw [oe, if_pos c]
        rw [if_pos c] at hek kk
        rw [fe, hek]
        exact ⟨hU, kk⟩
      · have fe : On z ce = fun d => On n2 b2 (d + 1) := funext fun d => by rw [oe, if_neg c]
        rw [if_neg c] at hek kk
        rw [fe, hek]
        exact ⟨hD, kk⟩
    obtain ⟨hB, kk⟩ := key
    have hTd := hT hB d
    rw [kk]
    have e1 : (On n1 b1 d = true ∧ cG (On n1 b1) (On z ce) e z.toNat d = k.natAbs) ↔ (On n1 b1 d = true ∧ (cG (On n1 b1) (On z ce) e z.toNat d : Int) = p0) := by
      refine and_congr_right fun _ => ?_
      omega
    rw [e1, ← hTd]
    rcases hp with rfl | rfl
    · refine and_congr_right fun td => ?_
      rw [← cG_one hB td]
      omega
    · rw [zero_on]
      simp
  · constructor
    · rintro ⟨_, b, _, hb, _⟩
      exact absurd ⟨b, hb⟩ hx
    · rintro ⟨_, j, hj, _⟩
      rw [oe] at hj
      exact absurd ⟨_, hj⟩ hx
theorem upon_j {z : Int} {t ce : Nat} {d : Int} : UponR z t z ce d ↔ On z t d = true ∧ ∃ j : Nat, On z ce (d - 1 * (j : Int)) = true ∧ ∀ i : Nat, 0 < i → i ≤ j → On z t (d - 1 * (i : Int)) = false := by
  refine and_congr_right fun _ => ?_
  constructor
  · rintro ⟨s, h1, h2, h3⟩
    exact ⟨(d - s).toNat, by rw [show d - 1 * (((d - s).toNat : Nat) : Int) = s by omega]; exact h1, fun i i0 hi => h3 _ (by omega) (by omega)⟩
  · rintro ⟨j, h1, h2⟩
    refine ⟨_, h1, by omega, fun r r1 r2 => ?_⟩
    have := h2 (d - r).toNat (by omega) (by omega)
    rw [show d - 1 * (((d - r).toNat : Nat) : Int) = r by omega] at this
    exact this
theorem until_j {z : Int} {t ce : Nat} {d : Int} : UntilR z t z ce d ↔ On z t d = true ∧ ∃ j : Nat, On z ce (d - -1 * (j : Int)) = true ∧ ∀ i : Nat, 0 < i → i ≤ j → On z t (d - -1 * (i : Int)) = false := by
  refine and_congr_right fun _ => ?_
  constructor
  · rintro ⟨s, h1, h2, h3⟩
    exact ⟨(s - d).toNat, by rw [show d - -1 * (((s - d).toNat : Nat) : Int) = s by omega]; exact h1, fun i i0 hi => h3 _ (by omega) (by omega)⟩
  · rintro ⟨j, h1, h2⟩
    refine ⟨_, h1, by omega, fun r r1 r2 => ?_⟩
    have := h2 (r - d).toNat (by omega) (by omega)
    rw [show d - -1 * (((r - d).toNat : Nat) : Int) = r by omega] at this
    exact this
def spMany (K : PySem.W.Frag) : Sp := fun vs H Q _ => ∃ (a : Addr) (n f e : Int) (b : Nat), vs = [.ref a, .int f, .int e] ∧ SqT K H a [.int n, .int (b : Int)] ∧ 0 < n ∧ n ≤ 150000 ∧ b < 2 ^ n.toNat ∧ Bt 250 f ∧ Bt 250 e ∧ ∀ H', Same H H' → Q (.int (CC n b e - CC n b f)) H'
def spOnes : Sp := fun vs H Q _ => ∃ (b n : Nat), vs = [.int (b : Int)] ∧ b < 2 ^ n ∧ n ≤ 150000 ∧ ∀ H', Same H H' → Q (.int ((cnt b n : Nat) : Int)) H'
def spAhead (K : PySem.W.Frag) : Sp := fun vs H Q _ => ∃ (a : Addr) (n d : Int) (b : Nat), vs = [.ref a, .int d] ∧ SqT K H a [.int n, .int (b : Int)] ∧ 0 < n ∧ n ≤ 150000 ∧ b < 2 ^ n.toNat ∧ Bt 260 d ∧ ∀ H', Same H H' → Q (.int (CC n b d)) H'
theorem ev_mask {w z f c : Nat} (w0 : 0 < w) (hf : f < 2 ^ z) (S : Strt (2 * w) (2 ^ w - 1) z c) (k : Nat) : Ev w (f / 2 ^ k) ((f / 2 ^ k) &&& c) := fun i => by
  rw [Nat.testBit_and]
  have fl : f / 2 ^ k < 2 ^ z := Nat.lt_of_le_of_lt (Nat.div_le_self _ _) hf
  by_cases h : i < z
  · rw [S.bit i h, Nat.testBit_two_pow_sub_one]
  · rw [high fl (by omega)]; rfl
theorem bt_div {k : Nat} {d n : Int} (h : Bt k d) (hn : 0 < n) : Bt k (d / n) := by
  refine h.le ?_
  rcases Int.lt_or_le d 0 with c | c
  · have h1 : d / n < 0 := Int.ediv_neg_of_neg_of_pos c hn
    have h2 : d ≤ d / n := (Int.le_ediv_iff_mul_le hn).mpr (by
      have := Int.mul_le_mul_of_nonpos_left (show d ≤ 0 by omega) (show 1 ≤ n by omega)
      omega)
    omega
  · have h1 : 0 ≤ d / n := Int.ediv_nonneg c (by omega)
    have h2 : d / n ≤ d := Int.ediv_le_self n c
    omega
def spEvery0 (K : PySem.W.Frag) : Sp := fun vs H Q _ => ∃ (k d : Int) (a : Addr) (n : Int) (b : Nat), vs = [.int k, .ref a, .int d] ∧ SqT K H a [.int n, .int (b : Int)] ∧ 0 < n ∧ n ≤ 150000 ∧ b < 2 ^ n.toNat ∧ Bt 250 d ∧ Bt 400 k ∧ 1 ≤ k ∧ n * k ≤ 150000 ∧
  ∀ (p : Addr) (c : Nat) (H' : Hp), Same H H' → H' p = some (.tup [.int (n * k), .int (c : Int)]) → c < 2 ^ (n * k).toNat → (∀ e, On (n * k) c e = true ↔ Evr n b k d e) → Q (.ref p) H'
theorem le_mulr {n k : Int} (hn : 0 < n) (hk : 0 < k) : k ≤ n * k := by
  have := Int.mul_le_mul_of_nonneg_right (show 1 ≤ n by omega) (Int.le_of_lt hk)
  omega
theorem dli_self {n : Int} {b : Nat} (hn : 0 < n) (d : Int) : d ∈ dli b n.toNat ↔ 0 ≤ d ∧ d < n ∧ On n b d = true := by
  rw [mem_dli]
  constructor
  · rintro ⟨h1, h2, h3⟩
    refine ⟨h1, by omega, ?_⟩
    unfold On
    rw [Int.emod_eq_of_lt h1 (by omega)]
    exact h3
  · rintro ⟨h1, h2, h3⟩
    refine ⟨h1, by omega, ?_⟩
    unfold On at h3
    rwa [Int.emod_eq_of_lt h1 (by omega)] at h3
abbrev WRel := Int → Nat → Int → Nat → Int → Prop
def spLater (K : PySem.W.Frag) : Sp := fun vs H Q _ => ∃ (a : Addr) (n num : Int) (b : Nat), vs = [.ref a, .int num] ∧ SqT K H a [.int n, .int (b : Int)] ∧ 0 < n ∧ n ≤ 150000 ∧ b < 2 ^ n.toNat ∧
  ∀ p, H p = none → Q (.ref p) (upd H p (.tup [.int n, .int ((lat n.toNat b (num % n).toNat : Nat) : Int)]))
structure AskR (K : PySem.W.Frag) (H : Hp) (a1 a2 : Addr) (w k d n1 n2 : Int) (b1 b2 : Nat) : Prop where
  two : Two K H a1 a2 n1 n2 b1 b2
  bd : Bt 250 d
  bk : Bt 400 k
  w0 : 0 ≤ w
  w6 : w < 6
  lz : w ≠ 5 → lcmI n1 n2 ≤ 150000
  k4 : w = 4 → k ≠ 0
  k5 : w = 5 → 1 ≤ k ∧ n1 * k ≤ 150000
theorem AskR.later {K : PySem.W.Frag} {H H' : Hp} {a1 a2 : Addr} {w k d n1 n2 : Int} {b1 b2 : Nat} (a : AskR K H a1 a2 w k d n1 n2 b1 b2) (s : Same H H') : AskR K H' a1 a2 w k d n1 n2 b1 b2 := ⟨a.two.later s, a.bd, a.bk, a.w0, a.w6, a.lz, a.k4, a.k5⟩
theorem on_ext {n : Int} {b c : Nat} (hn : 0 < n) (hb : b < 2 ^ n.toNat) (hc : c < 2 ^ n.toNat) (h : ∀ d, On n b d = true ↔ On n c d = true) : b = c := bits_ext hb hc fun i hi => by
  have := h (i : Int)
  unfold On at this
  rw [Int.emod_eq_of_lt (by omega) (by omega), Int.toNat_natCast] at this
  rw [Bool.eq_iff_iff]
  exact this
structure Dw (n : Int) (ds : List Int) : Prop where
  all : ∀ d ∈ ds, 0 ≤ d ∧ d < n
  nd : ds.Nodup
  len : ds.length ≤ 40
/-- (b >> k) & 1 == 1 -/
theorem and_one (b k : Nat) : decide (V.int (Builtin.bitAnd ((b : Int) / 2 ^ k) 1) = V.int 1) = b.testBit k := by
  rw [shr_cast, show (1 : Int) = ((1 : Nat) : Int) from rfl, bitAnd_nat, Nat.and_one_is_mod, ← on_dec]
  congr 1
  rw [shr_cast]
  have e : (((b >>> k : Nat) : Int) % 2) = ((b >>> k % 2 : Nat) : Int) := by omega
  rw [e]
  rfl
theorem RB.mem {n : Int} {ds : List Int} {b : Nat} (B : RB n ds b) (hn : 0 < n) (hd : Dw n ds) (e : Int) : On n b e = decide (e % n ∈ ds) := by
  rw [B.bit, Bool.eq_iff_iff, decide_eq_true_eq]
  unfold hit
  rw [List.any_eq_true]
  constructor
  · rintro ⟨x, hx, hh⟩
    have hx2 := hd.all x hx
    have := (sub_mod_zero hn).mp (of_decide_eq_true hh)
    rw [Int.emod_eq_of_lt hx2.1 hx2.2] at this
    rw [this]
    exact hx
  · intro hx
    refine ⟨_, hx, decide_eq_true ((sub_mod_zero hn).mpr ?_)⟩
    rw [Int.emod_emod]
structure Sz (x y : Int) : Prop where
  x0 : 1 ≤ x
  x1 : x ≤ 800
  y0 : 1 ≤ y
  y1 : y ≤ 800
  l : lcmI x y ≤ 1240
theorem Sz.small {x y : Int} (x0 : 1 ≤ x) (x1 : x ≤ 40) (y0 : 1 ≤ y) (y1 : y ≤ 31) : Sz x y := by
  have h := lcmI_le (show 0 < x by omega) (show 0 < y by omega)
  have m := Int.mul_le_mul x1 y1 (by omega) (by omega)
  exact ⟨x0, by omega, y0, by omega, by omega⟩
theorem bt_log {k : Nat} {x : Int} (h : Bt k x) (hk : k ≤ 1920) (h0 : 0 < k) : x.natAbs.log2 < 1920 := by
  unfold Bt at h
  by_cases z : x.natAbs = 0
  · rw [z]; decide
  · exact Nat.lt_of_lt_of_le ((Nat.log2_lt z).mpr h) hk
structure RC (K : PySem.W.Frag) (CR C : Addr) : Prop where
  cl : Cls K C
  k : NoAttr K C "kept"
  m : NoAttr K C "made_of"
  w : NoAttr K C "words"
  ca : PySem.W.findIn K (.ref C) "__class__" = some (some (.builtin "object.__class__"))
  ob : PySem.W.mroIn K C (.type "object") = some true
  isr : PySem.W.kitOne K (.ref C) (.ref CR) = some true
def rF (p pm pw : Addr) : List (Str × V) := [("kept", .ref p), ("made_of", .ref pm), ("words", .ref pw)]
structure RuleO (K : PySem.W.Frag) (CR : Addr) (CL : List Addr) (H : Hp) (x : Addr) (n : Int) (b : Nat) : Prop where
  ex : ∃ C dx p pm pw, C ∈ CL ∧ RC K CR C ∧ H x = some (.ins C dx (rF p pm pw)) ∧ H p = some (.tup [.int n, .int (b : Int)])
  n0 : 0 < n
  n1 : n ≤ 150000
  lt : b < 2 ^ n.toNat
theorem RuleO.same {K : PySem.W.Frag} {CR : Addr} {CL : List Addr} {H H' : Hp} {x : Addr} {n : Int} {b : Nat} (R : RuleO K CR CL H x n b) (s : Same H H') : RuleO K CR CL H' x n b := by
  obtain ⟨C, dx, p, pm, pw, h1, h2, h3, h4⟩ := R.ex
  exact ⟨⟨C, dx, p, pm, pw, h1, h2, s _ _ h3, s _ _ h4⟩, R.n0, R.n1, R.lt⟩
theorem RuleO.meth {K : PySem.W.Frag} {CR : Addr} {CL : List Addr} {H : Hp} {x : Addr} {n : Int} {b : Nat} (R : RuleO K CR CL H x n b) (sp : Sp) : ∃ C dx fs, (C, sp) ∈ CL.map (fun c => (c, sp)) ∧ H x = some (.ins C dx fs) ∧ fs.lookup (Str.ofString "turn") = none ∧ fs.lookup (Str.ofString "size") = none ∧ fs.lookup (Str.ofString "on") = none := by
  obtain ⟨C, dx, p, pm, pw, h1, h2, h3, h4⟩ := R.ex
  exact ⟨C, dx, _, List.mem_map.mpr ⟨C, h1, rfl⟩, h3, rfl, rfl, rfl⟩
/-- all is kept but what stands at x -/
def KB (x : Addr) (H H' : Hp) : Prop := ∀ y o, y ≠ x → H y = some o → H' y = some o
theorem KB.pre {x : Addr} {H H1 H' : Hp} (s : Same H H1) (k : KB x H1 H') : KB x H H' := fun y o h e => k y o h (s _ _ e)
theorem made_same {H1 H' : Hp} {x dx : Addr} {o o' : HO} (hx : H1 x = none) (hd : H1 dx = none) (ne : dx ≠ x) (k : KB x (upd (upd H1 dx o) x o') H') : Same H1 H' := fun y u e => by
  have y1 : y ≠ x := ne_of_none e hx
  have y2 : y ≠ dx := ne_of_none e hd
  exact k y u y1 (by rw [upd_ne y1, upd_ne y2]; exact e)
theorem made_in {H1 : Hp} {x dx : Addr} {o o' : HO} (hx : H1 x = none) (hd : H1 dx = none) : Same H1 (upd (upd H1 dx o) x o') := fun y u e => by
  rw [upd_ne (ne_of_none e hx), upd_ne (ne_of_none e hd)]; exact e
def spRInit (K : PySem.W.Frag) (CR : Addr) : Sp := fun vs H Q _ => ∃ (x p pm pw C dx : Addr), vs = [.ref x, .ref p, .ref pm, .ref pw] ∧ H x = some (.ins C dx []) ∧ RC K CR C ∧
  ∀ H', KB x H H' → H' x = some (.ins C dx (rF p pm pw)) → Q .non H'
/-- what the init of a kind tells -/
def MadeR (K : PySem.W.Frag) (CR : Addr) (CL : List Addr) (C : Addr) (H : Hp) (x : Addr) (Q : VK) (n : Int) (G : Nat → Prop) : Prop := (∃ dx, H x = some (.ins C dx [])) ∧ ∀ (b : Nat) H', KB x H H' → RuleO K CR CL H' x n b → G b → Q .non H'
def spI0 (K : PySem.W.Frag) (CR : Addr) (CL : List Addr) (C : Addr) (b0 : Nat) : Sp := fun vs H Q _ => ∃ x, vs = [.ref x] ∧ MadeR K CR CL C H x Q 1 (fun b => b = b0)
def spIEach (K : PySem.W.Frag) (CR : Addr) (CL : List Addr) (C : Addr) : Sp := fun vs H Q _ => ∃ (x : Addr) (n r : Int), vs = [.ref x, .int n, .int r] ∧ 1 ≤ n ∧ n ≤ 1000 ∧ Bt 400 r ∧ MadeR K CR CL C H x Q n (fun b => RB n [r] b)
def spITwo (K : PySem.W.Frag) (CR : Addr) (CL : List Addr) (C : Addr) (f : Bool → Bool → Bool) : Sp := fun vs H Q _ => ∃ (x r t : Addr) (n1 n2 : Int) (b1 b2 : Nat), vs = [.ref x, .ref r, .ref t] ∧ RuleO K CR CL H r n1 b1 ∧ RuleO K CR CL H t n2 b2 ∧ lcmI n1 n2 ≤ 150000 ∧ MadeR K CR CL C H x Q (lcmI n1 n2) (fun c => ∀ d, On (lcmI n1 n2) c d = f (On n1 b1 d) (On n2 b2 d))
def spTurnM (K : PySem.W.Frag) (CR : Addr) (CL : List Addr) : Sp := fun vs H Q _ => ∃ (x : Addr) (n : Int) (b : Nat), vs = [.ref x] ∧ RuleO K CR CL H x n b ∧ ∀ p, H p = some (.tup [.int n, .int (b : Int)]) → Q (.ref p) H
def spSizeM (K : PySem.W.Frag) (CR : Addr) (CL : List Addr) : Sp := fun vs H Q _ => ∃ (x : Addr) (n : Int) (b : Nat), vs = [.ref x] ∧ RuleO K CR CL H x n b ∧ Q (.int n) H
def spOnM (K : PySem.W.Frag) (CR : Addr) (CL : List Addr) : Sp := fun vs H Q _ => ∃ (x : Addr) (n d : Int) (b : Nat), vs = [.ref x, .int d] ∧ RuleO K CR CL H x n b ∧ Q (.bl (On n b d)) H
def spEachT : Sp := fun vs H Q _ => ∃ n r : Int, vs = [.int n, .int r] ∧ 1 ≤ n ∧ n ≤ 1000 ∧ Bt 400 r ∧ ∀ z H', Same H H' → Q (.str z) H'
theorem made_rule {K : PySem.W.Frag} {CR : Addr} {CL : List Addr} {C x dx p pm pw : Addr} {H2 H' : Hp} {n : Int} {b : Nat} (hC : C ∈ CL) (R : RC K CR C) (hx : H2 x = some (.ins C dx [])) (hp : H2 p = some (.tup [.int n, .int (b : Int)])) (k : KB x H2 H') (e : H' x = some (.ins C dx (rF p pm pw))) (n0 : 0 < n) (n1 : n ≤ 150000) (lt : b < 2 ^ n.toNat) : RuleO K CR CL H' x n b :=
  ⟨⟨C, dx, p, pm, pw, hC, R, e, k _ _ (ne_of hp hx (fun z => nomatch z)) hp⟩, n0, n1, lt⟩
theorem RuleO.ty {K : PySem.W.Frag} {CR : Addr} {CL : List Addr} {H : Hp} {x : Addr} {n : Int} {b : Nat} (R : RuleO K CR CL H x n b) (xsp : PySem.W.specialIn K (.builtin "object.__class__") "__get__" = some (some (.builtin "getset_descriptor.__get__"))) (xtk : PySem.W.takesIn K (.builtin "object.__class__") = some true) : ∃ C, TyOf K H (.ref x) (.ref C) ∧ PySem.W.kitOne K (.ref C) (.ref CR) = some true := by
  obtain ⟨C, dx, p, pm, pw, h1, h2, h3, h4⟩ := R.ex
  exact ⟨C, .ins h3 h2.cl h2.ca xsp xtk h2.ob, h2.isr⟩
theorem kit_bb (K : PySem.W.Frag) : PySem.W.kitOne K (.type "bool") (.type "bool") = some true := by unfold PySem.W.kitOne; rw [if_pos (by simp)]
def spIW (K : PySem.W.Frag) (CR : Addr) (CL : List Addr) (C : Addr) (U : WRel) : Sp := fun vs H Q _ => ∃ (x r t : Addr) (n1 n2 : Int) (b1 b2 : Nat), vs = [.ref x, .ref r, .ref t] ∧ RuleO K CR CL H r n1 b1 ∧ RuleO K CR CL H t n2 b2 ∧ lcmI n1 n2 ≤ 150000 ∧ MadeR K CR CL C H x Q (lcmI n1 n2) (fun c => ∀ d, On (lcmI n1 n2) c d = true ↔ U n1 b1 n2 b2 d)
def spIKth (K : PySem.W.Frag) (CR : Addr) (CL : List Addr) (C : Addr) : Sp := fun vs H Q _ => ∃ (x r t : Addr) (k n1 n2 : Int) (b1 b2 : Nat), vs = [.ref x, .int k, .ref r, .ref t] ∧ RuleO K CR CL H r n1 b1 ∧ RuleO K CR CL H t n2 b2 ∧ lcmI n1 n2 ≤ 150000 ∧ k ≠ 0 ∧ Bt 400 k ∧ MadeR K CR CL C H x Q (lcmI n1 n2) (fun c => ∀ d, On (lcmI n1 n2) c d = true ↔ Kth n1 b1 n2 b2 k d)
def spIEvery (K : PySem.W.Frag) (CR : Addr) (CL : List Addr) (C : Addr) : Sp := fun vs H Q _ => ∃ (x r : Addr) (k n d0 : Int) (b : Nat), vs = [.ref x, .int k, .ref r, .int d0] ∧ RuleO K CR CL H r n b ∧ Bt 250 d0 ∧ Bt 400 k ∧ 1 ≤ k ∧ n * k ≤ 150000 ∧ MadeR K CR CL C H x Q (n * k) (fun c => ∀ e, On (n * k) c e = true ↔ Evr n b k d0 e)
def spPart63 (K : PySem.W.Frag) (CR : Addr) (CL : List Addr) : Sp := fun vs H Q _ => ∃ c : Int, vs = [.int c] ∧ ∀ (x : Addr) (n : Int) (b : Nat) H', Same H H' → RuleO K CR CL H' x n b → n ≤ 8 → Q (.ref x) H'
def spParts63 (K : PySem.W.Frag) (CR : Addr) (CL : List Addr) : Sp := fun vs H Q _ => ∃ (a : Addr) (ns : List Int) (k : Int), vs = [.ref a, .int k] ∧ SqL K H a (ns.map V.int) ∧ ns.length ≤ 63 ∧ 0 ≤ k ∧ k ≤ 10 ∧ ∀ (x : Addr) (n : Int) (b : Nat) H', Same H H' → RuleO K CR CL H' x n b → n ≤ 64 → Q (.ref x) H'
def spRight63 (K : PySem.W.Frag) (CR : Addr) (CL : List Addr) : Sp := fun vs H Q _ => ∃ (x p : Addr) (n d : Int) (b : Nat), vs = [.ref x, .ref p, .int d] ∧ RuleO K CR CL H x n b ∧ SqT K H p [.int n, .int (b : Int)] ∧ ∀ H', Same H H' → Q (.bl true) H'
structure Errs (K : PySem.W.Frag) (mg : Str → Option Value) (c_FeastError c_NoNumber c_TooLong c_Rule c_All c_No c_Each c_Either c_Upon c_Until c_Near c_Till c_Kth c_Every : Addr) : Prop where
  m_Rule : mg "Rule" = some (.ref c_Rule)
  cl_All : Cls K c_All
  rc_All : RC K c_Rule c_All
  cl_No : Cls K c_No
  rc_No : RC K c_Rule c_No
  cl_Each : Cls K c_Each
  rc_Each : RC K c_Rule c_Each
  cl_Either : Cls K c_Either
  rc_Either : RC K c_Rule c_Either
  cl_Upon : Cls K c_Upon
  rc_Upon : RC K c_Rule c_Upon
  cl_Until : Cls K c_Until
  rc_Until : RC K c_Rule c_Until
  cl_Near : Cls K c_Near
  rc_Near : RC K c_Rule c_Near
  cl_Till : Cls K c_Till
  rc_Till : RC K c_Rule c_Till
  cl_Kth : Cls K c_Kth
  rc_Kth : RC K c_Rule c_Kth
  cl_Every : Cls K c_Every
  rc_Every : RC K c_Rule c_Every
  xsp : PySem.W.specialIn K (.builtin "object.__class__") "__get__" = some (some (.builtin "getset_descriptor.__get__"))
  xtk : PySem.W.takesIn K (.builtin "object.__class__") = some true
section
variable {P : Program} {w : World} {K : PySem.W.Frag} {mg : Str → Option Value} {base : Heap}
variable {c_FeastError c_NoNumber c_TooLong c_Rule c_All c_No c_Each c_Either c_Upon c_Until c_Near c_Till c_Kth c_Every : Addr}
theorem sc_refuse_below_one : FnScope ["number"] ["number"] (defScope s_refuse_below_one) := ⟨rfl, rfl, rfl, by decide +kernel, rfl, by decide +kernel, by decide +kernel⟩
theorem ok_refuse_below_one {f : Addr} {fd : FuncData} (F : Fun K "refuse_below_one" "refuse_below_one" s_refuse_below_one f fd) : FnOk P w K mg base CX0 1 f fd ["number"] spRefuse := by
  refine F.ok (k := 0) sc_refuse_below_one (fun vs H Q E h => ?_) (fun cdv A outer s H vs Q E hr h => ?_)
  · obtain ⟨n, rfl, _⟩ := h
    rfl
  obtain ⟨n, rfl, hn, q⟩ := h
  refine ⟨_, (pss_one (ps_if (pt_cmpR op_lt (pv 0) pe_int (nomark _))
        (pss_one ps_never)
        pss_nil)), ?_⟩
  walk_at "rd"
  refine iteN (by omega) ?_
  walk_at "rd"
  exact q
theorem sc_refuse_too_long : FnScope ["size"] ["size"] (defScope s_refuse_too_long) := ⟨rfl, rfl, rfl, by decide +kernel, rfl, by decide +kernel, by decide +kernel⟩
theorem ok_refuse_too_long {f : Addr} {fd : FuncData} (F : Fun K "refuse_too_long" "refuse_too_long" s_refuse_too_long f fd) {tk_LONGEST : Tok} (m_LONGEST : mg "LONGEST" = some (.int 150000 tk_LONGEST)) : FnOk P w K mg base CX0 1 f fd ["size"] spTooLong := by
  refine F.ok (k := 0) sc_refuse_too_long (fun vs H Q E h => ?_) (fun cdv A outer s H vs Q E hr h => ?_)
  · obtain ⟨n, rfl, _⟩ := h
    rfl
  obtain ⟨n, rfl, hn, q⟩ := h
  refine ⟨_, (pss_one (ps_if (pt_cmpR op_gt (pv 0) (pe_glob rfl m_LONGEST (rel_int _ _)) (nomark _))
        (pss_one ps_never)
        pss_nil)), ?_⟩
  walk_at "rd"
  refine iteN (by omega) ?_
  walk_at "rd"
  exact q
theorem sc_equation : FnScope ["one", "other", "row", "below", "times", "rest"] ["one", "other"] (defScope s_equation) := ⟨rfl, rfl, rfl, by decide +kernel, rfl, by decide +kernel, by decide +kernel⟩
theorem ok_equation {f : Addr} {fd : FuncData} (F : Fun K "equation" "equation" s_equation f fd) : FnOk P w K mg base CX0 1 f fd ["one", "other"] spEq := by
  refine F.ok (k := 0) sc_equation (fun vs H Q E h => ?_) (fun cdv A outer s H vs Q E hr h => ?_)
  · obtain ⟨a, b, rfl, _⟩ := h
    rfl
  obtain ⟨a, b, rfl, ha, hb, q⟩ := h
  refine ⟨_, (pss_cons (ps_set (i := 2) sc_equation.nd rfl (by first | exact Or.inl rfl | exact Or.inr rfl) (pe_tup (pa_cons pe_int (pa_cons pe_int (pa_cons (pv 0) pa_nil)))))
      (pss_cons (ps_set (i := 3) sc_equation.nd rfl (by first | exact Or.inl rfl | exact Or.inr rfl) (pe_tup (pa_cons pe_int (pa_cons pe_int (pa_cons (pv 1) pa_nil)))))
      (pss_cons (ps_while PassesOwn.never (pt_cmpR op_ne (pe_ix ix_tup (pv 3) pe_int (fun _ _ => rfl)) pe_int (nomark _))
        (pss_cons (ps_set (i := 4) sc_equation.nd rfl (by first | exact Or.inl rfl | exact Or.inr rfl) (pe_op op_fdivF (pe_ix ix_tup (pv 2) pe_int (fun _ _ => rfl)) (pe_ix ix_tup (pv 3) pe_int (fun _ _ => rfl))))
      (pss_cons (ps_set (i := 5) sc_equation.nd rfl (by first | exact Or.inl rfl | exact Or.inr rfl) (pe_tup (pa_cons (pe_op op_sub (pe_ix ix_tup (pv 2) pe_int (fun _ _ => rfl)) (pe_op op_mulB (pv 4) (pe_ix ix_tup (pv 3) pe_int (fun _ _ => rfl)))) (pa_cons (pe_op op_sub (pe_ix ix_tup (pv 2) pe_int (fun _ _ => rfl)) (pe_op op_mulB (pv 4) (pe_ix ix_tup (pv 3) pe_int (fun _ _ => rfl)))) (pa_cons (pe_op op_sub (pe_ix ix_tup (pv 2) pe_int (fun _ _ => rfl)) (pe_op op_mulB (pv 4) (pe_ix ix_tup (pv 3) pe_int (fun _ _ => rfl)))) pa_nil)))))
      (pss_cons (ps_set (i := 2) sc_equation.nd rfl (by first | exact Or.inl rfl | exact Or.inr rfl) (pv 3))
      (pss_one (ps_set (i := 3) sc_equation.nd rfl (by first | exact Or.inl rfl | exact Or.inr rfl) (pv 5)))))))
      (pss_cons (ps_if (pt_cmpR op_lt (pe_ix ix_tup (pv 2) pe_int (fun _ _ => rfl)) pe_int (nomark _))
        (pss_one (ps_ret (pe_tup (pa_cons (pe_un un_neg (pe_ix ix_tup (pv 2) pe_int (fun _ _ => rfl))) (pa_cons (pe_un un_neg (pe_ix ix_tup (pv 2) pe_int (fun _ _ => rfl))) (pa_cons (pe_un un_neg (pe_ix ix_tup (pv 2) pe_int (fun _ _ => rfl))) pa_nil))))))
        pss_nil)
      (pss_one (ps_ret (pv 2))))))), ?_⟩
  walk_at "rd"
  refine ⟨three, fun p1 hp1 => ?_⟩
  walk_at "rd"
  refine ⟨three, fun p2 hp2 => ?_⟩
  walk_at "rd"
  have n12 : p1 ≠ p2 := fun z => by rw [← z, upd_same] at hp2; cases hp2
  refine ⟨fun m σ' H' => ∃ (pr pb : Addr) (u v r u' v' r' : Int) (t1 t2 : Option V), σ' = [some (.int a), some (.int b), some (.ref pr), some (.ref pb), t1, t2] ∧ Same H H' ∧
      H' pr = some (.tup [.int u, .int v, .int r]) ∧ H' pb = some (.tup [.int u', .int v', .int r']) ∧ EqI a b u v r u' v' r' ∧ m = r'.natAbs,
    ⟨_, p1, p2, 1, 0, a, 0, 1, b, none, none, rfl, (same_new hp1 _).trans (same_new hp2 _), by rw [upd_ne n12]; exact upd_same, upd_same, EqI.start a b, rfl⟩, ?_⟩
  rintro m σ' H' ⟨pr, pb, u, v, r, u', v', r', t1, t2, rfl, sm, hpr, hpb, I, rfl⟩
  have B := I.bounds
  have br := bt_le2 (m := 510) ha hb (show r.natAbs ≤ a.natAbs + b.natAbs + 4 by omega) (by decide)
  have br' := bt_le (m := 510) hb (show r'.natAbs ≤ 4 * b.natAbs + 4 by omega) (by decide)
  have bu' := bt_le (m := 510) hb (show u'.natAbs ≤ 4 * b.natAbs + 4 by omega) (by decide)
  have bv' := bt_le (m := 510) ha (show v'.natAbs ≤ 4 * a.natAbs + 4 by omega) (by decide)
  walk_at "rd"
  refine rd_ixT (SqT.of hpb) at32 ?_
  walk_at "rd"
  by_cases hz : r' = 0
  · subst hz
    refine iteNS rfl ?_
    have D := I.done
    walk_at "rd"
    refine rd_ixT (SqT.of hpr) at32 ?_
    walk_at "rd"
    refine ite2d (fun c => ?_) (fun c => ?_)
    · walk_at "rd"
      refine rd_ixT (SqT.of hpr) at30 ?_
      walk_at "rd"
      refine rd_ixT (SqT.of hpr) at31 ?_
      walk_at "rd"
      refine rd_ixT (SqT.of hpr) at32 ?_
      walk_at "rd"
      refine ⟨three, fun p hp => ?_⟩
      exact q p _ _ _ _ (sm.trans (same_new hp _)) upd_same (D.1 c)
    · walk_at "rd"
      exact q pr _ _ _ _ sm hpr (D.2 c)
  · refine iteNN (fun z => hz (V.int.inj z)) ?_
    refine ⟨_, fun σ' H' hh => hh, ?_⟩
    have St := I.step hz
    have bq := bt_le (m := 520) br (show (r.fdiv r').natAbs ≤ 4 * r.natAbs + 4 by have := quot_bound (r := r) hz; omega) (by decide)
    walk_at "rd"
    refine rd_ixT (SqT.of hpr) at32 ?_
    walk_at "rd"
    refine rd_ixT (SqT.of hpb) at32 ?_
    refine rd_i ⟨hz, br'.mono (by decide)⟩ ?_
    walk_at "rd"
    refine rd_ixT (SqT.of hpr) at30 ?_
    walk_at "rd"
    refine rd_ixT (SqT.of hpb) at30 ?_
    refine rd_i ⟨520, 510, bq, bu', by decide⟩ ?_
    walk_at "rd"
    refine rd_ixT (SqT.of hpr) at31 ?_
    walk_at "rd"
    refine rd_ixT (SqT.of hpb) at31 ?_
    refine rd_i ⟨520, 510, bq, bv', by decide⟩ ?_
    walk_at "rd"
    refine rd_ixT (SqT.of hpr) at32 ?_
    walk_at "rd"
    refine rd_ixT (SqT.of hpb) at32 ?_
    refine rd_i ⟨520, 510, bq, br', by decide⟩ ?_
    walk_at "rd"
    refine ⟨three, fun p hp => ?_⟩
    walk_at "rd"
    exact ⟨_, St.2, pb, p, u', v', r', _, _, _, _, _, rfl, sm.trans (same_new hp _), (same_new hp _) _ _ hpb, upd_same, St.1, rfl⟩
theorem sc_divisor : FnScope ["one", "other"] ["one", "other"] (defScope s_divisor) := ⟨rfl, rfl, rfl, by decide +kernel, rfl, by decide +kernel, by decide +kernel⟩
theorem ok_divisor {f : Addr} {fd : FuncData} (F : Fun K "divisor" "divisor" s_divisor f fd) (c_equation : Cal P w K mg base 1 "equation" ["one", "other"] spEq) : FnOk P w K mg base CX0 2 f fd ["one", "other"] spDivisor := by
  refine F.ok (k := 1) sc_divisor (fun vs H Q E h => ?_) (fun cdv A outer s H vs Q E hr h => ?_)
  · obtain ⟨a, b, rfl, _⟩ := h
    rfl
  obtain ⟨a, b, rfl, ha, hb, q⟩ := h
  refine ⟨_, (pss_one (ps_ret (pe_ix ix_tup (pe_cal c_equation (hr.mono (by decide)) rfl (pa_cons (pv 0) (pa_cons (pv 1) pa_nil))) pe_int (fun _ _ => rfl)))), ?_⟩
  walk_at "rd"
  refine ⟨a, b, rfl, ha, hb, fun p u v g H' sm hp e => ?_⟩
  walk_at "rd"
  refine rd_ixT (SqT.of hp) at32 ?_
  rw [e.gd]
  exact q _ sm
theorem sc_common : FnScope ["one", "other"] ["one", "other"] (defScope s_common) := ⟨rfl, rfl, rfl, by decide +kernel, rfl, by decide +kernel, by decide +kernel⟩
theorem ok_common {f : Addr} {fd : FuncData} (F : Fun K "common" "common" s_common f fd) (c_refuse_below_one : Cal P w K mg base 1 "refuse_below_one" ["number"] spRefuse) (c_divisor : Cal P w K mg base 2 "divisor" ["one", "other"] spDivisor) : FnOk P w K mg base CX0 3 f fd ["one", "other"] spCommon := by
  refine F.ok (k := 2) sc_common (fun vs H Q E h => ?_) (fun cdv A outer s H vs Q E hr h => ?_)
  · obtain ⟨a, b, rfl, _⟩ := h
    rfl
  obtain ⟨a, b, rfl, a0, b0, ha, hb, q⟩ := h
  refine ⟨_, (pss_cons (ps_expr (pe_cal c_refuse_below_one (hr.mono (by decide)) rfl (pa_cons (pv 0) pa_nil)))
      (pss_cons (ps_expr (pe_cal c_refuse_below_one (hr.mono (by decide)) rfl (pa_cons (pv 1) pa_nil)))
      (pss_one (ps_ret (pe_op op_mulB (pe_op op_fdivB (pv 0) (pe_cal c_divisor (hr.mono (by decide)) rfl (pa_cons (pv 0) (pa_cons (pv 1) pa_nil)))) (pv 1)))))), ?_⟩
  walk_at "rd"
  refine ⟨a, rfl, by omega, ?_⟩
  walk_at "rd"
  refine ⟨b, rfl, by omega, ?_⟩
  walk_at "rd"
  refine ⟨a, b, rfl, ha, hb, fun H' sm => ?_⟩
  have g0 := gcd_pos (b := b) a0
  have g1 := gcd_le (b := b) a0
  refine rd_i ⟨g0, (ha.le (x := (Int.gcd a b : Int)) (by omega)).mono (by decide)⟩ ?_
  walk_at "rd"
  have d0 : 0 ≤ a / (Int.gcd a b : Int) := Int.ediv_nonneg (by omega) (by omega)
  have d1 : a / (Int.gcd a b : Int) ≤ a := Int.ediv_le_self _ (by omega)
  refine rd_i ⟨500, 500, ha.le (by omega), hb, by decide⟩ ?_
  exact q _ sm
theorem sc_round_by : FnScope ["size", "days", "pieces", "day", "bits", "number", "place"] ["size", "days"] (defScope s_round_by) := ⟨rfl, rfl, rfl, by decide +kernel, rfl, by decide +kernel, by decide +kernel⟩
theorem ok_round_by {f : Addr} {fd : FuncData} (F : Fun K "round_by" "round_by" s_round_by f fd) (c_refuse_below_one : Cal P w K mg base 1 "refuse_below_one" ["number"] spRefuse) (c_refuse_too_long : Cal P w K mg base 1 "refuse_too_long" ["size"] spTooLong) (z_range : mg "range" = none) (z_len : mg "len" = none) {tk_PIECE : Tok} (m_PIECE : mg "PIECE" = some (.int 256 tk_PIECE)) : FnOk P w K mg base CX0 2 f fd ["size", "days"] (spRoundBy K) := by
  refine F.ok (k := 1) sc_round_by (fun vs H Q E h => ?_) (fun cdv A outer s H vs Q E hr h => ?_)
  · obtain ⟨a, ds, n, rfl, _⟩ := h
    rfl
  obtain ⟨a, ds, n, rfl, hS, n0, n1, fin⟩ := h
  refine ⟨_, (pss_cons (ps_expr (pe_cal c_refuse_below_one (hr.mono (by decide)) rfl (pa_cons (pv 0) pa_nil)))
      (pss_cons (ps_expr (pe_cal c_refuse_too_long (hr.mono (by decide)) rfl (pa_cons (pv 0) pa_nil)))
      (pss_cons (ps_set (i := 2) sc_round_by.nd rfl (by first | exact Or.inl rfl | exact Or.inr rfl) (pe_op op_rep (pe_lst (pa_cons pe_int pa_nil)) (pe_op op_add (pe_op op_fdivB (pv 0) (pe_glob rfl m_PIECE (rel_int _ _))) pe_int)))
      (pss_cons (ps_for PassesOwn.never rfl (pi_list (pv 1)) (pg_name (i := 3) sc_round_by.nd rfl (by first | exact Or.inl rfl | exact Or.inr rfl))
        (pss_cons (ps_set (i := 6) sc_round_by.nd rfl (by first | exact Or.inl rfl | exact Or.inr rfl) (pe_op op_mod (pv 3) (pv 0)))
      (pss_one (ps_asg (pe_op op_or (pe_ix ix_list (pv 2) (pe_op op_fdivB (pv 6) (pe_glob rfl m_PIECE (rel_int _ _))) (fun _ _ => rfl)) (pe_op op_shlB pe_int (pe_op op_mod (pv 6) (pe_glob rfl m_PIECE (rel_int _ _))))) (pg_sub (pv 2) (pe_op op_fdivB (pv 6) (pe_glob rfl m_PIECE (rel_int _ _))) set_list)))))
      (pss_cons (ps_set (i := 4) sc_round_by.nd rfl (by first | exact Or.inl rfl | exact Or.inr rfl) pe_int)
      (pss_cons (ps_for PassesOwn.never rfl (pi_range1 rfl z_range (pa_cons (pe_callB call_len_seq rfl z_len PySem.boot_len (pa_cons (pv 2) pa_nil)) pa_nil)) (pg_name (i := 5) sc_round_by.nd rfl (by first | exact Or.inl rfl | exact Or.inr rfl))
        (pss_one (ps_set (i := 4) sc_round_by.nd rfl (by first | exact Or.inl rfl | exact Or.inr rfl) (pe_op op_or (pv 4) (pe_op op_shlB (pe_ix ix_list (pv 2) (pv 5) (fun _ _ => rfl)) (pe_op op_mulB (pv 5) (pe_glob rfl m_PIECE (rel_int _ _))))))))
      (pss_one (ps_ret (pe_tup (pa_cons (pv 0) (pa_cons (pv 4) pa_nil))))))))))), ?_⟩
  walk_at "rdx"
  refine ⟨n, rfl, by omega, ?_⟩
  walk_at "rdx"
  refine ⟨n, rfl, n1, ?_⟩
  walk_at "rdx"
  refine ⟨(by show 1 ≤ sizeLine; decide), fun l0 hl0 => ?_⟩
  walk_at "rdx"
  refine rd_rep upd_same (by omega) (by omega) (by show 1 * _ ≤ sizeLine; unfold sizeLine; omega) (fun l hl => ?_)
  have s0 := same_new hl0 (.lst [.int 0])
  have s1 := s0.trans (same_new hl (.lst (List.replicate (n / 256 + 1).toNat [V.int 0]).flatten))
  have t1 : upd (upd H l0 (.lst [.int 0])) l (.lst (List.replicate (n / 256 + 1).toNat [V.int 0]).flatten) l = some (.lst (pcsV 0 (n / 256 + 1).toNat)) := by rw [upd_same, pcsV_zero]
  have hl' : H l = none := s0.free hl
  generalize upd (upd H l0 (.lst [.int 0])) l (.lst (List.replicate (n / 256 + 1).toNat [V.int 0]).flatten) = H1 at s1 t1 ⊢
  generalize hk : (n / 256 + 1).toNat = k at t1
  walk_at "rdx"
  refine ⟨_, rfl, a, rfl, ⟨_, s1.seq hS⟩, for_list (xs := ds.map V.int) (fun i σ' H' => Same H H' ∧ ∃ (b : Nat) (c c' : Option V), H' l = some (.lst (pcsV b k)) ∧ σ' = [some (.int n), some (.ref a), some (.ref l), c, none, none, c'] ∧ RB n (ds.take i) b) ⟨s1, 0, none, none, t1, rfl, ?_⟩ ?_ ?_ ?_⟩
  · simpa using RB.nil n
  · rintro i σ' H' _ ⟨s, _⟩
    exact s.seq hS
  · rintro i x σ' H' hx ⟨s, b, c, c', t, rfl, B⟩
    rw [List.getElem?_map] at hx
    obtain ⟨d, hd, rfl⟩ := Option.map_eq_some_iff.mp hx
    have m0 := Int.emod_nonneg d (show n ≠ 0 by omega)
    have m1 := Int.emod_lt_of_pos d (show 0 < n by omega)
    walk_at "rdx"
    have B' := B.snoc (x := d) (by omega)
    obtain ⟨p, hp⟩ : ∃ p : Nat, d % n = (p : Int) := ⟨(d % n).toNat, by omega⟩
    rw [hp, Int.toNat_natCast] at B'
    rw [hp] at m1 ⊢
    have e1 : (p : Int) / 256 = ((p / 256 : Nat) : Int) := by omega
    have e2 : (p : Int) % 256 = ((p % 256 : Nat) : Int) := by omega
    rw [e1]
    have pk : p / 256 < k := by omega
    refine rd_ixL (SqL.of t) (atI_nat (pcsV_at pk)) ?_
    walk_at "rdx"
    rw [e2]
    refine rd_i ⟨by omega, 1, bt1, by omega⟩ ?_
    walk_at "rdx"
    rw [Int.toNat_natCast, pow_cast, bitOr_nat]
    try rw [e1]
    refine rd_setL t (by rw [pcsV_len]; exact pk) ?_
    rw [pcsV_set pk]
    refine ⟨same_app hl' s, _, _, _, upd_same, rfl, ?_⟩
    rw [List.take_add_one, hd]
    exact B'
  · rintro σ' H2 ⟨s2, b, c, c', t2, rfl, B⟩
    rw [List.length_map, List.take_length] at B
    walk_at "rdx"
    walk_at "rdf"
    walk_at "rdx"
    refine ⟨l, _, rfl, .inl (SqL.of t2), ?_⟩
    walk_at "rdx"
    rw [pcsV_len]
    refine ⟨(k : Int), rfl, by omega, by omega, for_range (n := ((k : Int)).toNat) (fun i σ' H' => H' = H2 ∧ ∃ (c1 : Option V), σ' = [some (.int n), some (.ref a), some (.ref l), c, some (.int ((b % 2 ^ (256 * i) : Nat) : Int)), c1, c'] ∧ i ≤ k) ⟨rfl, none, ?_, by omega⟩ ?_ ?_⟩
    · rw [Nat.mul_zero, Nat.pow_zero, Nat.mod_one]
      rfl
    · rintro i σ' H' hi ⟨rfl, c1, rfl, _⟩
      have ik : i < k := by omega
      walk_at "rdx"
      rw [Int.zero_add]
      refine rd_ixL (SqL.of t2) (atI_nat (pcsV_at ik)) ?_
      walk_at "rdx"
      refine rd_i ⟨20, 10, bt_nat (by omega), (by unfold Bt; decide), by decide⟩ ?_
      walk_at "rdx"
      refine rd_i ⟨by omega, 256, bt_nat (pc_lt _ _), by omega⟩ ?_
      walk_at "rdx"
      rw [show ((i : Int) * 256).toNat = 256 * i by omega, shl_cast, bitOr_nat, pc_join]
      exact ⟨rfl, _, rfl, by omega⟩
    · rintro σ' H' ⟨rfl, c1, rfl, _⟩
      walk_at "rdx"
      have e : 256 * ((k : Int)).toNat = 256 * (n / 256 + 1).toNat := by omega
      rw [e, rb_bits (by omega) B.lt]
      refine ⟨two', fun p hp => ?_⟩
      exact fin p b _ (s2.trans (same_new hp _)) upd_same B
theorem sc_full_bits : FnScope ["size"] ["size"] (defScope s_full_bits) := ⟨rfl, rfl, rfl, by decide +kernel, rfl, by decide +kernel, by decide +kernel⟩
theorem ok_full_bits {f : Addr} {fd : FuncData} (F : Fun K "full_bits" "full_bits" s_full_bits f fd) : FnOk P w K mg base CX0 1 f fd ["size"] spFull := by
  refine F.ok (k := 0) sc_full_bits (fun vs H Q E h => ?_) (fun cdv A outer s H vs Q E hr h => ?_)
  · obtain ⟨n, rfl, _⟩ := h
    rfl
  obtain ⟨n, rfl, h0, h1, q⟩ := h
  refine ⟨_, (pss_one (ps_ret (pe_op op_sub (pe_op op_shlB pe_int (pv 0)) pe_int))), ?_⟩
  walk_at "rd"
  refine rd_i ⟨h0, 1, (by unfold Bt; decide), by omega⟩ ?_
  walk_at "rd"
  rw [full_cast]
  exact q
theorem sc_on : FnScope ["turn", "day"] ["turn", "day"] (defScope s_on) := ⟨rfl, rfl, rfl, by decide +kernel, rfl, by decide +kernel, by decide +kernel⟩
theorem ok_on {f : Addr} {fd : FuncData} (F : Fun K "on" "on" s_on f fd) : FnOk P w K mg base CX0 1 f fd ["turn", "day"] (spOn K) := by
  refine F.ok (k := 0) sc_on (fun vs H Q E h => ?_) (fun cdv A outer s H vs Q E hr h => ?_)
  · obtain ⟨a, n, d, b, rfl, _⟩ := h
    rfl
  obtain ⟨a, n, d, b, rfl, hS, h0, q⟩ := h
  refine ⟨_, (pss_one (ps_ret (pe_cmpR op_eq (pe_op op_and (pe_op op_shr (pe_ix ix_tup (pv 0) pe_int (fun _ _ => rfl)) (pe_op op_mod (pv 1) (pe_ix ix_tup (pv 0) pe_int (fun _ _ => rfl)))) pe_int) pe_int (nomark _)))), ?_⟩
  walk_at "rd"
  refine rd_ixT hS at1 ?_
  walk_at "rd"
  refine rd_ixT hS at0 ?_
  refine rd_i h0 ?_
  walk_at "rd"
  refine rd_i (show (0 : Int) ≤ d % n from Int.emod_nonneg d (by omega)) ?_
  walk_at "rd"
  rw [and_one]
  exact q
theorem sc_days_in : FnScope ["turn", "days", "first", "piece"] ["turn"] (defScope s_days_in) := ⟨rfl, rfl, rfl, by decide +kernel, rfl, by decide +kernel, by decide +kernel⟩
theorem ok_days_in {f : Addr} {fd : FuncData} (F : Fun K "days_in" "days_in" s_days_in f fd) (c_full_bits : Cal P w K mg base 1 "full_bits" ["size"] spFull) (z_range : mg "range" = none) {tk_PIECE : Tok} (m_PIECE : mg "PIECE" = some (.int 256 tk_PIECE)) : FnOk P w K mg base CX0 2 f fd ["turn"] (spDaysIn K) := by
  refine F.ok (k := 1) sc_days_in (fun vs H Q E h => ?_) (fun cdv A outer s H vs Q E hr h => ?_)
  · obtain ⟨a, n, b, rfl, _⟩ := h
    rfl
  obtain ⟨a, n, b, rfl, hS, h0, h1, hb, q⟩ := h
  refine ⟨_, (pss_cons (ps_set (i := 1) sc_days_in.nd rfl (by first | exact Or.inl rfl | exact Or.inr rfl) (pe_lst pa_nil))
      (pss_cons (ps_for PassesOwn.never rfl (pi_range3 rfl z_range (pa_cons pe_int (pa_cons (pe_ix ix_tup (pv 0) pe_int (fun _ _ => rfl)) (pa_cons (pe_glob rfl m_PIECE (rel_int _ _)) pa_nil)))) (pg_name (i := 2) sc_days_in.nd rfl (by first | exact Or.inl rfl | exact Or.inr rfl))
        (pss_cons (ps_set (i := 3) sc_days_in.nd rfl (by first | exact Or.inl rfl | exact Or.inr rfl) (pe_op op_and (pe_op op_shr (pe_ix ix_tup (pv 0) pe_int (fun _ _ => rfl)) (pv 2)) (pe_cal c_full_bits (hr.mono (by decide)) rfl (pa_cons (pe_glob rfl m_PIECE (rel_int _ _)) pa_nil))))
      (pss_one (ps_cut (ps_if (pt_cmpR op_gt (pv 3) pe_int (nomark _))
        (pss_one (ps_expr (pe_bm PySem.F.plainAttrs_list PySem.F.slot_list_extend PySem.F.type_list_extend mt_extend (pv 1) (pa_cons (pe_comp rfl (compOk_freeM ["turn", "days", "first", "piece"] ["turn", "days", "first", "piece"] rfl rfl (by with_unfolding_all rfl) (by decide +kernel) rfl (by decide +kernel) rfl (by decide +kernel) (by walk_at "fm") (by with_unfolding_all rfl) (by with_unfolding_all rfl)) (pi_range1 rfl z_range (pa_cons (pe_glob rfl m_PIECE (rel_int _ _)) pa_nil)) (fun _ _ _ _ => (pifs_one (pt_tru (pe_op op_and (pe_op op_shr (pv 4) (pv 0)) pe_int) (fun _ => rfl)))) (fun _ _ _ _ => (pe_op op_add (pv 3) (pv 0)))) pa_nil))))
        pss_nil)))))
      (pss_one (ps_ret (pv 1))))), ?_⟩
  walk_at "rd"
  refine ⟨(by show 0 ≤ sizeLine; decide), fun l hl => ?_⟩
  have s1 := same_new hl (.lst [])
  have t1 : upd H l (.lst []) l = some (.lst ((dli b (256 * 0)).map V.int)) := upd_same
  generalize upd H l (.lst []) = H1 at s1 t1 ⊢
  have hS1 := s1.tup hS
  walk_at "rd"
  walk_at "rdf"
  walk_at "rd"
  refine rd_ixT hS1 at0 ?_
  walk_at "rd"
  refine ⟨0, n, 256, rfl, by decide, by decide, small_step (by decide) (by decide) (by omega) (by omega) (by decide) (by decide), ((n - 1) / 256 + 1).toNat, ?_, ?_⟩
  · rw [rangeSize_up (by decide), if_pos h0, show n - 0 - 1 = n - 1 by omega]
    omega
  refine for_rangeS (fun i σ' H' => Same H H' ∧ H' l = some (.lst ((dli b (256 * i)).map V.int)) ∧ ∃ c c' : Option V, σ' = [some (.ref a), some (.ref l), c, c'] ∧ i ≤ 700) ⟨s1, t1, none, none, rfl, by decide⟩ ?_ ?_
  · rintro i σ' H2 hi ⟨s2, t2, c, c', rfl, _⟩
    have hS2 := s2.tup hS
    have i1 : i < 700 := by omega
    rw [show (0 : Int) + (i : Int) * 256 = ((256 * i : Nat) : Int) by omega]
    generalize hm : 256 * i = m at *
    walk_at "rd"
    refine rd_ixT hS2 at1 ?_
    walk_at "rd"
    refine rd_i (show (0 : Int) ≤ (m : Int) by omega) ?_
    walk_at "rd"
    refine ⟨256, rfl, by decide, by decide, ?_⟩
    walk_at "rd"
    rw [Int.toNat_natCast, shr_cast, bitAnd_nat, Nat.and_two_pow_sub_one_eq_mod, Nat.shiftRight_eq_div_pow, show (256 : Int).toNat = 256 from rfl]
    refine rd_cut (fun σ' H' => Same H H' ∧ H' l = some (.lst ((dli b (256 * (i + 1))).map V.int)) ∧ ∃ c c' : Option V, σ' = [some (.ref a), some (.ref l), c, c'] ∧ i + 1 ≤ 700) ?_ (fun σ' H' h => h)
    walk_at "rd"
    refine ite2d (fun _ => ?_) (fun p0 => ?_)
    rotate_left
    · walk_at "rd"
      refine ⟨s2, ?_, _, _, rfl, by omega⟩
      rw [t2, show 256 * (i + 1) = m + 256 by omega, ← dli_step]
      have : ((((List.range 256).map fun i => V.int (0 + (i : Nat)))).filter fun v => match v with | .int d => b.testBit (m + d.toNat) | _ => false) = [] := by
        rw [List.filter_eq_nil_iff]
        intro v hv
        obtain ⟨j, hj, rfl⟩ := List.mem_map.mp hv
        have hj' : j < 256 := List.mem_range.mp hj
        show ¬ b.testBit (m + (0 + (j : Int)).toNat) = true
        rw [show (0 + (j : Int)).toNat = j by omega]
        have e : (b / 2 ^ m % 2 ^ 256).testBit j = b.testBit (m + j) := by
          rw [Nat.testBit_mod_two_pow, ← Nat.shiftRight_eq_div_pow, Nat.testBit_shiftRight, decide_eq_true hj', Bool.true_and]
        rw [← e, show b / 2 ^ m % 2 ^ 256 = 0 by omega, Nat.zero_testBit]
        exact Bool.false_ne_true
      rw [this, List.map_nil, List.append_nil]
    walk_at "rd"
    refine rd_ext rfl t2 ?_
    walk_at "rd"
    refine rd_comp (rd_rng1 ?_)
    walk_at "rd"
    refine ⟨256, rfl, by decide, by decide, ?_⟩
    refine comp_go walk_r ?_ (fun _ _ _ => trivial) (fun v => match v with | .int d => b.testBit (m + d.toNat) | _ => false) (fun v => match v with | .int d => V.int ((m : Int) + d) | _ => .non) (fun x hx D ys Q' hD h => ?_) (fun x hx _ D ys Q' hD h => ?_) (fun D hD => ?_)
    · rw [List.length_map, List.length_range]
      exact small1000 (by decide)
    · obtain ⟨j, hj, rfl⟩ := List.mem_map.mp hx
      have hj' : j < 256 := List.mem_range.mp hj
      walk_at "rd"
      refine rd_i (show (0 : Int) ≤ 0 + (j : Int) by omega) ?_
      walk_at "rd"
      rw [show (0 + (j : Int)).toNat = j by omega, piece_bit, decide_eq_true hj', Bool.true_and]
      replace h : Q' (b.testBit (m + (0 + (j : Int)).toNat)) _ := h
      rw [show (0 + (j : Int)).toNat = j by omega] at h
      exact h
    · obtain ⟨j, hj, rfl⟩ := List.mem_map.mp hx
      walk_at "rd"
      exact h
    have s3 := same_new hD (.lst ((((List.range (Int.toNat 256)).map fun i => V.int (0 + (i : Nat))).filter fun v => match v with | .int d => b.testBit (m + d.toNat) | _ => false).map fun v => match v with | .int d => V.int ((m : Int) + d) | _ => .non))
    walk_at "rd"
    refine ⟨l, D, _, _, rfl, rfl, s3 _ _ t2, upd_same, ?_, ?_⟩
    · rw [List.length_map, List.length_map]
      refine Nat.le_trans (Nat.add_le_add (dli_len _ _) (List.length_filter_le _ _)) ?_
      rw [List.length_map, List.length_range]
      exact Nat.le_trans (show m + Int.toNat 256 ≤ 200000 by have : Int.toNat 256 = 256 := rfl; omega) (by decide)
    walk_at "rd"
    refine ⟨same_app hl (s2.trans s3), ?_, _, _, rfl, by omega⟩
    rw [upd_same, show Int.toNat 256 = 256 from rfl, dli_step, show 256 * (i + 1) = m + 256 by omega]
  · rintro σ' H2 ⟨s2, t2, c, c', rfl, _⟩
    walk_at "rd"
    refine q l _ hl s2 ?_
    rw [t2]
    unfold dli
    obtain ⟨k, hk⟩ : ∃ k, 256 * ((n - 1) / 256 + 1).toNat = n.toNat + k := ⟨256 * ((n - 1) / 256 + 1).toNat - n.toNat, by omega⟩
    rw [hk, dl_over hb]
theorem sc_bits_by : FnScope ["turn", "size", "bits", "width"] ["turn", "size"] (defScope s_bits_by) := ⟨rfl, rfl, rfl, by decide +kernel, rfl, by decide +kernel, by decide +kernel⟩
theorem ok_bits_by {f : Addr} {fd : FuncData} (F : Fun K "bits_by" "bits_by" s_bits_by f fd) (c_full_bits : Cal P w K mg base 1 "full_bits" ["size"] spFull) : FnOk P w K mg base CX0 2 f fd ["turn", "size"] (spBitsByL K) := by
  refine F.ok (k := 1) sc_bits_by (fun vs H Q E h => ?_) (fun cdv A outer s H vs Q E hr h => ?_)
  · obtain ⟨a, n, z, b, rfl, _⟩ := h
    rfl
  obtain ⟨a, n, z, b, rfl, hS, h0, h1, hb, z0, z1, q⟩ := h
  refine ⟨_, (pss_cons (ps_set (i := 2) sc_bits_by.nd rfl (by first | exact Or.inl rfl | exact Or.inr rfl) (pe_ix ix_tup (pv 0) pe_int (fun _ _ => rfl)))
      (pss_cons (ps_set (i := 3) sc_bits_by.nd rfl (by first | exact Or.inl rfl | exact Or.inr rfl) (pe_ix ix_tup (pv 0) pe_int (fun _ _ => rfl)))
      (pss_cons (ps_while PassesOwn.never (pt_cmpR op_lt (pv 3) (pv 1) (nomark _))
        (pss_cons (ps_set (i := 2) sc_bits_by.nd rfl (by first | exact Or.inl rfl | exact Or.inr rfl) (pe_op op_or (pv 2) (pe_op op_shlB (pv 2) (pv 3))))
      (pss_one (ps_set (i := 3) sc_bits_by.nd rfl (by first | exact Or.inl rfl | exact Or.inr rfl) (pe_op op_mulB (pv 3) pe_int)))))
      (pss_one (ps_ret (pe_op op_and (pv 2) (pe_cal c_full_bits (hr.mono (by decide)) rfl (pa_cons (pv 1) pa_nil)))))))), ?_⟩
  walk_at "rd"
  refine rd_ixT hS at1 ?_
  walk_at "rd"
  refine rd_ixT hS at0 ?_
  walk_at "rd"
  refine ⟨fun m σ' H' => H' = H ∧ ∃ wd c : Nat, σ' = [some (.ref a), some (.int z), some (.int (c : Int)), some (.int (wd : Int))] ∧ n.toNat ∣ wd ∧ 0 < wd ∧ wd ≤ 300000 ∧ Strt n.toNat b wd c ∧ m = z.toNat - wd,
    ⟨_, rfl, n.toNat, b, ?_, Nat.dvd_refl _, by omega, by omega, Strt.start hb, rfl⟩, ?_⟩
  · have e : ((n.toNat : Nat) : Int) = n := by omega
    rw [e]
    rfl
  rintro m σ' H' ⟨rfl, wd, c, rfl, hd, w0, w1, S, rfl⟩
  walk_at "rd"
  refine ite2d (fun cc => ?_) (fun cc => ?_)
  · refine ⟨_, fun σ' H' hh => hh, ?_⟩
    walk_at "rd"
    refine rd_i ⟨by omega, wd, bt_nat S.lt, by omega⟩ ?_
    walk_at "rd"
    refine rd_i ⟨20, 2, bt_nat (by omega), (by unfold Bt; decide), by decide⟩ ?_
    walk_at "rd"
    rw [Int.toNat_natCast, shl_cast, bitOr_nat]
    refine ⟨z.toNat - wd * 2, by omega, rfl, wd * 2, c ||| (c <<< wd), ?_, Nat.dvd_trans hd (Nat.dvd_mul_right _ _), by omega, by omega, S.dbl hd, rfl⟩
    rfl
  · walk_at "rd"
    refine ⟨z, rfl, by omega, by omega, ?_⟩
    walk_at "rd"
    rw [bitAnd_nat]
    exact q _ (S.cut (by omega))
theorem sc_stretched : FnScope ["turn", "size"] ["turn", "size"] (defScope s_stretched) := ⟨rfl, rfl, rfl, by decide +kernel, rfl, by decide +kernel, by decide +kernel⟩
theorem ok_stretched {f : Addr} {fd : FuncData} (F : Fun K "stretched" "stretched" s_stretched f fd) (c_refuse_below_one : Cal P w K mg base 1 "refuse_below_one" ["number"] spRefuse) (c_refuse_too_long : Cal P w K mg base 1 "refuse_too_long" ["size"] spTooLong) (c_bits_by : Cal P w K mg base 2 "bits_by" ["turn", "size"] (spBitsByL K)) : FnOk P w K mg base CX0 3 f fd ["turn", "size"] (spStretched K) := by
  refine F.ok (k := 2) sc_stretched (fun vs H Q E h => ?_) (fun cdv A outer s H vs Q E hr h => ?_)
  · obtain ⟨a, n, z, b, rfl, _⟩ := h
    rfl
  obtain ⟨a, n, z, b, rfl, hS, h0, h1, hb, z0, z1, hd, q⟩ := h
  refine ⟨_, (pss_cons (ps_expr (pe_cal c_refuse_below_one (hr.mono (by decide)) rfl (pa_cons (pv 1) pa_nil)))
      (pss_cons (ps_if (pt_cmpR op_ne (pe_op op_mod (pv 1) (pe_ix ix_tup (pv 0) pe_int (fun _ _ => rfl))) pe_int (nomark _))
        (pss_one ps_never)
        pss_nil)
      (pss_cons (ps_expr (pe_cal c_refuse_too_long (hr.mono (by decide)) rfl (pa_cons (pv 1) pa_nil)))
      (pss_one (ps_ret (pe_tup (pa_cons (pv 1) (pa_cons (pe_cal c_bits_by (hr.mono (by decide)) rfl (pa_cons (pv 0) (pa_cons (pv 1) pa_nil))) pa_nil)))))))), ?_⟩
  walk_at "rd"
  refine ⟨z, rfl, by omega, ?_⟩
  walk_at "rd"
  refine rd_ixT hS at0 ?_
  refine rd_i h0 ?_
  walk_at "rd"
  rw [Int.emod_eq_zero_of_dvd hd]
  refine iteNS rfl ?_
  walk_at "rd"
  refine ⟨z, rfl, z1, ?_⟩
  walk_at "rd"
  refine ⟨a, n, z, b, rfl, hS, h0, (by omega), hb, z0, z1, fun c S => ?_⟩
  walk_at "rd"
  exact ⟨(by show 2 ≤ sizeLine; decide), fun p hp => q p c hp S⟩
theorem sc_common_size : FnScope ["one", "other", "size"] ["one", "other"] (defScope s_common_size) := ⟨rfl, rfl, rfl, by decide +kernel, rfl, by decide +kernel, by decide +kernel⟩
theorem ok_common_size {f : Addr} {fd : FuncData} (F : Fun K "common_size" "common_size" s_common_size f fd) (c_common : Cal P w K mg base 3 "common" ["one", "other"] spCommon) (c_refuse_too_long : Cal P w K mg base 1 "refuse_too_long" ["size"] spTooLong) : FnOk P w K mg base CX0 4 f fd ["one", "other"] (spCS K) := by
  refine F.ok (k := 3) sc_common_size (fun vs H Q E h => ?_) (fun cdv A outer s H vs Q E hr h => ?_)
  · obtain ⟨a1, a2, n1, n2, b1, b2, rfl, _⟩ := h
    rfl
  obtain ⟨a1, a2, n1, n2, b1, b2, rfl, S1, S2, p1, p2, l1, l2, lz, q⟩ := h
  refine ⟨_, (pss_cons (ps_set (i := 2) sc_common_size.nd rfl (by first | exact Or.inl rfl | exact Or.inr rfl) (pe_cal c_common (hr.mono (by decide)) rfl (pa_cons (pe_ix ix_tup (pv 0) pe_int (fun _ _ => rfl)) (pa_cons (pe_ix ix_tup (pv 1) pe_int (fun _ _ => rfl)) pa_nil))))
      (pss_cons (ps_expr (pe_cal c_refuse_too_long (hr.mono (by decide)) rfl (pa_cons (pv 2) pa_nil)))
      (pss_one (ps_ret (pv 2))))), ?_⟩
  walk_at "rd"
  refine rd_ixT S1 at0 ?_
  walk_at "rd"
  refine rd_ixT S2 at0 ?_
  walk_at "rd"
  refine ⟨n1, n2, rfl, p1, p2, bt_small (by omega) (by omega) (by decide), bt_small (by omega) (by omega) (by decide), fun H1 s1 => ?_⟩
  walk_at "rd"
  refine ⟨_, rfl, lz, ?_⟩
  walk_at "rd"
  exact q _ s1
theorem sc_both : FnScope ["one", "other", "size"] ["one", "other"] (defScope s_both) := ⟨rfl, rfl, rfl, by decide +kernel, rfl, by decide +kernel, by decide +kernel⟩
theorem ok_both {f : Addr} {fd : FuncData} (F : Fun K "both" "both" s_both f fd) (c_common_size : Cal P w K mg base 4 "common_size" ["one", "other"] (spCS K)) (c_bits_by : Cal P w K mg base 2 "bits_by" ["turn", "size"] (spBitsByL K)) : FnOk P w K mg base CX0 5 f fd ["one", "other"] (spBo K and) := by
  refine F.ok (k := 4) sc_both (fun vs H Q E h => ?_) (fun cdv A outer s H vs Q E hr h => ?_)
  · obtain ⟨a1, a2, n1, n2, b1, b2, rfl, _⟩ := h
    rfl
  obtain ⟨a1, a2, n1, n2, b1, b2, rfl, S1, S2, p1, p2, l1, l2, lz, k1, k2, q⟩ := h
  have fl := lcmI_facts p1 p2
  refine ⟨_, (pss_cons (ps_set (i := 2) sc_both.nd rfl (by first | exact Or.inl rfl | exact Or.inr rfl) (pe_cal c_common_size (hr.mono (by decide)) rfl (pa_cons (pv 0) (pa_cons (pv 1) pa_nil))))
      (pss_one (ps_ret (pe_tup (pa_cons (pv 2) (pa_cons (pe_op op_and (pe_cal c_bits_by (hr.mono (by decide)) rfl (pa_cons (pv 0) (pa_cons (pv 2) pa_nil))) (pe_cal c_bits_by (hr.mono (by decide)) rfl (pa_cons (pv 1) (pa_cons (pv 2) pa_nil)))) pa_nil)))))), ?_⟩
  walk_at "rd"
  refine ⟨a1, a2, n1, n2, b1, b2, rfl, S1, S2, p1, p2, l1, l2, lz, fun H1 s1 => ?_⟩
  walk_at "rd"
  refine ⟨a1, n1, _, b1, rfl, s1.tup S1, p1, (by omega), k1, fl.1, lz, fun c1 T1 => ?_⟩
  walk_at "rd"
  refine ⟨a2, n2, _, b2, rfl, s1.tup S2, p2, (by omega), k2, fl.1, lz, fun c2 T2 => ?_⟩
  walk_at "rd"
  rw [bitAnd_nat]
  refine ⟨two, fun p hp => ?_⟩
  exact q p _ _ (s1.trans (same_new hp _)) upd_same (Bo.mk' (fun x y i => Nat.testBit_and x y i) (fun x y k h1 h2 => Nat.and_lt_two_pow x h2) T1 T2)
theorem sc_either : FnScope ["one", "other", "size"] ["one", "other"] (defScope s_either) := ⟨rfl, rfl, rfl, by decide +kernel, rfl, by decide +kernel, by decide +kernel⟩
theorem ok_either {f : Addr} {fd : FuncData} (F : Fun K "either" "either" s_either f fd) (c_common_size : Cal P w K mg base 4 "common_size" ["one", "other"] (spCS K)) (c_bits_by : Cal P w K mg base 2 "bits_by" ["turn", "size"] (spBitsByL K)) : FnOk P w K mg base CX0 5 f fd ["one", "other"] (spBo K or) := by
  refine F.ok (k := 4) sc_either (fun vs H Q E h => ?_) (fun cdv A outer s H vs Q E hr h => ?_)
  · obtain ⟨a1, a2, n1, n2, b1, b2, rfl, _⟩ := h
    rfl
  obtain ⟨a1, a2, n1, n2, b1, b2, rfl, S1, S2, p1, p2, l1, l2, lz, k1, k2, q⟩ := h
  have fl := lcmI_facts p1 p2
  refine ⟨_, (pss_cons (ps_set (i := 2) sc_either.nd rfl (by first | exact Or.inl rfl | exact Or.inr rfl) (pe_cal c_common_size (hr.mono (by decide)) rfl (pa_cons (pv 0) (pa_cons (pv 1) pa_nil))))
      (pss_one (ps_ret (pe_tup (pa_cons (pv 2) (pa_cons (pe_op op_or (pe_cal c_bits_by (hr.mono (by decide)) rfl (pa_cons (pv 0) (pa_cons (pv 2) pa_nil))) (pe_cal c_bits_by (hr.mono (by decide)) rfl (pa_cons (pv 1) (pa_cons (pv 2) pa_nil)))) pa_nil)))))), ?_⟩
  walk_at "rd"
  refine ⟨a1, a2, n1, n2, b1, b2, rfl, S1, S2, p1, p2, l1, l2, lz, fun H1 s1 => ?_⟩
  walk_at "rd"
  refine ⟨a1, n1, _, b1, rfl, s1.tup S1, p1, (by omega), k1, fl.1, lz, fun c1 T1 => ?_⟩
  walk_at "rd"
  refine ⟨a2, n2, _, b2, rfl, s1.tup S2, p2, (by omega), k2, fl.1, lz, fun c2 T2 => ?_⟩
  walk_at "rd"
  rw [bitOr_nat]
  refine ⟨two, fun p hp => ?_⟩
  exact q p _ _ (s1.trans (same_new hp _)) upd_same (Bo.mk' (fun x y i => Nat.testBit_or x y i) (fun x y k h1 h2 => Nat.or_lt_two_pow h1 h2) T1 T2)
theorem sc_unlike : FnScope ["one", "other", "size"] ["one", "other"] (defScope s_unlike) := ⟨rfl, rfl, rfl, by decide +kernel, rfl, by decide +kernel, by decide +kernel⟩
theorem ok_unlike {f : Addr} {fd : FuncData} (F : Fun K "unlike" "unlike" s_unlike f fd) (c_common_size : Cal P w K mg base 4 "common_size" ["one", "other"] (spCS K)) (c_bits_by : Cal P w K mg base 2 "bits_by" ["turn", "size"] (spBitsByL K)) : FnOk P w K mg base CX0 5 f fd ["one", "other"] (spBo K bne) := by
  refine F.ok (k := 4) sc_unlike (fun vs H Q E h => ?_) (fun cdv A outer s H vs Q E hr h => ?_)
  · obtain ⟨a1, a2, n1, n2, b1, b2, rfl, _⟩ := h
    rfl
  obtain ⟨a1, a2, n1, n2, b1, b2, rfl, S1, S2, p1, p2, l1, l2, lz, k1, k2, q⟩ := h
  have fl := lcmI_facts p1 p2
  refine ⟨_, (pss_cons (ps_set (i := 2) sc_unlike.nd rfl (by first | exact Or.inl rfl | exact Or.inr rfl) (pe_cal c_common_size (hr.mono (by decide)) rfl (pa_cons (pv 0) (pa_cons (pv 1) pa_nil))))
      (pss_one (ps_ret (pe_tup (pa_cons (pv 2) (pa_cons (pe_op op_xor (pe_cal c_bits_by (hr.mono (by decide)) rfl (pa_cons (pv 0) (pa_cons (pv 2) pa_nil))) (pe_cal c_bits_by (hr.mono (by decide)) rfl (pa_cons (pv 1) (pa_cons (pv 2) pa_nil)))) pa_nil)))))), ?_⟩
  walk_at "rd"
  refine ⟨a1, a2, n1, n2, b1, b2, rfl, S1, S2, p1, p2, l1, l2, lz, fun H1 s1 => ?_⟩
  walk_at "rd"
  refine ⟨a1, n1, _, b1, rfl, s1.tup S1, p1, (by omega), k1, fl.1, lz, fun c1 T1 => ?_⟩
  walk_at "rd"
  refine ⟨a2, n2, _, b2, rfl, s1.tup S2, p2, (by omega), k2, fl.1, lz, fun c2 T2 => ?_⟩
  walk_at "rd"
  rw [bitXor_nat]
  refine ⟨two, fun p hp => ?_⟩
  exact q p _ _ (s1.trans (same_new hp _)) upd_same (Bo.mk' (fun x y i => Nat.testBit_xor x y i) (fun x y k h1 h2 => Nat.xor_lt_two_pow h1 h2) T1 T2)
theorem sc_other_days : FnScope ["turn"] ["turn"] (defScope s_other_days) := ⟨rfl, rfl, rfl, by decide +kernel, rfl, by decide +kernel, by decide +kernel⟩
theorem ok_other_days {f : Addr} {fd : FuncData} (F : Fun K "other_days" "other_days" s_other_days f fd) (c_full_bits : Cal P w K mg base 1 "full_bits" ["size"] spFull) : FnOk P w K mg base CX0 2 f fd ["turn"] (spOtherC K) := by
  refine F.ok (k := 1) sc_other_days (fun vs H Q E h => ?_) (fun cdv A outer s H vs Q E hr h => ?_)
  · obtain ⟨a, n, b, rfl, _⟩ := h
    rfl
  obtain ⟨a, n, b, rfl, S, n0, n1, hb, q⟩ := h
  refine ⟨_, (pss_one (ps_ret (pe_tup (pa_cons (pe_ix ix_tup (pv 0) pe_int (fun _ _ => rfl)) (pa_cons (pe_op op_xor (pe_ix ix_tup (pv 0) pe_int (fun _ _ => rfl)) (pe_cal c_full_bits (hr.mono (by decide)) rfl (pa_cons (pe_ix ix_tup (pv 0) pe_int (fun _ _ => rfl)) pa_nil))) pa_nil))))), ?_⟩
  walk_at "rd"
  refine rd_ixT S at0 ?_
  walk_at "rd"
  refine rd_ixT S at1 ?_
  walk_at "rd"
  refine rd_ixT S at0 ?_
  walk_at "rd"
  refine ⟨n, rfl, by omega, by omega, ?_⟩
  walk_at "rd"
  rw [bitXor_nat]
  refine ⟨two', fun p hp => q p _ hp ?_ fun i hi => ?_⟩
  · exact Nat.xor_lt_two_pow hb (by have := Nat.two_pow_pos n.toNat; omega)
  · rw [Nat.testBit_xor, Nat.testBit_two_pow_sub_one]
    simp [hi]
theorem sc_without : FnScope ["one", "other"] ["one", "other"] (defScope s_without) := ⟨rfl, rfl, rfl, by decide +kernel, rfl, by decide +kernel, by decide +kernel⟩
theorem ok_without {f : Addr} {fd : FuncData} (F : Fun K "without" "without" s_without f fd) (c_both : Cal P w K mg base 5 "both" ["one", "other"] (spBo K and)) (c_other_days : Cal P w K mg base 2 "other_days" ["turn"] (spOtherC K)) : FnOk P w K mg base CX0 6 f fd ["one", "other"] (spBo K (fun x y => x && !y)) := by
  refine F.ok (k := 5) sc_without (fun vs H Q E h => ?_) (fun cdv A outer s H vs Q E hr h => ?_)
  · obtain ⟨a1, a2, n1, n2, b1, b2, rfl, _⟩ := h
    rfl
  obtain ⟨a1, a2, n1, n2, b1, b2, rfl, S1, S2, p1, p2, l1, l2, lz, k1, k2, q⟩ := h
  refine ⟨_, (pss_one (ps_ret (pe_cal c_both (hr.mono (by decide)) rfl (pa_cons (pv 0) (pa_cons (pe_cal c_other_days (hr.mono (by decide)) rfl (pa_cons (pv 1) pa_nil)) pa_nil))))), ?_⟩
  walk_at "rd"
  refine ⟨a2, n2, b2, rfl, S2, p2, l2, k2, fun p c hp hc hbit => ?_⟩
  walk_at "rd"
  refine ⟨a1, p, n1, n2, b1, c, rfl, (same_new hp _).tup S1, SqT.of upd_same, p1, p2, l1, l2, lz, k1, hc, fun p3 c3 H3 s3 hp3 B => ?_⟩
  refine q p3 c3 H3 ((same_new hp _).trans s3) hp3 ⟨B.lt, fun i hi => ?_⟩
  rw [B.bit i hi, hbit _ (Nat.mod_lt _ (by omega))]
theorem sc_later : FnScope ["turn", "number", "shift", "bits"] ["turn", "number"] (defScope s_later) := ⟨rfl, rfl, rfl, by decide +kernel, rfl, by decide +kernel, by decide +kernel⟩
theorem ok_later {f : Addr} {fd : FuncData} (F : Fun K "later" "later" s_later f fd) (c_full_bits : Cal P w K mg base 1 "full_bits" ["size"] spFull) : FnOk P w K mg base CX0 2 f fd ["turn", "number"] (spLater K) := by
  refine F.ok (k := 1) sc_later (fun vs H Q E h => ?_) (fun cdv A outer s H vs Q E hr h => ?_)
  · obtain ⟨a, n, num, b, rfl, _⟩ := h
    rfl
  obtain ⟨a, n, num, b, rfl, hS, h0, h1, hb, q⟩ := h
  refine ⟨_, (pss_cons (ps_set (i := 2) sc_later.nd rfl (by first | exact Or.inl rfl | exact Or.inr rfl) (pe_op op_mod (pv 1) (pe_ix ix_tup (pv 0) pe_int (fun _ _ => rfl))))
      (pss_cons (ps_set (i := 3) sc_later.nd rfl (by first | exact Or.inl rfl | exact Or.inr rfl) (pe_op op_or (pe_op op_shlB (pe_ix ix_tup (pv 0) pe_int (fun _ _ => rfl)) (pv 2)) (pe_op op_shr (pe_ix ix_tup (pv 0) pe_int (fun _ _ => rfl)) (pe_op op_sub (pe_ix ix_tup (pv 0) pe_int (fun _ _ => rfl)) (pv 2)))))
      (pss_one (ps_ret (pe_tup (pa_cons (pe_ix ix_tup (pv 0) pe_int (fun _ _ => rfl)) (pa_cons (pe_op op_and (pv 3) (pe_cal c_full_bits (hr.mono (by decide)) rfl (pa_cons (pe_ix ix_tup (pv 0) pe_int (fun _ _ => rfl)) pa_nil))) pa_nil))))))), ?_⟩
  have m0 := Int.emod_nonneg num (show n ≠ 0 by omega)
  have m1 := Int.emod_lt_of_pos num h0
  walk_at "rd"
  refine rd_ixT hS at0 ?_
  refine rd_i h0 ?_
  walk_at "rd"
  refine rd_ixT hS at1 ?_
  walk_at "rd"
  refine rd_i ⟨m0, n.toNat, bt_nat hb, by omega⟩ ?_
  walk_at "rd"
  refine rd_ixT hS at1 ?_
  walk_at "rd"
  refine rd_ixT hS at0 ?_
  walk_at "rd"
  refine rd_i (show (0 : Int) ≤ n - num % n by omega) ?_
  walk_at "rd"
  refine rd_ixT hS at0 ?_
  walk_at "rd"
  refine rd_ixT hS at0 ?_
  walk_at "rd"
  refine ⟨n, rfl, by omega, by omega, ?_⟩
  walk_at "rd"
  have e : (n - num % n).toNat = n.toNat - (num % n).toNat := by omega
  rw [shl_cast, shr_cast, bitOr_nat, bitAnd_nat, e]
  refine ⟨(by show 2 ≤ sizeLine; decide), fun p hp => ?_⟩
  exact q p hp
theorem sc_ones_in : FnScope ["bits", "fields", "width", "each_second"] ["bits"] (defScope s_ones_in) := ⟨rfl, rfl, rfl, by decide +kernel, rfl, by decide +kernel, by decide +kernel⟩
theorem ok_ones_in {f : Addr} {fd : FuncData} (F : Fun K "ones_in" "ones_in" s_ones_in f fd) (c_bits_by : Cal P w K mg base 2 "bits_by" ["turn", "size"] (spBitsByL K)) (c_full_bits : Cal P w K mg base 1 "full_bits" ["size"] spFull) : FnOk P w K mg base CX0 3 f fd ["bits"] spOnes := by
  refine F.ok (k := 2) sc_ones_in (fun vs H Q E h => ?_) (fun cdv A outer s H vs Q E hr h => ?_)
  · obtain ⟨b, n, rfl, _⟩ := h
    rfl
  obtain ⟨b, n, rfl, hb, hn, q⟩ := h
  refine ⟨_, (pss_cons (ps_set (i := 1) sc_ones_in.nd rfl (by first | exact Or.inl rfl | exact Or.inr rfl) (pv 0))
      (pss_cons (ps_set (i := 2) sc_ones_in.nd rfl (by first | exact Or.inl rfl | exact Or.inr rfl) pe_int)
      (pss_cons (ps_while PassesOwn.never (pt_cmpR op_gt (pe_op op_shr (pv 1) (pv 2)) pe_int (nomark _))
        (pss_cons (ps_set (i := 3) sc_ones_in.nd rfl (by first | exact Or.inl rfl | exact Or.inr rfl) (pe_cal c_bits_by (hr.mono (by decide)) rfl (pa_cons (pe_tup (pa_cons (pe_op op_mulB pe_int (pv 2)) (pa_cons (pe_cal c_full_bits (hr.mono (by decide)) rfl (pa_cons (pv 2) pa_nil)) pa_nil))) (pa_cons (pe_bm0 PySem.F.plainAttrs_int PySem.F.slot_int_bit_length PySem.F.type_int_bit_length mt_bits (pv 1)) pa_nil))))
      (pss_cons (ps_set (i := 1) sc_ones_in.nd rfl (by first | exact Or.inl rfl | exact Or.inr rfl) (pe_op op_add (pe_op op_and (pv 1) (pv 3)) (pe_op op_and (pe_op op_shr (pv 1) (pv 2)) (pv 3))))
      (pss_one (ps_set (i := 2) sc_ones_in.nd rfl (by first | exact Or.inl rfl | exact Or.inr rfl) (pe_op op_mulB pe_int (pv 2)))))))
      (pss_one (ps_ret (pv 1)))))), ?_⟩
  walk_at "rd"
  refine ⟨fun m σ' H' => Same H H' ∧ ∃ f w : Nat, ∃ x : Option V, σ' = [some (.int (b : Int)), some (.int (f : Int)), some (.int (w : Int)), x] ∧ 0 < w ∧ w ≤ 300000 ∧ f < 2 ^ n ∧ Dg w f (cnt b n) ∧ m = n - w,
    ⟨_, Same.refl _, b, 1, none, rfl, by decide, by decide, hb, Dg.start n b hb, rfl⟩, ?_⟩
  rintro m σ' H1 ⟨s1, f, w, x, rfl, w0, w1, hf, D, rfl⟩
  walk_at "rd"
  refine rd_i (show (0 : Int) ≤ (w : Int) by omega) ?_
  walk_at "rd"
  rw [Int.toNat_natCast, shr_cast]
  refine ite2d (fun cc => ?_) (fun cc => ?_)
  · have f1 : 2 ^ w ≤ f := by
      have h1 : 0 < f >>> w := by omega
      rw [Nat.shiftRight_eq_div_pow] at h1
      exact Nat.le_of_not_lt fun z => by rw [Nat.div_eq_of_lt z] at h1; omega
    have wn : w < n := by
      refine Nat.lt_of_not_le fun z => ?_
      have := Nat.pow_le_pow_right (show 0 < 2 by decide) z
      omega
    have f0 : f ≠ 0 := by have := Nat.two_pow_pos w; omega
    have l1 : f < 2 ^ (f.log2 + 1) := Nat.lt_log2_self
    have l2 : f.log2 + 1 ≤ n := by
      have := Nat.log2_self_le f0
      refine Nat.lt_of_not_le fun z => ?_
      have := Nat.pow_le_pow_right (show 0 < 2 by decide) z
      omega
    refine ⟨_, fun σ' H' hh => hh, ?_⟩
    walk_at "rd"
    refine rd_i ⟨3, 20, (by unfold Bt; decide), bt_nat (by omega), by decide⟩ ?_
    walk_at "rd"
    refine ⟨(w : Int), rfl, by omega, by omega, ?_⟩
    walk_at "rd"
    rw [Int.toNat_natCast, show (2 : Int) * (w : Int) = ((2 * w : Nat) : Int) by omega]
    refine ⟨two', fun p hp => ?_⟩
    have s2 := same_new hp (.tup [.int ((2 * w : Nat) : Int), .int ((2 ^ w - 1 : Nat) : Int)])
    have t2 : upd H1 p (.tup [.int ((2 * w : Nat) : Int), .int ((2 ^ w - 1 : Nat) : Int)]) p = some (.tup [.int ((2 * w : Nat) : Int), .int ((2 ^ w - 1 : Nat) : Int)]) := upd_same
    generalize upd H1 p (.tup [.int ((2 * w : Nat) : Int), .int ((2 ^ w - 1 : Nat) : Int)]) = H2 at s2 t2 ⊢
    walk_at "rd"
    rw [intBits_nat f0]
    walk_at "rd"
    refine ⟨p, _, _, _, rfl, SqT.of t2, by omega, by omega, ?_, by omega, by omega, fun c S => ?_⟩
    · rw [Int.toNat_natCast]
      have := Nat.pow_le_pow_right (show 0 < 2 by decide) (show w ≤ 2 * w by omega)
      have := Nat.two_pow_pos w
      omega
    rw [Int.toNat_natCast, show (((f.log2 + 1 : Nat) : Int)).toNat = f.log2 + 1 by omega] at S
    walk_at "rd"
    refine rd_i (show (0 : Int) ≤ (w : Int) by omega) ?_
    walk_at "rd"
    refine rd_i ⟨3, 20, (by unfold Bt; decide), bt_nat (by omega), by decide⟩ ?_
    walk_at "rd"
    have E1 := ev_mask w0 l1 S 0
    have E2 := ev_mask w0 l1 S w
    rw [Nat.pow_zero, Nat.div_one] at E1
    obtain ⟨d1, d2⟩ := D.pair w0 E1 E2
    rw [Int.toNat_natCast, shr_cast, Nat.shiftRight_eq_div_pow, bitAnd_nat, bitAnd_nat]
    refine ⟨n - 2 * w, by omega, s1.trans s2, (f &&& c) + (f / 2 ^ w &&& c), 2 * w, some (.int (c : Int)), ?_, by omega, by omega, by omega, d1, rfl⟩
    rw [Int.natCast_add]
    rfl
  · have fl : f < 2 ^ w := by
      have h1 : f >>> w = 0 := Nat.eq_zero_of_not_pos fun z => cc (Int.natCast_pos.mpr z)
      rw [Nat.shiftRight_eq_div_pow] at h1
      exact Nat.lt_of_not_le fun z => by
        have := (Nat.le_div_iff_mul_le (Nat.two_pow_pos w)).mpr (show 1 * 2 ^ w ≤ f by omega)
        omega
    walk_at "rd"
    rw [D.last fl]
    exact q _ s1
theorem sc_days_ahead : FnScope ["turn", "day", "part"] ["turn", "day"] (defScope s_days_ahead) := ⟨rfl, rfl, rfl, by decide +kernel, rfl, by decide +kernel, by decide +kernel⟩
theorem ok_days_ahead {f : Addr} {fd : FuncData} (F : Fun K "days_ahead" "days_ahead" s_days_ahead f fd) (c_full_bits : Cal P w K mg base 1 "full_bits" ["size"] spFull) (c_ones_in : Cal P w K mg base 3 "ones_in" ["bits"] spOnes) : FnOk P w K mg base CX0 4 f fd ["turn", "day"] (spAhead K) := by
  refine F.ok (k := 3) sc_days_ahead (fun vs H Q E h => ?_) (fun cdv A outer s H vs Q E hr h => ?_)
  · obtain ⟨a, n, d, b, rfl, _⟩ := h
    rfl
  obtain ⟨a, n, d, b, rfl, hS, h0, h1, hb, bd, q⟩ := h
  have m0 := Int.emod_nonneg d (show n ≠ 0 by omega)
  have m1 := Int.emod_lt_of_pos d h0
  refine ⟨_, (pss_cons (ps_set (i := 2) sc_days_ahead.nd rfl (by first | exact Or.inl rfl | exact Or.inr rfl) (pe_op op_and (pe_ix ix_tup (pv 0) pe_int (fun _ _ => rfl)) (pe_cal c_full_bits (hr.mono (by decide)) rfl (pa_cons (pe_op op_mod (pv 1) (pe_ix ix_tup (pv 0) pe_int (fun _ _ => rfl))) pa_nil))))
      (pss_one (ps_ret (pe_op op_add (pe_op op_mulB (pe_op op_fdivB (pv 1) (pe_ix ix_tup (pv 0) pe_int (fun _ _ => rfl))) (pe_cal c_ones_in (hr.mono (by decide)) rfl (pa_cons (pe_ix ix_tup (pv 0) pe_int (fun _ _ => rfl)) pa_nil))) (pe_cal c_ones_in (hr.mono (by decide)) rfl (pa_cons (pv 2) pa_nil)))))), ?_⟩
  walk_at "rd"
  refine rd_ixT hS at1 ?_
  walk_at "rd"
  refine rd_ixT hS at0 ?_
  refine rd_i h0 ?_
  walk_at "rd"
  refine ⟨d % n, rfl, m0, by omega, ?_⟩
  walk_at "rd"
  rw [bitAnd_nat]
  refine rd_ixT hS at0 ?_
  walk_at "rd"
  refine rd_i (cdiv_small h0 (by omega)) ?_
  walk_at "rd"
  refine rd_ixT hS at1 ?_
  walk_at "rd"
  refine ⟨b, n.toNat, rfl, hb, by omega, fun H1 s1 => ?_⟩
  have cl := cnt_le b n.toNat
  refine rd_i ⟨260, 20, bt_div bd h0, bt_nat (by omega), by decide⟩ ?_
  walk_at "rd"
  refine ⟨_, (d % n).toNat, rfl, and_full_lt _ _, by omega, fun H2 s2 => ?_⟩
  walk_at "rd"
  rw [cnt_same (c := b) fun i hi => and_full_bit _ _ _ hi]
  exact q _ (s1.trans s2)
theorem sc_how_many : FnScope ["turn", "first", "end"] ["turn", "first", "end"] (defScope s_how_many) := ⟨rfl, rfl, rfl, by decide +kernel, rfl, by decide +kernel, by decide +kernel⟩
theorem ok_how_many {f : Addr} {fd : FuncData} (F : Fun K "how_many" "how_many" s_how_many f fd) (c_days_ahead : Cal P w K mg base 4 "days_ahead" ["turn", "day"] (spAhead K)) : FnOk P w K mg base CX0 5 f fd ["turn", "first", "end"] (spMany K) := by
  refine F.ok (k := 4) sc_how_many (fun vs H Q E h => ?_) (fun cdv A outer s H vs Q E hr h => ?_)
  · obtain ⟨a, n, f', e, b, rfl, _⟩ := h
    rfl
  obtain ⟨a, n, f', e, b, rfl, hS, h0, h1, hb, b1, b2, q⟩ := h
  refine ⟨_, (pss_one (ps_ret (pe_op op_sub (pe_cal c_days_ahead (hr.mono (by decide)) rfl (pa_cons (pv 0) (pa_cons (pv 2) pa_nil))) (pe_cal c_days_ahead (hr.mono (by decide)) rfl (pa_cons (pv 0) (pa_cons (pv 1) pa_nil)))))), ?_⟩
  walk_at "rd"
  refine ⟨a, n, e, b, rfl, hS, h0, h1, hb, b2.mono (by decide), fun H1 s1 => ?_⟩
  walk_at "rd"
  refine ⟨a, n, f', b, rfl, s1.tup hS, h0, h1, hb, b1.mono (by decide), fun H2 s2 => ?_⟩
  walk_at "rd"
  exact q _ (s1.trans s2)
theorem sc_gathered : FnScope ["turn", "barred", "step", "join", "told", "free", "stride"] ["turn", "barred", "step", "join"] (defScope s_gathered) := ⟨rfl, rfl, rfl, by decide +kernel, rfl, by decide +kernel, by decide +kernel⟩
theorem ok_gathered {f : Addr} {fd : FuncData} (F : Fun K "gathered" "gathered" s_gathered f fd) (c_other_days : Cal P w K mg base 2 "other_days" ["turn"] (spOtherC K)) (c_both : Cal P w K mg base 5 "both" ["one", "other"] (spBo K and)) (c_later : Cal P w K mg base 2 "later" ["turn", "number"] (spLater K)) (c_either : Cal P w K mg base 5 "either" ["one", "other"] (spBo K or)) (c_unlike : Cal P w K mg base 5 "unlike" ["one", "other"] (spBo K bne)) (z_abs : mg "abs" = none) : FnOk P w K mg base CX0 6 f fd ["turn", "barred", "step", "join"] (spGathJ K mg [("either", spBo K or), ("unlike", spBo K bne)]) := by
  refine F.ok (k := 5) sc_gathered (fun vs H Q E h => ?_) (fun cdv A outer s H vs Q E hr h => ?_)
  · obtain ⟨a1, a2, f', n, e, b, c, x, j, G, rfl, _⟩ := h
    rfl
  obtain ⟨a1, a2, f', n, e, b, c, x, j, G, rfl, hxj, hmg, S1, S2, n0, n1, hb, hc, he, G1, Gs, q⟩ := h
  refine ⟨_, (pss_cons (ps_set (i := 4) sc_gathered.nd rfl (by first | exact Or.inl rfl | exact Or.inr rfl) (pv 0))
      (pss_cons (ps_set (i := 5) sc_gathered.nd rfl (by first | exact Or.inl rfl | exact Or.inr rfl) (pe_cal c_other_days (hr.mono (by decide)) rfl (pa_cons (pv 1) pa_nil)))
      (pss_cons (ps_set (i := 6) sc_gathered.nd rfl (by first | exact Or.inl rfl | exact Or.inr rfl) (pv 2))
      (pss_cons (ps_while PassesOwn.never (pt_cmpR op_lt (pe_callB call_abs rfl z_abs PyProof.Rows.boot_abs (pa_cons (pv 6) pa_nil)) (pe_ix ix_tup (pv 0) pe_int (fun _ _ => rfl)) (nomark _))
        (pss_cons (ps_set (i := 4) sc_gathered.nd rfl (by first | exact Or.inl rfl | exact Or.inr rfl) (pe_calV (i := 3) (k := 5) (CalVs.cons c_either (CalVs.cons c_unlike CalVs.nil)) (hr.mono (by decide)) rfl (by first | exact Or.inl rfl | exact Or.inr (Or.inl rfl) | exact Or.inr (Or.inr rfl)) (pa_cons (pv 4) (pa_cons (pe_cal c_both (hr.mono (by decide)) rfl (pa_cons (pe_cal c_later (hr.mono (by decide)) rfl (pa_cons (pv 4) (pa_cons (pv 6) pa_nil))) (pa_cons (pv 5) pa_nil))) pa_nil))))
      (pss_cons (ps_set (i := 5) sc_gathered.nd rfl (by first | exact Or.inl rfl | exact Or.inr rfl) (pe_cal c_both (hr.mono (by decide)) rfl (pa_cons (pv 5) (pa_cons (pe_cal c_later (hr.mono (by decide)) rfl (pa_cons (pv 5) (pa_cons (pv 6) pa_nil))) pa_nil))))
      (pss_one (ps_set (i := 6) sc_gathered.nd rfl (by first | exact Or.inl rfl | exact Or.inr rfl) (pe_op op_mulB pe_int (pv 6)))))))
      (pss_one (ps_ret (pv 4))))))), ?_⟩
  walk_at "rd"
  refine ⟨a2, n, c, rfl, S2, n0, n1, hc, fun pf fc hpf lf bf => ?_⟩
  have of := fun d => other_on n0 bf d
  have s1 := same_new hpf (.tup [.int n, .int (fc : Int)])
  have t1 : upd H pf (.tup [.int n, .int (fc : Int)]) pf = some (.tup [.int n, .int (fc : Int)]) := upd_same
  generalize upd H pf (.tup [.int n, .int (fc : Int)]) = H1 at s1 t1 ⊢
  have ls := lcm_self n0
  walk_at "rd"
  refine ⟨fun m σ' H' => Same H H' ∧ ∃ (pt pf : Addr) (g fr k : Nat), 0 < k ∧ k ≤ 300000 ∧ H' pt = some (.tup [.int n, .int (g : Int)]) ∧ SqT K H' pf [.int n, .int (fr : Int)] ∧ g < 2 ^ n.toNat ∧ fr < 2 ^ n.toNat ∧ (∀ d, On n g d = true ↔ G k d) ∧ (∀ d, On n fr d = true ↔ Fre (On n c) e k d) ∧
      σ' = [some (.ref a1), some (.ref a2), some (.int e), some (.ref f'), some (.ref pt), some (.ref pf), some (.int (e * (k : Int)))] ∧ m = n.toNat - k,
    ⟨_, s1, a1, pf, b, fc, 1, by decide, by decide, s1 _ _ S1, SqT.of t1, hb, lf, G1, fun d => (by rw [of, Fre.one]; cases On n c d <;> simp), (by rw [show e * ((1 : Nat) : Int) = e by omega]; rfl), rfl⟩, ?_⟩
  rintro m σ' H2 ⟨s2, pt, pf, g, fr, k, k0, k1, Tt, Tf, lg, lfr, og, ofr, rfl, rfl⟩
  have ek : (e * (k : Int)).natAbs = k := by rcases he with h | h <;> rw [h] <;> omega
  walk_at "rd"
  refine ⟨_, rfl, ?_⟩
  walk_at "rd"
  refine rd_ixT (SqT.of (s2 _ _ S1)) at0 ?_
  walk_at "rd"
  have mulb : ∀ x : Int, e * x = x ∨ e * x = -x := fun x => by rcases he with h | h <;> rw [h] <;> omega
  refine ite2d (fun hlt => ?_) (fun hge => ?_)
  · have kn : (k : Int) < n := by
      have := mulb k
      split at hlt <;> omega
    refine ⟨fun σ' H' => ∃ m', m' < n.toNat - k ∧ Same H H' ∧ ∃ (pt pf : Addr) (g fr k : Nat), 0 < k ∧ k ≤ 300000 ∧ H' pt = some (.tup [.int n, .int (g : Int)]) ∧ SqT K H' pf [.int n, .int (fr : Int)] ∧ g < 2 ^ n.toNat ∧ fr < 2 ^ n.toNat ∧ (∀ d, On n g d = true ↔ G k d) ∧ (∀ d, On n fr d = true ↔ Fre (On n c) e k d) ∧
      σ' = [some (.ref a1), some (.ref a2), some (.int e), some (.ref f'), some (.ref pt), some (.ref pf), some (.int (e * (k : Int)))] ∧ m' = n.toNat - k, fun σ' H' hh => hh, ?_⟩
    walk_at "rd"
    refine rd_callV rfl hxj hmg ?_
    walk_at "rd"
    refine ⟨pt, n, _, g, rfl, SqT.of Tt, n0, n1, lg, fun p1 h1 => ?_⟩
    have s3 := same_new h1 (.tup [.int n, .int ((lat n.toNat g (e * (k : Int) % n).toNat : Nat) : Int)])
    have t3 : upd H2 p1 (.tup [.int n, .int ((lat n.toNat g (e * (k : Int) % n).toNat : Nat) : Int)]) p1 = some _ := upd_same
    generalize upd H2 p1 (.tup [.int n, .int ((lat n.toNat g (e * (k : Int) % n).toNat : Nat) : Int)]) = H3 at s3 t3 ⊢
    walk_at "rd"
    refine ⟨p1, pf, n, n, _, fr, rfl, SqT.of t3, s3.tup Tf, n0, n0, n1, n1, (by rw [ls]; exact n1), lat_lt _ _ _, lfr, fun p2 c2 H4 s4 t4 B2 => ?_⟩
    rw [ls] at t4 B2
    have o2 := fun d => B2.on n0 n0 n0 (Int.dvd_refl n) (Int.dvd_refl n) d
    walk_at "rd"
    refine ⟨pt, p2, n, n, g, c2, rfl, SqT.of (s4 _ _ (s3 _ _ Tt)), SqT.of t4, n0, n0, n1, n1, (by rw [ls]; exact n1), lg, B2.lt, fun p3 c3 H5 s5 t5 B3 => ?_⟩
    rw [ls] at t5 B3
    have o3 := fun d => B3.on n0 n0 n0 (Int.dvd_refl n) (Int.dvd_refl n) d
    walk_at "rd"
    refine ⟨pf, n, _, fr, rfl, s5.tup (s4.tup (s3.tup Tf)), n0, n1, lfr, fun p4 h4 => ?_⟩
    have s6 := same_new h4 (.tup [.int n, .int ((lat n.toNat fr (e * (k : Int) % n).toNat : Nat) : Int)])
    have t6 : upd H5 p4 (.tup [.int n, .int ((lat n.toNat fr (e * (k : Int) % n).toNat : Nat) : Int)]) p4 = some _ := upd_same
    generalize upd H5 p4 (.tup [.int n, .int ((lat n.toNat fr (e * (k : Int) % n).toNat : Nat) : Int)]) = H6 at s6 t6 ⊢
    walk_at "rd"
    refine ⟨pf, p4, n, n, fr, _, rfl, s6.tup (s5.tup (s4.tup (s3.tup Tf))), SqT.of t6, n0, n0, n1, n1, (by rw [ls]; exact n1), lfr, lat_lt _ _ _, fun p5 c5 H7 s7 t7 B5 => ?_⟩
    rw [ls] at t7 B5
    have o5 := fun d => B5.on n0 n0 n0 (Int.dvd_refl n) (Int.dvd_refl n) d
    walk_at "rd"
    refine rd_i ⟨2, 20, bt_nat (by decide), (by show (e * (k : Int)).natAbs < 2 ^ 20; rw [ek]; omega), by decide⟩ ?_
    walk_at "rd"
    refine ⟨n.toNat - 2 * k, by omega, s2.trans (s3.trans (s4.trans (s5.trans (s6.trans s7)))), p3, p5, c3, c5, 2 * k, by omega, by omega, s7 _ _ (s6 _ _ t5), SqT.of t7, B3.lt, B5.lt, fun d => ?_, fun d => ?_, ?_, rfl⟩
    · rw [o3]
      exact Gs k d _ _ (og d) (by rw [o2, lat_on n0 lg, Bool.and_eq_true, og, ofr])
    · rw [o5, lat_on n0 lfr, Fre.step, Bool.and_eq_true, ofr, ofr]
    · have : e * ((2 * k : Nat) : Int) = 2 * (e * (k : Int)) := by rw [Int.natCast_mul, Int.mul_left_comm]; rfl
      rw [this]
      rfl
  · have kn : n.toNat ≤ k := by
      have := mulb k
      split at hge <;> omega
    walk_at "rd"
    exact q pt g H2 k kn s2 Tt lg og
theorem sc_upon : FnScope ["R", "S", "size", "days"] ["R", "S"] (defScope s_upon) := ⟨rfl, rfl, rfl, by decide +kernel, rfl, by decide +kernel, by decide +kernel⟩
theorem ok_upon {f : Addr} {fd : FuncData} (F : Fun K "upon" "upon" s_upon f fd) (c_common_size : Cal P w K mg base 4 "common_size" ["one", "other"] (spCS K)) (c_stretched : Cal P w K mg base 3 "stretched" ["turn", "size"] (spStretched K)) (c_both : Cal P w K mg base 5 "both" ["one", "other"] (spBo K and)) (c_gathered : Cal P w K mg base 6 "gathered" ["turn", "barred", "step", "join"] (spGathJ K mg [("either", spBo K or), ("unlike", spBo K bne)])) (c_later : Cal P w K mg base 2 "later" ["turn", "number"] (spLater K)) (c_either : Cal P w K mg base 5 "either" ["one", "other"] (spBo K or)) {fv_either : Addr} (v_either : mg "either" = some (.ref fv_either)) : FnOk P w K mg base CX0 7 f fd ["R", "S"] (spW K UponR) := by
  refine F.ok (k := 6) sc_upon (fun vs H Q E h => ?_) (fun cdv A outer s H vs Q E hr h => ?_)
  · obtain ⟨a1, a2, n1, n2, b1, b2, rfl, _⟩ := h
    rfl
  obtain ⟨a1, a2, n1, n2, b1, b2, rfl, S1, S2, p1, p2, l1, l2, k1, k2, lz, q⟩ := h
  have fl := lcmI_facts p1 p2
  refine ⟨_, (pss_cons (ps_set (i := 2) sc_upon.nd rfl (by first | exact Or.inl rfl | exact Or.inr rfl) (pe_cal c_common_size (hr.mono (by decide)) rfl (pa_cons (pv 0) (pa_cons (pv 1) pa_nil))))
      (pss_cons (ps_set (i := 3) sc_upon.nd rfl (by first | exact Or.inl rfl | exact Or.inr rfl) (pe_cal c_stretched (hr.mono (by decide)) rfl (pa_cons (pv 0) (pa_cons (pv 2) pa_nil))))
      (pss_one (ps_ret (pe_cal c_both (hr.mono (by decide)) rfl (pa_cons (pv 3) (pa_cons (pe_cal c_gathered (hr.mono (by decide)) rfl (pa_cons (pe_cal c_stretched (hr.mono (by decide)) rfl (pa_cons (pv 1) (pa_cons (pv 2) pa_nil))) (pa_cons (pe_cal c_later (hr.mono (by decide)) rfl (pa_cons (pv 3) (pa_cons pe_int pa_nil))) (pa_cons pe_int (pa_cons (pe_glob rfl v_either (rel_ref _)) pa_nil))))) pa_nil))))))), ?_⟩
  walk_at "rd"
  refine ⟨a1, a2, n1, n2, b1, b2, rfl, S1, S2, p1, p2, l1, l2, lz, fun H1 s1 => ?_⟩
  generalize hz : lcmI n1 n2 = z at *
  have z0 := fl.1
  have d1 : n1 ∣ z := fl.2.1
  have d2 : n2 ∣ z := fl.2.2.1
  have ls := lcm_self z0
  walk_at "rd"
  refine ⟨a1, n1, z, b1, rfl, s1.tup S1, p1, l1, k1, z0, lz, d1, fun pr cr hr1 Sr => ?_⟩
  have s2 := same_new hr1 (.tup [.int z, .int (cr : Int)])
  have t2 : upd H1 pr (.tup [.int z, .int (cr : Int)]) pr = some (.tup [.int z, .int (cr : Int)]) := upd_same
  generalize upd H1 pr (.tup [.int z, .int (cr : Int)]) = H2 at s2 t2 ⊢
  have oR := fun d => Strt.on p1 z0 d1 Sr d
  walk_at "rd"
  refine ⟨a2, n2, z, b2, rfl, s2.tup (s1.tup S2), p2, l2, k2, z0, lz, d2, fun ps cs hs1 Ss => ?_⟩
  have s3 := same_new hs1 (.tup [.int z, .int (cs : Int)])
  have t3 : upd H2 ps (.tup [.int z, .int (cs : Int)]) ps = some (.tup [.int z, .int (cs : Int)]) := upd_same
  generalize upd H2 ps (.tup [.int z, .int (cs : Int)]) = H3 at s3 t3 ⊢
  have oS := fun d => Strt.on p2 z0 d2 Ss d
  walk_at "rd"
  refine ⟨pr, z, _, cr, rfl, s3.tup (SqT.of t2), z0, lz, Sr.lt, fun pl hl1 => ?_⟩
  have s4 := same_new hl1 (.tup [.int z, .int ((lat z.toNat cr (1 % z).toNat : Nat) : Int)])
  have t4 : upd H3 pl (.tup [.int z, .int ((lat z.toNat cr (1 % z).toNat : Nat) : Int)]) pl = some _ := upd_same
  generalize upd H3 pl (.tup [.int z, .int ((lat z.toNat cr (1 % z).toNat : Nat) : Int)]) = H4 at s4 t4 ⊢
  have oL := fun d => lat_on (num := 1) (d := d) z0 Sr.lt
  walk_at "rd"
  refine ⟨ps, pl, _, z, 1, cs, _, _, or, Gt (On z cs) (On z (lat z.toNat cr (1 % z).toNat)) (1), rfl, List.mem_cons_self, v_either, s4 _ _ t3, SqT.of t4, z0, lz, Ss.lt, lat_lt _ _ _, .inl rfl, fun d => Gt.one.symm, join_either, fun pg g H5 k kn s5 t5 lg og0 => ?_⟩
  have en : ((z.toNat : Nat) : Int) = z := by omega
  have og : ∀ d, On z g d = true ↔ Gat (On z cs) (On z (lat z.toNat cr (1 % z).toNat)) (1) d := fun d => by rw [og0, Gat.iff (n := z.toNat) (by omega) kn (fun x y h => on_dvd (en ▸ h)) (fun x y h => on_dvd (en ▸ h))]
  walk_at "rd"
  refine ⟨pr, pg, z, z, cr, g, rfl, s5.tup (s4.tup (s3.tup (SqT.of t2))), SqT.of t5, z0, z0, lz, lz, (by rw [ls]; exact lz), Sr.lt, lg, fun p c H6 s6 t6 B => ?_⟩
  rw [ls] at t6 B
  have oB := fun d => B.on z0 z0 z0 (Int.dvd_refl z) (Int.dvd_refl z) d
  refine q p c H6 (s1.trans (s2.trans (s3.trans (s4.trans (s5.trans s6))))) t6 B.lt fun d => ?_
  rw [oB, Bool.and_eq_true, og, oR]
  refine and_congr_right fun _ => ?_
  constructor
  · rintro ⟨j, ht, hb⟩
    refine ⟨d - 1 * (j : Int), by rw [← oS]; exact ht, by omega, fun r h1 h2 => ?_⟩
    have := hb (d - 1 - r).toNat (by omega)
    rw [oL, oR, show d - 1 * (((d - 1 - r).toNat : Nat) : Int) - 1 = r by omega] at this
    exact this
  · rintro ⟨s', hs, hle, hb⟩
    refine ⟨(d - s').toNat, by rw [oS, show d - 1 * (((d - s').toNat : Nat) : Int) = s' by omega]; exact hs, fun i hi => ?_⟩
    rw [oL, oR]
    exact hb _ (by omega) (by omega)
theorem sc_until : FnScope ["R", "S", "size", "days"] ["R", "S"] (defScope s_until) := ⟨rfl, rfl, rfl, by decide +kernel, rfl, by decide +kernel, by decide +kernel⟩
theorem ok_until {f : Addr} {fd : FuncData} (F : Fun K "until" "until" s_until f fd) (c_common_size : Cal P w K mg base 4 "common_size" ["one", "other"] (spCS K)) (c_stretched : Cal P w K mg base 3 "stretched" ["turn", "size"] (spStretched K)) (c_both : Cal P w K mg base 5 "both" ["one", "other"] (spBo K and)) (c_gathered : Cal P w K mg base 6 "gathered" ["turn", "barred", "step", "join"] (spGathJ K mg [("either", spBo K or), ("unlike", spBo K bne)])) (c_later : Cal P w K mg base 2 "later" ["turn", "number"] (spLater K)) (c_either : Cal P w K mg base 5 "either" ["one", "other"] (spBo K or)) {fv_either : Addr} (v_either : mg "either" = some (.ref fv_either)) : FnOk P w K mg base CX0 7 f fd ["R", "S"] (spW K UntilR) := by
  refine F.ok (k := 6) sc_until (fun vs H Q E h => ?_) (fun cdv A outer s H vs Q E hr h => ?_)
  · obtain ⟨a1, a2, n1, n2, b1, b2, rfl, _⟩ := h
    rfl
  obtain ⟨a1, a2, n1, n2, b1, b2, rfl, S1, S2, p1, p2, l1, l2, k1, k2, lz, q⟩ := h
  have fl := lcmI_facts p1 p2
  refine ⟨_, (pss_cons (ps_set (i := 2) sc_until.nd rfl (by first | exact Or.inl rfl | exact Or.inr rfl) (pe_cal c_common_size (hr.mono (by decide)) rfl (pa_cons (pv 0) (pa_cons (pv 1) pa_nil))))
      (pss_cons (ps_set (i := 3) sc_until.nd rfl (by first | exact Or.inl rfl | exact Or.inr rfl) (pe_cal c_stretched (hr.mono (by decide)) rfl (pa_cons (pv 0) (pa_cons (pv 2) pa_nil))))
      (pss_one (ps_ret (pe_cal c_both (hr.mono (by decide)) rfl (pa_cons (pv 3) (pa_cons (pe_cal c_gathered (hr.mono (by decide)) rfl (pa_cons (pe_cal c_stretched (hr.mono (by decide)) rfl (pa_cons (pv 1) (pa_cons (pv 2) pa_nil))) (pa_cons (pe_cal c_later (hr.mono (by decide)) rfl (pa_cons (pv 3) (pa_cons (pe_un un_neg pe_int) pa_nil))) (pa_cons (pe_un un_neg pe_int) (pa_cons (pe_glob rfl v_either (rel_ref _)) pa_nil))))) pa_nil))))))), ?_⟩
  walk_at "rd"
  refine ⟨a1, a2, n1, n2, b1, b2, rfl, S1, S2, p1, p2, l1, l2, lz, fun H1 s1 => ?_⟩
  generalize hz : lcmI n1 n2 = z at *
  have z0 := fl.1
  have d1 : n1 ∣ z := fl.2.1
  have d2 : n2 ∣ z := fl.2.2.1
  have ls := lcm_self z0
  walk_at "rd"
  refine ⟨a1, n1, z, b1, rfl, s1.tup S1, p1, l1, k1, z0, lz, d1, fun pr cr hr1 Sr => ?_⟩
  have s2 := same_new hr1 (.tup [.int z, .int (cr : Int)])
  have t2 : upd H1 pr (.tup [.int z, .int (cr : Int)]) pr = some (.tup [.int z, .int (cr : Int)]) := upd_same
  generalize upd H1 pr (.tup [.int z, .int (cr : Int)]) = H2 at s2 t2 ⊢
  have oR := fun d => Strt.on p1 z0 d1 Sr d
  walk_at "rd"
  refine ⟨a2, n2, z, b2, rfl, s2.tup (s1.tup S2), p2, l2, k2, z0, lz, d2, fun ps cs hs1 Ss => ?_⟩
  have s3 := same_new hs1 (.tup [.int z, .int (cs : Int)])
  have t3 : upd H2 ps (.tup [.int z, .int (cs : Int)]) ps = some (.tup [.int z, .int (cs : Int)]) := upd_same
  generalize upd H2 ps (.tup [.int z, .int (cs : Int)]) = H3 at s3 t3 ⊢
  have oS := fun d => Strt.on p2 z0 d2 Ss d
  walk_at "rd"
  refine ⟨pr, z, _, cr, rfl, s3.tup (SqT.of t2), z0, lz, Sr.lt, fun pl hl1 => ?_⟩
  have s4 := same_new hl1 (.tup [.int z, .int ((lat z.toNat cr (-1 % z).toNat : Nat) : Int)])
  have t4 : upd H3 pl (.tup [.int z, .int ((lat z.toNat cr (-1 % z).toNat : Nat) : Int)]) pl = some _ := upd_same
  generalize upd H3 pl (.tup [.int z, .int ((lat z.toNat cr (-1 % z).toNat : Nat) : Int)]) = H4 at s4 t4 ⊢
  have oL := fun d => lat_on (num := -1) (d := d) z0 Sr.lt
  walk_at "rd"
  refine ⟨ps, pl, _, z, -1, cs, _, _, or, Gt (On z cs) (On z (lat z.toNat cr (-1 % z).toNat)) (-1), rfl, List.mem_cons_self, v_either, s4 _ _ t3, SqT.of t4, z0, lz, Ss.lt, lat_lt _ _ _, .inr rfl, fun d => Gt.one.symm, join_either, fun pg g H5 k kn s5 t5 lg og0 => ?_⟩
  have en : ((z.toNat : Nat) : Int) = z := by omega
  have og : ∀ d, On z g d = true ↔ Gat (On z cs) (On z (lat z.toNat cr (-1 % z).toNat)) (-1) d := fun d => by rw [og0, Gat.iff (n := z.toNat) (by omega) kn (fun x y h => on_dvd (en ▸ h)) (fun x y h => on_dvd (en ▸ h))]
  walk_at "rd"
  refine ⟨pr, pg, z, z, cr, g, rfl, s5.tup (s4.tup (s3.tup (SqT.of t2))), SqT.of t5, z0, z0, lz, lz, (by rw [ls]; exact lz), Sr.lt, lg, fun p c H6 s6 t6 B => ?_⟩
  rw [ls] at t6 B
  have oB := fun d => B.on z0 z0 z0 (Int.dvd_refl z) (Int.dvd_refl z) d
  refine q p c H6 (s1.trans (s2.trans (s3.trans (s4.trans (s5.trans s6))))) t6 B.lt fun d => ?_
  rw [oB, Bool.and_eq_true, og, oR]
  refine and_congr_right fun _ => ?_
  constructor
  · rintro ⟨j, ht, hb⟩
    refine ⟨d - -1 * (j : Int), by rw [← oS]; exact ht, by omega, fun r h1 h2 => ?_⟩
    have := hb (r - 1 - d).toNat (by omega)
    rw [oL, oR, show d - -1 * (((r - 1 - d).toNat : Nat) : Int) - -1 = r by omega] at this
    exact this
  · rintro ⟨s', hs, hle, hb⟩
    refine ⟨(s' - d).toNat, by rw [oS, show d - -1 * (((s' - d).toNat : Nat) : Int) = s' by omega]; exact hs, fun i hi => ?_⟩
    rw [oL, oR]
    exact hb _ (by omega) (by omega)
theorem sc_till : FnScope ["R", "S", "size"] ["R", "S"] (defScope s_till) := ⟨rfl, rfl, rfl, by decide +kernel, rfl, by decide +kernel, by decide +kernel⟩
theorem ok_till {f : Addr} {fd : FuncData} (F : Fun K "till" "till" s_till f fd) (c_common_size : Cal P w K mg base 4 "common_size" ["one", "other"] (spCS K)) (c_gathered : Cal P w K mg base 6 "gathered" ["turn", "barred", "step", "join"] (spGathJ K mg [("either", spBo K or), ("unlike", spBo K bne)])) (c_stretched : Cal P w K mg base 3 "stretched" ["turn", "size"] (spStretched K)) (c_either : Cal P w K mg base 5 "either" ["one", "other"] (spBo K or)) {fv_either : Addr} (v_either : mg "either" = some (.ref fv_either)) : FnOk P w K mg base CX0 7 f fd ["R", "S"] (spW K TillR) := by
  refine F.ok (k := 6) sc_till (fun vs H Q E h => ?_) (fun cdv A outer s H vs Q E hr h => ?_)
  · obtain ⟨a1, a2, n1, n2, b1, b2, rfl, _⟩ := h
    rfl
  obtain ⟨a1, a2, n1, n2, b1, b2, rfl, S1, S2, p1, p2, l1, l2, k1, k2, lz, q⟩ := h
  have fl := lcmI_facts p1 p2
  refine ⟨_, (pss_cons (ps_set (i := 2) sc_till.nd rfl (by first | exact Or.inl rfl | exact Or.inr rfl) (pe_cal c_common_size (hr.mono (by decide)) rfl (pa_cons (pv 0) (pa_cons (pv 1) pa_nil))))
      (pss_one (ps_ret (pe_cal c_gathered (hr.mono (by decide)) rfl (pa_cons (pe_cal c_stretched (hr.mono (by decide)) rfl (pa_cons (pv 0) (pa_cons (pv 2) pa_nil))) (pa_cons (pe_cal c_stretched (hr.mono (by decide)) rfl (pa_cons (pv 1) (pa_cons (pv 2) pa_nil))) (pa_cons pe_int (pa_cons (pe_glob rfl v_either (rel_ref _)) pa_nil)))))))), ?_⟩
  walk_at "rd"
  refine ⟨a1, a2, n1, n2, b1, b2, rfl, S1, S2, p1, p2, l1, l2, lz, fun H1 s1 => ?_⟩
  generalize hz : lcmI n1 n2 = z at *
  have z0 := fl.1
  have d1 : n1 ∣ z := fl.2.1
  have d2 : n2 ∣ z := fl.2.2.1
  have ls := lcm_self z0
  walk_at "rd"
  refine ⟨a1, n1, z, b1, rfl, s1.tup S1, p1, l1, k1, z0, lz, d1, fun pr cr hr1 Sr => ?_⟩
  have s2 := same_new hr1 (.tup [.int z, .int (cr : Int)])
  have t2 : upd H1 pr (.tup [.int z, .int (cr : Int)]) pr = some (.tup [.int z, .int (cr : Int)]) := upd_same
  generalize upd H1 pr (.tup [.int z, .int (cr : Int)]) = H2 at s2 t2 ⊢
  have oR := fun d => Strt.on p1 z0 d1 Sr d
  walk_at "rd"
  refine ⟨a2, n2, z, b2, rfl, s2.tup (s1.tup S2), p2, l2, k2, z0, lz, d2, fun ps cs hs1 Ss => ?_⟩
  have s3 := same_new hs1 (.tup [.int z, .int (cs : Int)])
  have t3 : upd H2 ps (.tup [.int z, .int (cs : Int)]) ps = some (.tup [.int z, .int (cs : Int)]) := upd_same
  generalize upd H2 ps (.tup [.int z, .int (cs : Int)]) = H3 at s3 t3 ⊢
  have oS := fun d => Strt.on p2 z0 d2 Ss d
  walk_at "rd"
  refine ⟨pr, ps, _, z, 1, cr, cs, _, or, Gt (On z cr) (On z cs) (1), rfl, List.mem_cons_self, v_either, s3 _ _ t2, SqT.of t3, z0, lz, Sr.lt, Ss.lt, .inl rfl, fun d => Gt.one.symm, join_either, fun pg g H5 k kn s5 t5 lg og0 => ?_⟩
  have en : ((z.toNat : Nat) : Int) = z := by omega
  have og : ∀ d, On z g d = true ↔ Gat (On z cr) (On z cs) (1) d := fun d => by rw [og0, Gat.iff (n := z.toNat) (by omega) kn (fun x y h => on_dvd (en ▸ h)) (fun x y h => on_dvd (en ▸ h))]
  refine q pg g H5 (s1.trans (s2.trans (s3.trans s5))) t5 lg fun d => ?_
  rw [og]
  constructor
  · rintro ⟨j, ht, hb⟩
    refine ⟨d - 1 * (j : Int), by rw [← oR]; exact ht, by omega, fun s' h1 h2 => ?_⟩
    by_cases hd : d < s'
    · exact hd
    · have := hb (d - s').toNat (by omega)
      rw [oS, show d - 1 * (((d - s').toNat : Nat) : Int) = s' by omega, h1] at this
      cases this
  · rintro ⟨r, hs, hle, hb⟩
    refine ⟨(d - r).toNat, by rw [oR, show d - 1 * (((d - r).toNat : Nat) : Int) = r by omega]; exact hs, fun i hi => ?_⟩
    rw [oS]
    cases h : On n2 b2 (d - 1 * (i : Int))
    · rfl
    · have := hb _ h (by omega)
      omega
theorem sc_nearer_ahead : FnScope ["R", "days", "behind", "first_nearer"] ["R"] (defScope s_nearer_ahead) := ⟨rfl, rfl, rfl, by decide +kernel, rfl, by decide +kernel, by decide +kernel⟩
theorem ok_nearer_ahead {f : Addr} {fd : FuncData} (F : Fun K "nearer_ahead" "nearer_ahead" s_nearer_ahead f fd) (c_days_in : Cal P w K mg base 2 "days_in" ["turn"] (spDaysIn K)) (c_till : Cal P w K mg base 7 "till" ["R", "S"] (spW K TillR)) (c_round_by : Cal P w K mg base 2 "round_by" ["size", "days"] (spRoundBy K)) (z_zip : mg "zip" = none) : FnOk P w K mg base CX0 8 f fd ["R"] (spNearA K) := by
  refine F.ok (k := 7) sc_nearer_ahead (fun vs H Q E h => ?_) (fun cdv A outer s H vs Q E hr h => ?_)
  · obtain ⟨a, n, b, rfl, _⟩ := h
    rfl
  obtain ⟨a, n, b, rfl, hS, h0, h1, hb, q⟩ := h
  refine ⟨_, (pss_cons (ps_set (i := 1) sc_nearer_ahead.nd rfl (by first | exact Or.inl rfl | exact Or.inr rfl) (pe_cal c_days_in (hr.mono (by decide)) rfl (pa_cons (pv 0) pa_nil)))
      (pss_cons (ps_set (i := 2) sc_nearer_ahead.nd rfl (by first | exact Or.inl rfl | exact Or.inr rfl) (pe_op op_cat (pe_slice sl_list (pv 1) (po_some pe_int) po_none) (pe_comp rfl (compOk_freeM ["R", "days", "behind", "first_nearer"] ["R", "days", "behind", "first_nearer"] rfl rfl (by with_unfolding_all rfl) (by decide +kernel) rfl (by decide +kernel) rfl (by decide +kernel) (by walk_at "fm") (by with_unfolding_all rfl) (by with_unfolding_all rfl)) (pi_list (pe_slice sl_list (pv 1) po_none (po_some pe_int))) (fun _ _ _ _ => pifs_nil) (fun _ _ _ _ => (pe_op op_add (pv 0) (pe_ix ix_tup_c (pv 1) pe_int (fun _ _ => rfl)))))))
      (pss_cons (ps_setCompT (i := 3) sc_nearer_ahead.nd rfl (by first | exact Or.inl rfl | exact Or.inr rfl) (xs := ["day", "other"]) rfl (compOkT_freeM ["day", "other"] ["R", "days", "behind", "first_nearer"] ["R", "days", "behind", "first_nearer"] rfl rfl (by with_unfolding_all rfl) (by decide +kernel) rfl (by decide +kernel) (by decide +kernel) (by decide +kernel) (by walk_at "fm") (by with_unfolding_all rfl) (by with_unfolding_all rfl)) (pi_zip rfl z_zip (pa_cons (pv 1) (pa_cons (pv 2) pa_nil))) (fun _ _ _ _ => pifs_nil) (fun _ _ _ _ => (pg_tup_c (n := 2) rfl (pgs_cons (pg_name (i := 0) (show (["day", "other", "R", "days", "behind", "first_nearer"] : List Str).Nodup from by decide +kernel) rfl (by first | exact Or.inl rfl | exact Or.inr rfl)) (pgs_cons (pg_name (i := 1) (show (["day", "other", "R", "days", "behind", "first_nearer"] : List Str).Nodup from by decide +kernel) rfl (by first | exact Or.inl rfl | exact Or.inr rfl)) pgs_nil)))) (fun _ _ _ _ => (pe_op op_add (pe_op op_fdivB (pe_op op_add (pv 0) (pv 1)) pe_int) pe_int)))
      (pss_one (ps_ret (pe_cal c_till (hr.mono (by decide)) rfl (pa_cons (pv 0) (pa_cons (pe_cal c_round_by (hr.mono (by decide)) rfl (pa_cons (pe_ix ix_tup (pv 0) pe_int (fun _ _ => rfl)) (pa_cons (pv 3) pa_nil))) pa_nil)))))))), ?_⟩
  walk_at "rd"
  refine ⟨a, n, b, rfl, hS, h0, h1, hb, fun l H1 hl s1 t1 => ?_⟩
  have mem := dli_mem (b := b) h0
  have srt := dli_pair b n.toNat
  have len := dli_len b n.toNat
  generalize dli b n.toNat = ds at t1 mem srt len
  walk_at "rd"
  refine rd_slL (SqL.of t1) (fun l2 hl2 => ?_)
  rw [cut_from1]
  have s2 := same_new hl2 (.lst ((ds.drop 1).map V.int))
  have t2 : upd H1 l2 (.lst ((ds.drop 1).map V.int)) l2 = some _ := upd_same
  generalize upd H1 l2 (.lst ((ds.drop 1).map V.int)) = H2 at s2 t2 ⊢
  refine rd_comp (rd_iL ?_)
  walk_at "rd"
  refine rd_slL (SqL.of (s2 _ _ t1)) (fun l3 hl3 => ?_)
  rw [cut_upto1, ← List.map_take]
  have s3 := same_new hl3 (.lst ((ds.take 1).map V.int))
  have t3 : upd H2 l3 (.lst ((ds.take 1).map V.int)) l3 = some _ := upd_same
  generalize upd H2 l3 (.lst ((ds.take 1).map V.int)) = H3 at s3 t3 ⊢
  have s13 := s1.trans (s2.trans s3)
  refine ⟨l3, rfl, ⟨_, SqL.of t3⟩, ?_⟩
  refine comp_go walk_l ?_ (fun D ys hD => (same_new hD _).seq (SqL.of t3)) (fun _ => true) (fun v => match v with | .int d => V.int (d + n) | _ => .non) (fun x hx D ys Q' hD h => h) (fun x hx _ D ys Q' hD h => ?_) (fun D hD => ?_)
  · rw [List.length_map, List.length_take]
    exact Nat.lt_of_le_of_lt (Nat.min_le_left _ _) (by decide)
  · obtain ⟨d, hd, rfl⟩ := List.mem_map.mp hx
    walk_at "rd"
    refine rd_ixT ((same_new hD _).tup (s13.tup hS)) at0 ?_
    walk_at "rd"
    exact h
  rw [List.filter_eq_self.mpr (fun _ _ => rfl), List.map_map]
  rw [show ((fun v : V => match v with | .int d => V.int (d + n) | _ => .non) ∘ V.int) = V.int ∘ (· + n) from rfl, ← List.map_map]
  have s4 := same_new hD (.lst (((ds.take 1).map (· + n)).map V.int))
  have t4 : upd H3 D (.lst (((ds.take 1).map (· + n)).map V.int)) D = some _ := upd_same
  generalize upd H3 D (.lst (((ds.take 1).map (· + n)).map V.int)) = H4 at s4 t4 ⊢
  walk_at "rd"
  have bl := behind_len n ds
  refine rd_cat ((s3.trans s4) _ _ t2) t4 ?_ (fun l5 hl5 => ?_)
  · rw [← List.length_append, ← List.map_append, List.length_map]
    exact Nat.le_trans (Nat.le_of_eq bl) (Nat.le_trans (show ds.length ≤ 150000 by omega) (by decide))
  rw [← List.map_append]
  show gName _ _ _ (upd H4 l5 (.lst ((behindOf n ds).map V.int))) _
  have s5 := same_new hl5 (.lst ((behindOf n ds).map V.int))
  have t5 : upd H4 l5 (.lst ((behindOf n ds).map V.int)) l5 = some _ := upd_same
  generalize upd H4 l5 (.lst ((behindOf n ds).map V.int)) = H5 at s5 t5 ⊢
  have s15 := s13.trans (s4.trans s5)
  have t15 := (s2.trans (s3.trans (s4.trans s5))) _ _ t1
  walk_at "rd"
  refine rd_compT (rd_zip ?_)
  walk_at "rd"
  refine ⟨l, l5, rfl, ⟨_, _, SqL.of t15, SqL.of t5⟩, ?_⟩
  refine comp_zip (SqL.of t15) (SqL.of t5) ?_ (fun x y => (x + y) / 2 + 1) (fun x y H' Q' h => ?_) (fun D6 H6 hD6 s6 t6 => ?_)
  · exact Nat.lt_of_le_of_lt (show ds.length ≤ 150000 by omega) (by decide)
  · walk_at "rd"
    exact h
  walk_at "rd"
  refine rd_ixT (s6.tup (s15.tup hS)) at0 ?_
  walk_at "rd"
  refine ⟨D6, mids n ds, n, rfl, SqL.of t6, h0, h1, fun p c H7 s7 t7 B => ?_⟩
  walk_at "rd"
  have ls := lcm_self h0
  refine ⟨a, p, n, n, b, c, rfl, (s6.trans s7).tup (s15.tup hS), SqT.of t7, h0, h0, h1, h1, hb, B.lt, by rw [ls]; exact h1, fun p8 e H8 s8 t8 le oe => ?_⟩
  rw [ls] at t8 le oe
  refine q p8 e H8 (s15.trans (s6.trans (s7.trans s8))) t8 le fun d => ?_
  rw [oe]
  have per : ∀ d k, On n b (d + n * k) = On n b d := fun d k => On_per (Int.dvd_refl n) d k
  exact early_iff h0 per fun x => by rw [B.bit x]; exact mids_iff h0 per srt mem x
theorem sc_near : FnScope ["R", "S", "early"] ["R", "S"] (defScope s_near) := ⟨rfl, rfl, rfl, by decide +kernel, rfl, by decide +kernel, by decide +kernel⟩
theorem ok_near {f : Addr} {fd : FuncData} (F : Fun K "near" "near" s_near f fd) (c_nearer_ahead : Cal P w K mg base 8 "nearer_ahead" ["R"] (spNearA K)) (c_either : Cal P w K mg base 5 "either" ["one", "other"] (spBo K or)) (c_until : Cal P w K mg base 7 "until" ["R", "S"] (spW K UntilR)) (c_both : Cal P w K mg base 5 "both" ["one", "other"] (spBo K and)) (c_upon : Cal P w K mg base 7 "upon" ["R", "S"] (spW K UponR)) (c_without : Cal P w K mg base 6 "without" ["one", "other"] (spBo K (fun x y => x && !y))) : FnOk P w K mg base CX0 9 f fd ["R", "S"] (spW K NearR) := by
  refine F.ok (k := 8) sc_near (fun vs H Q E h => ?_) (fun cdv A outer s H vs Q E hr h => ?_)
  · obtain ⟨a1, a2, n1, n2, b1, b2, rfl, _⟩ := h
    rfl
  obtain ⟨a1, a2, n1, n2, b1, b2, rfl, S1, S2, p1, p2, l1, l2, k1, k2, lz, q⟩ := h
  have fl := lcmI_facts p1 p2
  have fl' := lcmI_comm p1 p2
  refine ⟨_, (pss_cons (ps_set (i := 2) sc_near.nd rfl (by first | exact Or.inl rfl | exact Or.inr rfl) (pe_cal c_nearer_ahead (hr.mono (by decide)) rfl (pa_cons (pv 0) pa_nil)))
      (pss_one (ps_ret (pe_cal c_either (hr.mono (by decide)) rfl (pa_cons (pe_cal c_until (hr.mono (by decide)) rfl (pa_cons (pv 0) (pa_cons (pe_cal c_both (hr.mono (by decide)) rfl (pa_cons (pv 1) (pa_cons (pv 2) pa_nil))) pa_nil))) (pa_cons (pe_cal c_upon (hr.mono (by decide)) rfl (pa_cons (pv 0) (pa_cons (pe_cal c_without (hr.mono (by decide)) rfl (pa_cons (pv 1) (pa_cons (pv 2) pa_nil))) pa_nil))) pa_nil)))))), ?_⟩
  walk_at "rd"
  refine ⟨a1, n1, b1, rfl, S1, p1, l1, k1, fun pe e H1 s1 t1 le oe => ?_⟩
  generalize hz : lcmI n1 n2 = z at *
  have z0 := fl.1
  have d1 : n1 ∣ z := fl.2.1
  have d2 : n2 ∣ z := fl.2.2.1
  have lz1 : lcmI n1 z = z := lcm_dvd p1 z0 d1
  have ls := lcm_self z0
  walk_at "rd"
  refine ⟨a2, pe, n2, n1, b2, e, rfl, s1.tup S2, SqT.of t1, p2, p1, l2, l1, by rw [← fl']; exact lz, k2, le, fun pb cb H2 s2 t2 Bb => ?_⟩
  rw [← fl'] at t2 Bb
  have ob := fun d => Bb.on p2 p1 z0 d2 d1 d
  walk_at "rd"
  refine ⟨a1, pb, n1, z, b1, cb, rfl, (s1.trans s2).tup S1, SqT.of t2, p1, z0, l1, lz, k1, Bb.lt, by rw [lz1]; exact lz, fun pu cu H3 s3 t3 lu ou => ?_⟩
  rw [lz1] at t3 lu ou
  have s13 := s1.trans (s2.trans s3)
  walk_at "rd"
  refine ⟨a2, pe, n2, n1, b2, e, rfl, s13.tup S2, SqT.of ((s2.trans s3) _ _ t1), p2, p1, l2, l1, by rw [← fl']; exact lz, k2, le, fun pw cw H4 s4 t4 Bw => ?_⟩
  rw [← fl'] at t4 Bw
  have ow := fun d => Bw.on p2 p1 z0 d2 d1 d
  walk_at "rd"
  refine ⟨a1, pw, n1, z, b1, cw, rfl, (s13.trans s4).tup S1, SqT.of t4, p1, z0, l1, lz, k1, Bw.lt, by rw [lz1]; exact lz, fun pv cv H5 s5 t5 lv ov => ?_⟩
  rw [lz1] at t5 lv ov
  walk_at "rd"
  refine ⟨pu, pv, z, z, cu, cv, rfl, SqT.of ((s4.trans s5) _ _ t3), SqT.of t5, z0, z0, lz, lz, by rw [ls]; exact lz, lu, lv, fun p c H6 s6 t6 B => ?_⟩
  rw [ls] at t6 B
  refine q p c H6 (s13.trans (s4.trans (s5.trans s6))) t6 B.lt fun d => ?_
  rw [B.on z0 z0 z0 (Int.dvd_refl z) (Int.dvd_refl z) d, Bool.or_eq_true, ou, ov]
  refine Iff.trans ?_ (near_iff p1 (fun d k => On_per (Int.dvd_refl n1) d k))
  unfold UntilR UponR
  have e1 : ∀ x, On z cb x = true ↔ On n2 b2 x = true ∧ Early (On n1 b1) x := fun x => by rw [ob, Bool.and_eq_true, oe]
  have e2 : ∀ x, On z cw x = true ↔ On n2 b2 x = true ∧ ¬ Early (On n1 b1) x := fun x => by
    rw [ow, Bool.and_eq_true, ← oe, Bool.not_eq_true', Bool.not_eq_true]
  simp only [e1, e2]
theorem sc_kth : FnScope ["number", "R", "S", "size", "step", "ends", "days", "place", "odd"] ["number", "R", "S"] (defScope s_kth) := ⟨rfl, rfl, rfl, by decide +kernel, rfl, by decide +kernel, by decide +kernel⟩
theorem ok_kth {f : Addr} {fd : FuncData} (F : Fun K "kth" "kth" s_kth f fd) (c_common_size : Cal P w K mg base 4 "common_size" ["one", "other"] (spCS K)) (c_stretched : Cal P w K mg base 3 "stretched" ["turn", "size"] (spStretched K)) (c_later : Cal P w K mg base 2 "later" ["turn", "number"] (spLater K)) (c_both : Cal P w K mg base 5 "both" ["one", "other"] (spBo K and)) (c_gathered : Cal P w K mg base 6 "gathered" ["turn", "barred", "step", "join"] (spGathJ K mg [("either", spBo K or), ("unlike", spBo K bne)])) (c_unlike : Cal P w K mg base 5 "unlike" ["one", "other"] (spBo K bne)) (c_without : Cal P w K mg base 6 "without" ["one", "other"] (spBo K (fun x y => x && !y))) (c_upon : Cal P w K mg base 7 "upon" ["R", "S"] (spW K UponR)) (c_until : Cal P w K mg base 7 "until" ["R", "S"] (spW K UntilR)) (z_abs : mg "abs" = none) {fv_unlike : Addr} (v_unlike : mg "unlike" = some (.ref fv_unlike)) : FnOk P w K mg base CX0 8 f fd ["number", "R", "S"] (spKth0 K) := by
  refine F.ok (k := 7) sc_kth (fun vs H Q E h => ?_) (fun cdv A outer s H vs Q E hr h => ?_)
  · obtain ⟨k, a1, a2, n1, n2, b1, b2, rfl, _⟩ := h
    rfl
  obtain ⟨k, a1, a2, n1, n2, b1, b2, rfl, W, k0, lz, q⟩ := h
  have fl := lcmI_facts W.p1 W.p2
  refine ⟨_, (pss_cons (ps_if (pt_cmpR op_eq (pv 0) pe_int (nomark _))
        (pss_one ps_never)
        pss_nil)
      (pss_cons (ps_set (i := 3) sc_kth.nd rfl (by first | exact Or.inl rfl | exact Or.inr rfl) (pe_cal c_common_size (hr.mono (by decide)) rfl (pa_cons (pv 1) (pa_cons (pv 2) pa_nil))))
      (pss_cons (ps_cut (ps_set (i := 4) sc_kth.nd rfl (by first | exact Or.inl rfl | exact Or.inr rfl) (pe_ifExp (pt_cmpR op_gt (pv 0) pe_int (nomark _)) pe_int (pe_un un_neg pe_int))))
      (pss_cons (ps_cut (ps_set (i := 5) sc_kth.nd rfl (by first | exact Or.inl rfl | exact Or.inr rfl) (pe_ifExp (pt_cmpR op_gt (pv 0) pe_int (nomark _)) (pe_cal c_stretched (hr.mono (by decide)) rfl (pa_cons (pv 2) (pa_cons (pv 3) pa_nil))) (pe_cal c_later (hr.mono (by decide)) rfl (pa_cons (pe_cal c_stretched (hr.mono (by decide)) rfl (pa_cons (pv 2) (pa_cons (pv 3) pa_nil))) (pa_cons (pe_un un_neg pe_int) pa_nil))))))
      (pss_cons (ps_set (i := 6) sc_kth.nd rfl (by first | exact Or.inl rfl | exact Or.inr rfl) (pe_cal c_stretched (hr.mono (by decide)) rfl (pa_cons (pv 1) (pa_cons (pv 3) pa_nil))))
      (pss_cons (ps_set (i := 7) sc_kth.nd rfl (by first | exact Or.inl rfl | exact Or.inr rfl) (pe_callB call_abs rfl z_abs PyProof.Rows.boot_abs (pa_cons (pv 0) pa_nil)))
      (pss_cons (ps_while PassesOwn.never (PW.pt (pw_and (pt_cmpR op_gt (pv 7) pe_int (nomark _)) (pw_and1 (pt_cmpR op_gt (pe_ix ix_tup (pv 6) pe_int (fun _ _ => rfl)) pe_int (nomark _)))))
        (pss_cons (ps_set (i := 8) sc_kth.nd rfl (by first | exact Or.inl rfl | exact Or.inr rfl) (pe_cal c_both (hr.mono (by decide)) rfl (pa_cons (pv 6) (pa_cons (pe_cal c_gathered (hr.mono (by decide)) rfl (pa_cons (pv 6) (pa_cons (pv 5) (pa_cons (pv 4) (pa_cons (pe_glob rfl v_unlike (rel_ref _)) pa_nil))))) pa_nil))))
      (pss_cons (ps_cut (ps_set (i := 6) sc_kth.nd rfl (by first | exact Or.inl rfl | exact Or.inr rfl) (pe_ifExp (pt_cmpR op_eq (pe_op op_mod (pv 7) pe_int) pe_int (nomark _)) (pv 8) (pe_cal c_without (hr.mono (by decide)) rfl (pa_cons (pv 6) (pa_cons (pv 8) pa_nil))))))
      (pss_one (ps_set (i := 7) sc_kth.nd rfl (by first | exact Or.inl rfl | exact Or.inr rfl) (pe_op op_fdivB (pe_op op_add (pv 7) pe_int) pe_int))))))
      (pss_one (ps_ret (pe_ifExp (pt_cmpR op_gt (pv 0) pe_int (nomark _)) (pe_cal c_upon (hr.mono (by decide)) rfl (pa_cons (pv 6) (pa_cons (pv 5) pa_nil))) (pe_cal c_until (hr.mono (by decide)) rfl (pa_cons (pv 6) (pa_cons (pv 5) pa_nil))))))))))))), ?_⟩
  walk_at "rdx"
  refine iteN (fun c => k0 (by injection c)) ?_
  walk_at "rdx"
  refine ⟨a1, a2, n1, n2, b1, b2, rfl, W.s1, W.s2, W.p1, W.p2, W.l1, W.l2, lz, fun H1 s1 => ?_⟩
  generalize hz : lcmI n1 n2 = z at *
  have z0 := fl.1
  have d1 : n1 ∣ z := fl.2.1
  have d2 : n2 ∣ z := fl.2.2.1
  have ls := lcm_self z0
  walk_at "rdx"
  obtain ⟨e, hek⟩ : ∃ e : Int, e = if 0 < k then 1 else -1 := ⟨_, rfl⟩
  have he : e = 1 ∨ e = -1 := by split at hek <;> omega
  refine rd_cut (fun σ' H' => σ' = [some (.int k), some (.ref a1), some (.ref a2), some (.int z), some (.int e), none, none, none, none] ∧ H' = H1) ?_ ?_
  · walk_at "rdx"
    refine ite2d (fun c => ?_) (fun c => ?_)
    · rw [if_pos c] at hek
      walk_at "rdx"
      subst hek
      exact ⟨rfl, rfl⟩
    · rw [if_neg c] at hek
      walk_at "rdx"
      subst hek
      exact ⟨rfl, rfl⟩
  rintro σ' H1' ⟨rfl, rfl⟩
  walk_at "rdx"
  refine rd_cut (fun σ' H' => ∃ (pe : Addr) (ce : Nat), σ' = [some (.int k), some (.ref a1), some (.ref a2), some (.int z), some (.int e), some (.ref pe), none, none, none] ∧ Same H1' H' ∧ H' pe = some (.tup [.int z, .int (ce : Int)]) ∧ ce < 2 ^ z.toNat ∧ ∀ d, On z ce d = On n2 b2 (if 0 < k then d else d + 1)) ?_ ?_
  · walk_at "rdx"
    refine ite2d (fun c => ?_) (fun c => ?_)
    · walk_at "rdx"
      refine ⟨a2, n2, z, b2, rfl, s1.tup W.s2, W.p2, W.l2, W.k2, z0, lz, d2, fun ps cs hs1 Ss => ?_⟩
      walk_at "rdx"
      exact ⟨ps, cs, rfl, same_new hs1 _, upd_same, Ss.lt, fun d => by rw [if_pos c]; exact Strt.on W.p2 z0 d2 Ss d⟩
    · walk_at "rdx"
      refine ⟨a2, n2, z, b2, rfl, s1.tup W.s2, W.p2, W.l2, W.k2, z0, lz, d2, fun ps cs hs1 Ss => ?_⟩
      walk_at "rdx"
      refine ⟨ps, z, -1, cs, rfl, SqT.of upd_same, z0, lz, Ss.lt, fun p hp => ?_⟩
      walk_at "rdx"
      exact ⟨p, _, rfl, (same_new hs1 _).trans (same_new hp _), upd_same, lat_lt _ _ _, fun d => by rw [if_neg c, lat_on z0 Ss.lt, Strt.on W.p2 z0 d2 Ss, show d - -1 = d + 1 by omega]⟩
  rintro σ' H2 ⟨pe, ce, rfl, s2, t2, lce, oe⟩
  walk_at "rdx"
  refine ⟨a1, n1, z, b1, rfl, s2.tup (s1.tup W.s1), W.p1, W.l1, W.k1, z0, lz, d1, fun pr cr hr1 Sr => ?_⟩
  have s3 := same_new hr1 (.tup [.int z, .int (cr : Int)])
  have t3 : upd H2 pr (.tup [.int z, .int (cr : Int)]) pr = some (.tup [.int z, .int (cr : Int)]) := upd_same
  generalize upd H2 pr (.tup [.int z, .int (cr : Int)]) = H3 at s3 t3 ⊢
  have oR := fun d => Strt.on W.p1 z0 d1 Sr d
  walk_at "rdx"
  refine ⟨_, rfl, ?_⟩
  obtain ⟨p0, hp0⟩ : ∃ p0 : Int, (if k < 0 then -k else k) = p0 := ⟨_, rfl⟩
  have ap : p0 = (k.natAbs : Int) := by split at hp0 <;> omega
  rw [hp0]
  have fR : On z cr = On n1 b1 := funext oR
  walk_at "rdx"
  refine ⟨fun m σ' H' => Same H3 H' ∧ ∃ (pd : Addr) (t : Nat) (p : Int) (od : Option V), 1 ≤ p ∧ p ≤ p0 ∧ H' pd = some (.tup [.int z, .int (t : Int)]) ∧ t < 2 ^ z.toNat ∧ ((∀ d, Bar (On z ce) e z.toNat d) → ∀ d, (On z t d = true ∧ (cG (On z t) (On z ce) e z.toNat d : Int) = p) ↔ (On n1 b1 d = true ∧ (cG (On n1 b1) (On z ce) e z.toNat d : Int) = p0)) ∧
      σ' = [some (.int k), some (.ref a1), some (.ref a2), some (.int z), some (.int e), some (.ref pe), some (.ref pd), some (.int p), od] ∧ m = p.toNat,
    ⟨_, Same.refl _, pr, cr, p0, none, by omega, by omega, t3, Sr.lt, fun _ d => by rw [fR], rfl, rfl⟩, ?_⟩
  rintro m σ' H4 ⟨s4, pd, t, p, od, p1, pp, td, lt, hT, rfl, rfl⟩
  walk_at "rdx"
  have te := s4 _ _ (s3 _ _ t2)
  have kend := fun hp d => kth_end (b1 := b1) (t := t) z0 d2 W.p1 k0 hek ap oe hT hp d
  refine ite2d (fun hp => ?_) (fun hp => ?_)
  · walk_at "rdx"
    refine rd_ixT (SqT.of td) at1 ?_
    walk_at "rdx"
    refine ite2d (fun ht => ?_) (fun ht => ?_)
    · refine ⟨fun σ' H' => ∃ m', m' < p.toNat ∧ Same H3 H' ∧ ∃ (pd : Addr) (t : Nat) (p : Int) (od : Option V), 1 ≤ p ∧ p ≤ p0 ∧ H' pd = some (.tup [.int z, .int (t : Int)]) ∧ t < 2 ^ z.toNat ∧ ((∀ d, Bar (On z ce) e z.toNat d) → ∀ d, (On z t d = true ∧ (cG (On z t) (On z ce) e z.toNat d : Int) = p) ↔ (On n1 b1 d = true ∧ (cG (On n1 b1) (On z ce) e z.toNat d : Int) = p0)) ∧
      σ' = [some (.int k), some (.ref a1), some (.ref a2), some (.int z), some (.int e), some (.ref pe), some (.ref pd), some (.int p), od] ∧ m' = p.toNat, fun σ' H' hh => hh, ?_⟩
      walk_at "rdx"
      refine ⟨pd, pe, _, z, e, t, ce, _, bne, fun k d => cG (On z t) (On z ce) e k d % 2 = 1, rfl, List.mem_cons_of_mem _ List.mem_cons_self, v_unlike, td, SqT.of te, z0, lz, lt, lce, he, fun d => cG_start, join_unlike, fun pg g H5 kk kn s5 t5 lg og => ?_⟩
      walk_at "rdx"
      refine ⟨pd, pg, z, z, t, g, rfl, s5.tup (SqT.of td), SqT.of t5, z0, z0, lz, lz, (by rw [ls]; exact lz), lt, lg, fun po c H6 s6 t6 B => ?_⟩
      rw [ls] at t6 B
      have oB := fun d => B.on z0 z0 z0 (Int.dvd_refl z) (Int.dvd_refl z) d
      have td6 := s6 _ _ (s5 _ _ td)
      walk_at "rdx"
      refine rd_cut (fun σ' H' => ∃ (pn : Addr) (t' : Nat), σ' = [some (.int k), some (.ref a1), some (.ref a2), some (.int z), some (.int e), some (.ref pe), some (.ref pn), some (.int p), some (.ref po)] ∧ Same H6 H' ∧ H' pn = some (.tup [.int z, .int (t' : Int)]) ∧ t' < 2 ^ z.toNat ∧ (p % 2 = 1 → ∀ d, On z t' d = On z c d) ∧ (¬ p % 2 = 1 → ∀ d, On z t' d = (On z t d && !On z c d))) ?_ ?_
      · walk_at "rdx"
        refine ite2d (fun o => ?_) (fun o => ?_)
        · walk_at "rdx"
          exact ⟨po, c, rfl, Same.refl _, t6, B.lt, fun _ _ => rfl, fun h => absurd (by injection o) h⟩
        · walk_at "rdx"
          refine ⟨pd, po, z, z, t, c, rfl, SqT.of td6, SqT.of t6, z0, z0, lz, lz, (by rw [ls]; exact lz), lt, B.lt, fun pn t' H7 s7 t7 B7 => ?_⟩
          rw [ls] at t7 B7
          walk_at "rdx"
          exact ⟨pn, t', rfl, s7, t7, B7.lt, fun h => absurd (by rw [h]) o, fun _ d => B7.on z0 z0 z0 (Int.dvd_refl z) (Int.dvd_refl z) d⟩
      rintro σ' H7 ⟨pn, t', rfl, s7, t7, lt', u1, u2⟩
      walk_at "rdx"
      exact ⟨_, (by omega : ((p + 1) / 2).toNat < p.toNat), s4.trans (s5.trans (s6.trans s7)), pn, t', (p + 1) / 2, _, by omega, by omega, t7, lt', fun hB d => (kth_step hB kn og oB hp u1 u2 d).trans (hT hB d), rfl, rfl⟩
    · have ke := kend (.inr (by omega))
      walk_at "rdx"
      by_cases c : 0 < k
      · rw [if_pos c] at hek
        subst hek
        refine iteD c ?_
        walk_at "rdx"
        refine ⟨pd, pe, z, z, t, ce, rfl, SqT.of td, SqT.of (s4 _ _ (s3 _ _ t2)), z0, z0, lz, lz, lt, lce, (by rw [ls]; exact lz), fun p' c' H' s' t' lc' o' => ?_⟩
        rw [ls] at t' lc' o'
        exact q p' c' H' (s1.trans (s2.trans (s3.trans (s4.trans s')))) t' lc' fun d => by rw [o', upon_j, ke]
      · rw [if_neg c] at hek
        subst hek
        refine iteN c ?_
        walk_at "rdx"
        refine ⟨pd, pe, z, z, t, ce, rfl, SqT.of td, SqT.of (s4 _ _ (s3 _ _ t2)), z0, z0, lz, lz, lt, lce, (by rw [ls]; exact lz), fun p' c' H' s' t' lc' o' => ?_⟩
        rw [ls] at t' lc' o'
        exact q p' c' H' (s1.trans (s2.trans (s3.trans (s4.trans s')))) t' lc' fun d => by rw [o', until_j, ke]
  · have ke := kend (.inl (by omega))
    refine iteF ?_
    walk_at "rdx"
    by_cases c : 0 < k
    · rw [if_pos c] at hek
      subst hek
      refine iteD c ?_
      walk_at "rdx"
      refine ⟨pd, pe, z, z, t, ce, rfl, SqT.of td, SqT.of (s4 _ _ (s3 _ _ t2)), z0, z0, lz, lz, lt, lce, (by rw [ls]; exact lz), fun p' c' H' s' t' lc' o' => ?_⟩
      rw [ls] at t' lc' o'
      exact q p' c' H' (s1.trans (s2.trans (s3.trans (s4.trans s')))) t' lc' fun d => by rw [o', upon_j, ke]
    · rw [if_neg c] at hek
      subst hek
      refine iteN c ?_
      walk_at "rdx"
      refine ⟨pd, pe, z, z, t, ce, rfl, SqT.of td, SqT.of (s4 _ _ (s3 _ _ t2)), z0, z0, lz, lz, lt, lce, (by rw [ls]; exact lz), fun p' c' H' s' t' lc' o' => ?_⟩
      rw [ls] at t' lc' o'
      exact q p' c' H' (s1.trans (s2.trans (s3.trans (s4.trans s')))) t' lc' fun d => by rw [o', until_j, ke]
theorem sc_every : FnScope ["number", "R", "day", "size", "days", "first", "places"] ["number", "R", "day"] (defScope s_every) := ⟨rfl, rfl, rfl, by decide +kernel, rfl, by decide +kernel, by decide +kernel⟩
theorem ok_every {f : Addr} {fd : FuncData} (F : Fun K "every" "every" s_every f fd) (c_refuse_below_one : Cal P w K mg base 1 "refuse_below_one" ["number"] spRefuse) (c_refuse_too_long : Cal P w K mg base 1 "refuse_too_long" ["size"] spTooLong) (c_days_in : Cal P w K mg base 2 "days_in" ["turn"] (spDaysIn K)) (c_how_many : Cal P w K mg base 5 "how_many" ["turn", "first", "end"] (spMany K)) (c_round_by : Cal P w K mg base 2 "round_by" ["size", "days"] (spRoundBy K)) (z_list : mg "list" = none) (z_range : mg "range" = none) (z_len : mg "len" = none) : FnOk P w K mg base CX0 6 f fd ["number", "R", "day"] (spEvery0 K) := by
  refine F.ok (k := 5) sc_every (fun vs H Q E h => ?_) (fun cdv A outer s H vs Q E hr h => ?_)
  · obtain ⟨k, d, a, n, b, rfl, _⟩ := h
    rfl
  obtain ⟨k, d, a, n, b, rfl, hS, h0, h1, hb, bd, bk, k1, lz, q⟩ := h
  have bn : Bt 64 n := bt_small (by omega) (by omega) (by decide)
  refine ⟨_, (pss_cons (ps_expr (pe_cal c_refuse_below_one (hr.mono (by decide)) rfl (pa_cons (pv 0) pa_nil)))
      (pss_cons (ps_set (i := 3) sc_every.nd rfl (by first | exact Or.inl rfl | exact Or.inr rfl) (pe_op op_mulB (pe_ix ix_tup (pv 1) pe_int (fun _ _ => rfl)) (pv 0)))
      (pss_cons (ps_expr (pe_cal c_refuse_too_long (hr.mono (by decide)) rfl (pa_cons (pv 3) pa_nil)))
      (pss_cons (ps_set (i := 4) sc_every.nd rfl (by first | exact Or.inl rfl | exact Or.inr rfl) (pe_cal c_days_in (hr.mono (by decide)) rfl (pa_cons (pv 1) pa_nil)))
      (pss_cons (ps_set (i := 5) sc_every.nd rfl (by first | exact Or.inl rfl | exact Or.inr rfl) (pe_op op_mod (pe_cal c_how_many (hr.mono (by decide)) rfl (pa_cons (pv 1) (pa_cons pe_int (pa_cons (pv 2) pa_nil)))) (pv 0)))
      (pss_cons (ps_set (i := 6) sc_every.nd rfl (by first | exact Or.inl rfl | exact Or.inr rfl) (pe_lrange3 rfl rfl z_list rfl z_range (pa_cons (pv 5) (pa_cons (pe_op op_mulB (pe_callB call_len_seq rfl z_len PySem.boot_len (pa_cons (pv 4) pa_nil)) (pv 0)) (pa_cons (pv 0) pa_nil)))))
      (pss_one (ps_ret (pe_cal c_round_by (hr.mono (by decide)) rfl (pa_cons (pv 3) (pa_cons (pe_comp rfl (compOk_freeM ["number", "R", "day", "size", "days", "first", "places"] ["number", "R", "day", "size", "days", "first", "places"] rfl rfl (by with_unfolding_all rfl) (by decide +kernel) rfl (by decide +kernel) rfl (by decide +kernel) (by walk_at "fm") (by with_unfolding_all rfl) (by with_unfolding_all rfl)) (pi_list (pv 6)) (fun _ _ _ _ => pifs_nil) (fun _ _ _ _ => (pe_op op_add (pe_op op_mulB (pe_op op_fdivB (pv 0) (pe_callB call_len_c rfl z_len PySem.boot_len (pa_cons (pv 5) pa_nil))) (pe_ix ix_tup_c (pv 2) pe_int (fun _ _ => rfl))) (pe_ix ix_list_c (pv 5) (pe_op op_mod (pv 0) (pe_callB call_len_c rfl z_len PySem.boot_len (pa_cons (pv 5) pa_nil))) (fun _ _ => rfl))))) pa_nil))))))))))), ?_⟩
  walk_at "rdx"
  refine ⟨k, rfl, k1, ?_⟩
  walk_at "rdx"
  refine rd_ixT hS at0 ?_
  walk_at "rdx"
  refine rd_i ⟨64, 400, bn, bk, by decide⟩ ?_
  walk_at "rdx"
  refine ⟨n * k, rfl, lz, ?_⟩
  have kn := le_mulr h0 (show 0 < k by omega)
  walk_at "rdx"
  refine ⟨a, n, b, rfl, hS, h0, h1, hb, fun ld H1 _ s1 t1 => ?_⟩
  have D := Dn.mk' h0 (dli_pair b n.toNat) (dli_self (b := b) h0)
  have len := dli_len b n.toNat
  generalize dli b n.toNat = ds at t1 D len
  have hS1 := s1.tup hS
  walk_at "rdx"
  refine ⟨a, n, 0, d, b, rfl, hS1, h0, h1, hb, (by unfold Bt; decide), bd, fun H2 s2 => ?_⟩
  rw [CC_zero, Int.sub_zero]
  walk_at "rdx"
  have f0 := Int.emod_nonneg (CC n b d) (show k ≠ 0 by omega)
  have f1 := Int.emod_lt_of_pos (CC n b d) (show 0 < k by omega)
  have t2 := s2 _ _ t1
  have hS2 := s2.tup hS1
  refine ⟨ld, _, rfl, .inl (SqL.of t2), ?_⟩
  rw [List.length_map]
  walk_at "rdx"
  refine rd_i ⟨64, 64, bt_small (by omega) (by omega) (by decide), bt_small (by omega) (by omega) (by decide), by decide⟩ ?_
  walk_at "rdx"
  have mk : (ds.length : Int) * k ≤ n * k := Int.mul_le_mul_of_nonneg_right (by omega) (by omega)
  have mk0 : 0 ≤ (ds.length : Int) * k := Int.mul_nonneg (by omega) (by omega)
  refine ⟨CC n b d % k, (ds.length : Int) * k, k, ds.length, .inl rfl, by omega, by omega, small_step (by omega) (by omega) (by omega) (by omega) (by omega) (by omega), ?_, by omega, fun lp hlp => ?_⟩
  · rw [rangeSize_up (by omega)]
    rcases Nat.eq_zero_or_pos ds.length with z | z
    · rw [z, if_neg (by simp; omega)]
      rfl
    · have e1 : (ds.length : Int) * k - CC n b d % k - 1 = (k - 1 - CC n b d % k) + k * ((ds.length : Int) - 1) := by
        rw [Int.mul_sub, Int.mul_comm k]
        omega
      have e2 : k ≤ (ds.length : Int) * k := le_mulr (by omega) (by omega)
      rw [if_pos (by omega), e1, Int.add_mul_ediv_left _ _ (by omega), Int.ediv_eq_zero_of_lt (by omega) (by omega)]
      omega
  have s3 := same_new hlp (.lst ((List.range ds.length).map fun (i : Nat) => V.int (CC n b d % k + (i : Int) * k)))
  have t3 := s3 _ _ t2
  have p3 : upd H2 lp (.lst ((List.range ds.length).map fun (i : Nat) => V.int (CC n b d % k + (i : Int) * k))) lp = some (.lst ((List.range ds.length).map fun (i : Nat) => V.int (CC n b d % k + (i : Int) * k))) := upd_same
  have hS3 := s3.tup hS2
  generalize upd H2 lp (.lst ((List.range ds.length).map fun (i : Nat) => V.int (CC n b d % k + (i : Int) * k))) = H3 at s3 t3 p3 hS3 ⊢
  walk_at "rdx"
  refine rd_comp (rd_iL ?_)
  walk_at "rdx"
  refine ⟨lp, rfl, ⟨_, SqL.of p3⟩, ?_⟩
  refine comp_go walk_l ?_ (fun D' ys hD' => (same_new hD' _).seq (SqL.of p3)) (fun _ => true) (fun v => match v with | .int P => .int (dayOf n ds P) | _ => .non) (fun x hx D' ys Q' hD' h => h) (fun x hx _ D' ys Q' hD' h => ?_) (fun D' hD' => ?_)
  · rw [List.length_map, List.length_range]
    exact Nat.lt_of_le_of_lt (show ds.length ≤ 150000 by omega) (by decide)
  · obtain ⟨i, hi, rfl⟩ := List.mem_map.mp hx
    have hi' := List.mem_range.mp hi
    replace h : Q' (.int (dayOf n ds (CC n b d % k + (i : Int) * k))) _ := h
    have ik : (i : Int) * k ≤ (ds.length : Int) * k := Int.mul_le_mul_of_nonneg_right (by omega) (by omega)
    have ik0 : 0 ≤ (i : Int) * k := Int.mul_nonneg (by omega) (by omega)
    generalize hP : CC n b d % k + (i : Int) * k = P at h ⊢
    have m0 := Int.emod_nonneg P (show (ds.length : Int) ≠ 0 by omega)
    have m1 := Int.emod_lt_of_pos P (show (0 : Int) < (ds.length : Int) by omega)
    obtain ⟨x, hx⟩ : ∃ x, ds[(P % (ds.length : Int)).toNat]? = some x := ⟨_, List.getElem?_eq_getElem (by omega)⟩
    have ed : dayOf n ds P = P / (ds.length : Int) * n + x := by
      unfold dayOf
      rw [hx]
      rfl
    rw [ed] at h
    have P0 : 0 ≤ P := by omega
    have P1 : P / (ds.length : Int) ≤ P := Int.ediv_le_self _ P0
    have P2 : 0 ≤ P / (ds.length : Int) := Int.ediv_nonneg P0 (by omega)
    have t4 := same_new hD' (.lst ys) _ _ t3
    walk_at "rdx"
    refine ⟨ld, _, rfl, .inl (SqL.of t4), ?_⟩
    rw [List.length_map]
    walk_at "rdx"
    refine rd_i (cdiv_small (by omega) (by omega)) ?_
    walk_at "rdx"
    refine rd_ixT ((same_new hD' _).tup hS3) at0 ?_
    refine rd_i ⟨64, 64, bt_small (by omega) (by omega) (by decide), bn, by decide⟩ ?_
    walk_at "rdx"
    refine ⟨ld, _, rfl, .inl (SqL.of t4), ?_⟩
    rw [List.length_map]
    walk_at "rdx"
    rw [show P % (ds.length : Int) = (((P % (ds.length : Int)).toNat : Nat) : Int) by omega]
    refine rd_ixL (SqL.of t4) (atI_nat (at_map hx)) ?_
    walk_at "rdx"
    exact h
  have e : ((((List.range ds.length).map fun (i : Nat) => V.int (CC n b d % k + (i : Int) * k)).filter fun _ => true).map fun v => match v with | .int P => V.int (dayOf n ds P) | _ => .non) = (((List.range ds.length).map fun (i : Nat) => dayOf n ds (CC n b d % k + (i : Int) * k)).map V.int) := by
    rw [List.filter_eq_self.mpr (fun _ _ => rfl), List.map_map, List.map_map]
    rfl
  rw [e]
  walk_at "rdx"
  refine ⟨D', _, n * k, rfl, SqL.of upd_same, by omega, lz, fun p c H5 s5 t5 B => ?_⟩
  refine q p c H5 ((((s1.trans s2).trans s3).trans (same_new hD' _)).trans s5) t5 B.lt fun x => ?_
  rw [B.bit x]
  exact evr_iff h0 (by omega) D x
theorem sc_Rule___init__ : FnScope ["self", "kept", "made_of", "words"] ["self", "kept", "made_of", "words"] (defScope s_Rule___init__) := ⟨rfl, rfl, rfl, by decide +kernel, rfl, by decide +kernel, by decide +kernel⟩
theorem ok_Rule___init__ {f : Addr} {fd : FuncData} {ds : Array Value} (F : FunD K "__init__" "Rule.__init__" s_Rule___init__ f fd ds) (er : Errs K mg c_FeastError c_NoNumber c_TooLong c_Rule c_All c_No c_Each c_Either c_Upon c_Until c_Near c_Till c_Kth c_Every) : FnOk P w K mg base CX0 1 f fd ["self", "kept", "made_of", "words"] (spRInit K c_Rule) := by
  refine F.ok (k := 0) sc_Rule___init__ (fun vs H Q E h => ?_) (fun cdv A outer s H vs Q E hr h => ?_)
  · obtain ⟨x, p, pm, pw, C, dx, rfl, _⟩ := h
    rfl
  obtain ⟨x, p, pm, pw, C, dx, rfl, hx, R, q⟩ := h
  refine ⟨_, (pss_cons (ps_fld (pv 0) (pe_ifExp (pt_cmpR op_isN (pv 1) pe_non (nomark _)) (pe_tup (pa_cons pe_int (pa_cons pe_int pa_nil))) (pv 1)) (by rfl))
      (pss_cons (ps_fld (pv 0) (pe_ifExp (pt_cmpR op_isN (pv 2) pe_non (nomark _)) (pe_tup pa_nil) (pv 2)) (by rfl))
      (pss_one (ps_fld (pv 0) (pe_ifExp (pt_cmpR op_isN (pv 3) pe_non (nomark _)) (pe_tup (pa_cons pe_str pa_nil)) (pv 3)) (by rfl))))), ?_⟩
  walk_at "rd"
  refine rd_ifE ?_
  walk_at "rd"
  refine ⟨rfl, rd_bl (iteN (fun e => nomatch e) ?_)⟩
  walk_at "rd"
  refine ⟨x, C, dx, [], rfl, hx, R.cl, R.k, by decide, ?_⟩
  walk_at "rd"
  refine rd_ifE ?_
  walk_at "rd"
  refine ⟨rfl, rd_bl (iteN (fun e => nomatch e) ?_)⟩
  walk_at "rd"
  refine ⟨x, C, dx, _, rfl, upd_same, R.cl, R.m, (show 1 < 1000 by decide), ?_⟩
  walk_at "rd"
  refine rd_ifE ?_
  walk_at "rd"
  refine ⟨rfl, rd_bl (iteN (fun e => nomatch e) ?_)⟩
  walk_at "rd"
  refine ⟨x, C, dx, _, rfl, upd_same, R.cl, R.w, (show 2 < 1000 by decide), ?_⟩
  walk_at "rd"
  refine q _ (fun y o ne e => ?_) upd_same
  rw [upd_ne ne, upd_ne ne, upd_ne ne]
  exact e
theorem sc_Rule_on : FnScope ["self", "day"] ["self", "day"] (defScope s_Rule_on) := ⟨rfl, rfl, rfl, by decide +kernel, rfl, by decide +kernel, by decide +kernel⟩
theorem ok_Rule_on {f : Addr} {fd : FuncData} (F : Fun K "on" "Rule.on" s_Rule_on f fd) (er : Errs K mg c_FeastError c_NoNumber c_TooLong c_Rule c_All c_No c_Each c_Either c_Upon c_Until c_Near c_Till c_Kth c_Every) (c_on_rounds : Cal P w K mg base 1 "on_rounds" ["turn", "day"] (spOn K)) : FnOk P w K mg base CX0 2 f fd ["self", "day"] (spOnM K c_Rule [c_All, c_No, c_Each, c_Either, c_Upon, c_Until, c_Near, c_Till, c_Kth, c_Every]) := by
  refine F.ok (k := 1) sc_Rule_on (fun vs H Q E h => ?_) (fun cdv A outer s H vs Q E hr h => ?_)
  · obtain ⟨x, n, d, b, rfl, _⟩ := h
    rfl
  obtain ⟨x, n, d, b, rfl, R, q⟩ := h
  obtain ⟨C, dx, p, pm, pw, hC, rc, hx, hp⟩ := R.ex
  refine ⟨_, (pss_one (ps_ret (pe_cal c_on_rounds (hr.mono (by decide)) rfl (pa_cons (pe_fld (pv 0) (by rfl)) (pa_cons (pv 1) pa_nil))))), ?_⟩
  walk_at "rd"
  refine ⟨x, C, dx, _, _, rfl, hx, rc.cl, rc.k, rfl, ?_⟩
  walk_at "rd"
  exact ⟨p, n, d, b, rfl, SqT.of hp, R.n0, q⟩
theorem sc_Rule_size : FnScope ["self"] ["self"] (defScope s_Rule_size) := ⟨rfl, rfl, rfl, by decide +kernel, rfl, by decide +kernel, by decide +kernel⟩
theorem ok_Rule_size {f : Addr} {fd : FuncData} (F : Fun K "size" "Rule.size" s_Rule_size f fd) (er : Errs K mg c_FeastError c_NoNumber c_TooLong c_Rule c_All c_No c_Each c_Either c_Upon c_Until c_Near c_Till c_Kth c_Every) : FnOk P w K mg base CX0 1 f fd ["self"] (spSizeM K c_Rule [c_All, c_No, c_Each, c_Either, c_Upon, c_Until, c_Near, c_Till, c_Kth, c_Every]) := by
  refine F.ok (k := 0) sc_Rule_size (fun vs H Q E h => ?_) (fun cdv A outer s H vs Q E hr h => ?_)
  · obtain ⟨x, n, b, rfl, _⟩ := h
    rfl
  obtain ⟨x, n, b, rfl, R, q⟩ := h
  obtain ⟨C, dx, p, pm, pw, hC, rc, hx, hp⟩ := R.ex
  refine ⟨_, (pss_one (ps_ret (pe_ix ix_tup (pe_fld (pv 0) (by rfl)) pe_int (fun _ _ => rfl)))), ?_⟩
  walk_at "rd"
  refine ⟨x, C, dx, _, _, rfl, hx, rc.cl, rc.k, rfl, ?_⟩
  walk_at "rd"
  refine rd_ixT (SqT.of hp) at0 ?_
  exact q
theorem sc_Rule_turn : FnScope ["self"] ["self"] (defScope s_Rule_turn) := ⟨rfl, rfl, rfl, by decide +kernel, rfl, by decide +kernel, by decide +kernel⟩
theorem ok_Rule_turn {f : Addr} {fd : FuncData} (F : Fun K "turn" "Rule.turn" s_Rule_turn f fd) (er : Errs K mg c_FeastError c_NoNumber c_TooLong c_Rule c_All c_No c_Each c_Either c_Upon c_Until c_Near c_Till c_Kth c_Every) : FnOk P w K mg base CX0 1 f fd ["self"] (spTurnM K c_Rule [c_All, c_No, c_Each, c_Either, c_Upon, c_Until, c_Near, c_Till, c_Kth, c_Every]) := by
  refine F.ok (k := 0) sc_Rule_turn (fun vs H Q E h => ?_) (fun cdv A outer s H vs Q E hr h => ?_)
  · obtain ⟨x, n, b, rfl, _⟩ := h
    rfl
  obtain ⟨x, n, b, rfl, R, q⟩ := h
  obtain ⟨C, dx, p, pm, pw, hC, rc, hx, hp⟩ := R.ex
  refine ⟨_, (pss_one (ps_ret (pe_fld (pv 0) (by rfl)))), ?_⟩
  walk_at "rd"
  exact ⟨x, C, dx, _, _, rfl, hx, rc.cl, rc.k, rfl, q p hp⟩
theorem sc_All___init__ : FnScope ["self"] ["self"] (defScope s_All___init__) := ⟨rfl, rfl, rfl, by decide +kernel, rfl, by decide +kernel, by decide +kernel⟩
theorem ok_All___init__ {f : Addr} {fd : FuncData} (F : Fun K "__init__" "All.__init__" s_All___init__ f fd) (er : Errs K mg c_FeastError c_NoNumber c_TooLong c_Rule c_All c_No c_Each c_Either c_Upon c_Until c_Near c_Till c_Kth c_Every) (c_Rule___init__ : CalB P w K mg base 1 "Rule" ["self", "kept", "made_of", "words"] (spRInit K c_Rule)) : FnOk P w K mg base CX0 3 f fd ["self"] (spI0 K c_Rule [c_All, c_No, c_Each, c_Either, c_Upon, c_Until, c_Near, c_Till, c_Kth, c_Every] c_All 1) := by
  refine F.ok (k := 2) sc_All___init__ (fun vs H Q E h => ?_) (fun cdv A outer s H vs Q E hr h => ?_)
  · obtain ⟨x, rfl, _⟩ := h
    rfl
  obtain ⟨x, rfl, ⟨dx, hx⟩, q⟩ := h
  refine ⟨_, (pss_one (ps_expr (pe_binit c_Rule___init__ (hr.mono (by decide)) rfl (pa_cons (pv 0) (pa_cons (pe_tup (pa_cons pe_int (pa_cons pe_int pa_nil))) (pa_cons (pe_tup pa_nil) (pa_cons (pe_tup (pa_cons pe_str pa_nil)) pa_nil))))))), ?_⟩
  walk_at "rd"
  refine ⟨two', fun p hp => ?_⟩
  have s1 := same_new hp (.tup [.int 1, .int 1])
  have t1 : upd H p (.tup [.int 1, .int 1]) p = some (.tup [.int 1, .int ((1 : Nat) : Int)]) := upd_same
  generalize upd H p (.tup [.int 1, .int 1]) = H1 at s1 t1 ⊢
  walk_at "rd"
  refine ⟨(by show 0 ≤ sizeLine; decide), fun pm hpm => ?_⟩
  walk_at "rd"
  refine ⟨(by show 1 ≤ sizeLine; decide), fun pw hpw => ?_⟩
  have s2 := (same_new hpm (.tup [])).trans (same_new hpw (.tup [.str "all"]))
  have hx2 := (s1.trans s2) _ _ hx
  walk_at "rd"
  exact ⟨x, p, pm, pw, c_All, dx, rfl, hx2, er.rc_All, fun H' k e => q 1 H' (k.pre (s1.trans s2)) (made_rule (List.mem_of_getElem? (i := 0) rfl) er.rc_All hx2 (s2 _ _ t1) k e (by decide) (by decide) (by decide)) rfl⟩
theorem sc_No___init__ : FnScope ["self"] ["self"] (defScope s_No___init__) := ⟨rfl, rfl, rfl, by decide +kernel, rfl, by decide +kernel, by decide +kernel⟩
theorem ok_No___init__ {f : Addr} {fd : FuncData} (F : Fun K "__init__" "No.__init__" s_No___init__ f fd) (er : Errs K mg c_FeastError c_NoNumber c_TooLong c_Rule c_All c_No c_Each c_Either c_Upon c_Until c_Near c_Till c_Kth c_Every) (c_Rule___init__ : CalB P w K mg base 1 "Rule" ["self", "kept", "made_of", "words"] (spRInit K c_Rule)) : FnOk P w K mg base CX0 3 f fd ["self"] (spI0 K c_Rule [c_All, c_No, c_Each, c_Either, c_Upon, c_Until, c_Near, c_Till, c_Kth, c_Every] c_No 0) := by
  refine F.ok (k := 2) sc_No___init__ (fun vs H Q E h => ?_) (fun cdv A outer s H vs Q E hr h => ?_)
  · obtain ⟨x, rfl, _⟩ := h
    rfl
  obtain ⟨x, rfl, ⟨dx, hx⟩, q⟩ := h
  refine ⟨_, (pss_one (ps_expr (pe_binit c_Rule___init__ (hr.mono (by decide)) rfl (pa_cons (pv 0) (pa_cons (pe_tup (pa_cons pe_int (pa_cons pe_int pa_nil))) (pa_cons (pe_tup pa_nil) (pa_cons (pe_tup (pa_cons pe_str pa_nil)) pa_nil))))))), ?_⟩
  walk_at "rd"
  refine ⟨two', fun p hp => ?_⟩
  have s1 := same_new hp (.tup [.int 1, .int 0])
  have t1 : upd H p (.tup [.int 1, .int 0]) p = some (.tup [.int 1, .int ((0 : Nat) : Int)]) := upd_same
  generalize upd H p (.tup [.int 1, .int 0]) = H1 at s1 t1 ⊢
  walk_at "rd"
  refine ⟨(by show 0 ≤ sizeLine; decide), fun pm hpm => ?_⟩
  walk_at "rd"
  refine ⟨(by show 1 ≤ sizeLine; decide), fun pw hpw => ?_⟩
  have s2 := (same_new hpm (.tup [])).trans (same_new hpw (.tup [.str "none"]))
  have hx2 := (s1.trans s2) _ _ hx
  walk_at "rd"
  exact ⟨x, p, pm, pw, c_No, dx, rfl, hx2, er.rc_No, fun H' k e => q 0 H' (k.pre (s1.trans s2)) (made_rule (List.mem_of_getElem? (i := 1) rfl) er.rc_No hx2 (s2 _ _ t1) k e (by decide) (by decide) (by decide)) rfl⟩
theorem sc_each_text : FnScope ["step", "rest", "least_rest"] ["step", "rest"] (defScope s_each_text) := ⟨rfl, rfl, rfl, by decide +kernel, rfl, by decide +kernel, by decide +kernel⟩
theorem ok_each_text {f : Addr} {fd : FuncData} (F : Fun K "each_text" "each_text" s_each_text f fd) : FnOk P w K mg base CX0 1 f fd ["step", "rest"] spEachT := by
  refine F.ok (k := 0) sc_each_text (fun vs H Q E h => ?_) (fun cdv A outer s H vs Q E hr h => ?_)
  · obtain ⟨n, r, rfl, _⟩ := h
    rfl
  obtain ⟨n, r, rfl, n0, n1, br, q⟩ := h
  refine ⟨_, (pss_cons (ps_set (i := 2) sc_each_text.nd rfl (by first | exact Or.inl rfl | exact Or.inr rfl) (pe_op op_mod (pv 1) (pv 0)))
      (pss_one (ps_ret (pe_join (pj_cons pe_str (pj_cons (pe_fmt hr.toN (pv 0)) (pj_cons pe_str (pj_cons (pe_fmt hr.toN (pv 2)) pj_nil)))))))), ?_⟩
  walk_at "rd"
  refine rd_join ?_
  have m0 := Int.emod_nonneg r (show n ≠ 0 by omega)
  have m1 := Int.emod_lt_of_pos r (show 0 < n by omega)
  refine rd_jc 0 (by decide) (by decide) fun l1 => rd_ji _ l1 (by decide) rfl (bt_log (bt_small (by omega) (by omega) (by decide) : Bt 1900 n) (by decide) (by decide)) fun l2 => rd_jc _ l2 (by decide) fun l3 => rd_ji _ l3 (by decide) rfl (bt_log (bt_small (by omega) (by omega) (by decide) : Bt 1900 (r % n)) (by decide) (by decide)) fun l4 => rd_jnil (fits l4 (by decide)) ?_
  exact q _ _ (Same.refl _)
theorem sc_Each___init__ : FnScope ["self", "size", "rest", "kept"] ["self", "size", "rest"] (defScope s_Each___init__) := ⟨rfl, rfl, rfl, by decide +kernel, rfl, by decide +kernel, by decide +kernel⟩
theorem ok_Each___init__ {f : Addr} {fd : FuncData} (F : Fun K "__init__" "Each.__init__" s_Each___init__ f fd) (er : Errs K mg c_FeastError c_NoNumber c_TooLong c_Rule c_All c_No c_Each c_Either c_Upon c_Until c_Near c_Till c_Kth c_Every) (c_round_by : Cal P w K mg base 2 "round_by" ["size", "days"] (spRoundBy K)) (c_Rule___init__ : CalB P w K mg base 1 "Rule" ["self", "kept", "made_of", "words"] (spRInit K c_Rule)) (c_each_text : Cal P w K mg base 1 "each_text" ["step", "rest"] spEachT) : FnOk P w K mg base CX0 3 f fd ["self", "size", "rest"] (spIEach K c_Rule [c_All, c_No, c_Each, c_Either, c_Upon, c_Until, c_Near, c_Till, c_Kth, c_Every] c_Each) := by
  refine F.ok (k := 2) sc_Each___init__ (fun vs H Q E h => ?_) (fun cdv A outer s H vs Q E hr h => ?_)
  · obtain ⟨x, n, r, rfl, _⟩ := h
    rfl
  obtain ⟨x, n, r, rfl, n0, n1, br, ⟨dx, hx⟩, q⟩ := h
  refine ⟨_, (pss_cons (ps_set (i := 3) sc_Each___init__.nd rfl (by first | exact Or.inl rfl | exact Or.inr rfl) (pe_cal c_round_by (hr.mono (by decide)) rfl (pa_cons (pv 1) (pa_cons (pe_lst (pa_cons (pv 2) pa_nil)) pa_nil))))
      (pss_one (ps_expr (pe_binit c_Rule___init__ (hr.mono (by decide)) rfl (pa_cons (pv 0) (pa_cons (pv 3) (pa_cons (pe_tup pa_nil) (pa_cons (pe_tup (pa_cons (pe_cal c_each_text (hr.mono (by decide)) rfl (pa_cons (pv 1) (pa_cons (pv 2) pa_nil))) pa_nil)) pa_nil)))))))), ?_⟩
  walk_at "rd"
  refine ⟨(by show 1 ≤ sizeLine; decide), fun l hl => ?_⟩
  have s1 := same_new hl (.lst [.int r])
  have t1 : upd H l (.lst [.int r]) l = some (.lst ([r].map V.int)) := upd_same
  generalize upd H l (.lst [.int r]) = H1 at s1 t1 ⊢
  walk_at "rd"
  refine ⟨l, [r], n, rfl, SqL.of t1, by omega, by omega, fun p b H2 s2 t2 B => ?_⟩
  walk_at "rd"
  refine ⟨(by show 0 ≤ sizeLine; decide), fun pm hpm => ?_⟩
  have s3 := same_new hpm (.tup [])
  generalize upd H2 pm (.tup []) = H3 at s3 ⊢
  walk_at "rd"
  refine ⟨n, r, rfl, n0, n1, br, fun z H4 s4 => ?_⟩
  walk_at "rd"
  refine ⟨(by show 1 ≤ sizeLine; decide), fun pw hpw => ?_⟩
  have s5 := s3.trans (s4.trans (same_new hpw (.tup [.str z])))
  have hx5 := (s1.trans (s2.trans s5)) _ _ hx
  walk_at "rd"
  exact ⟨x, p, pm, pw, c_Each, dx, rfl, hx5, er.rc_Each, fun H' k e => q b H' (k.pre (s1.trans (s2.trans s5))) (made_rule (List.mem_of_getElem? (i := 2) rfl) er.rc_Each hx5 (s5 _ _ t2) k e (by omega) (by omega) B.lt) B⟩
theorem sc_Either___init__ : FnScope ["self", "R", "S"] ["self", "R", "S"] (defScope s_Either___init__) := ⟨rfl, rfl, rfl, by decide +kernel, rfl, by decide +kernel, by decide +kernel⟩
theorem ok_Either___init__ {f : Addr} {fd : FuncData} (F : Fun K "__init__" "Either.__init__" s_Either___init__ f fd) (er : Errs K mg c_FeastError c_NoNumber c_TooLong c_Rule c_All c_No c_Each c_Either c_Upon c_Until c_Near c_Till c_Kth c_Every) (c_Rule___init__ : CalB P w K mg base 1 "Rule" ["self", "kept", "made_of", "words"] (spRInit K c_Rule)) (c_either : Cal P w K mg base 5 "either" ["one", "other"] (spBo K or)) (c_All_turn : CalM P w K mg base CX0 1 c_All "turn" ["self"] (spTurnM K c_Rule [c_All, c_No, c_Each, c_Either, c_Upon, c_Until, c_Near, c_Till, c_Kth, c_Every])) (c_No_turn : CalM P w K mg base CX0 1 c_No "turn" ["self"] (spTurnM K c_Rule [c_All, c_No, c_Each, c_Either, c_Upon, c_Until, c_Near, c_Till, c_Kth, c_Every])) (c_Each_turn : CalM P w K mg base CX0 1 c_Each "turn" ["self"] (spTurnM K c_Rule [c_All, c_No, c_Each, c_Either, c_Upon, c_Until, c_Near, c_Till, c_Kth, c_Every])) (c_Either_turn : CalM P w K mg base CX0 1 c_Either "turn" ["self"] (spTurnM K c_Rule [c_All, c_No, c_Each, c_Either, c_Upon, c_Until, c_Near, c_Till, c_Kth, c_Every])) (c_Upon_turn : CalM P w K mg base CX0 1 c_Upon "turn" ["self"] (spTurnM K c_Rule [c_All, c_No, c_Each, c_Either, c_Upon, c_Until, c_Near, c_Till, c_Kth, c_Every])) (c_Until_turn : CalM P w K mg base CX0 1 c_Until "turn" ["self"] (spTurnM K c_Rule [c_All, c_No, c_Each, c_Either, c_Upon, c_Until, c_Near, c_Till, c_Kth, c_Every])) (c_Near_turn : CalM P w K mg base CX0 1 c_Near "turn" ["self"] (spTurnM K c_Rule [c_All, c_No, c_Each, c_Either, c_Upon, c_Until, c_Near, c_Till, c_Kth, c_Every])) (c_Till_turn : CalM P w K mg base CX0 1 c_Till "turn" ["self"] (spTurnM K c_Rule [c_All, c_No, c_Each, c_Either, c_Upon, c_Until, c_Near, c_Till, c_Kth, c_Every])) (c_Kth_turn : CalM P w K mg base CX0 1 c_Kth "turn" ["self"] (spTurnM K c_Rule [c_All, c_No, c_Each, c_Either, c_Upon, c_Until, c_Near, c_Till, c_Kth, c_Every])) (c_Every_turn : CalM P w K mg base CX0 1 c_Every "turn" ["self"] (spTurnM K c_Rule [c_All, c_No, c_Each, c_Either, c_Upon, c_Until, c_Near, c_Till, c_Kth, c_Every])) : FnOk P w K mg base CX0 6 f fd ["self", "R", "S"] (spITwo K c_Rule [c_All, c_No, c_Each, c_Either, c_Upon, c_Until, c_Near, c_Till, c_Kth, c_Every] c_Either or) := by
  refine F.ok (k := 5) sc_Either___init__ (fun vs H Q E h => ?_) (fun cdv A outer s H vs Q E hr h => ?_)
  · obtain ⟨x, r, t, n1, n2, b1, b2, rfl, _⟩ := h
    rfl
  obtain ⟨x, r, t, n1, n2, b1, b2, rfl, R1, R2, lz, ⟨dx, hx⟩, q⟩ := h
  have fl := lcmI_facts R1.n0 R2.n0
  refine ⟨_, (pss_one (ps_expr (pe_binit c_Rule___init__ (hr.mono (by decide)) rfl (pa_cons (pv 0) (pa_cons (pe_cal c_either (hr.mono (by decide)) rfl (pa_cons (pe_mcalL0 (k := 1) (CalL.cons er.cl_All c_All_turn (by decide) (CalL.cons er.cl_No c_No_turn (by decide) (CalL.cons er.cl_Each c_Each_turn (by decide) (CalL.cons er.cl_Either c_Either_turn (by decide) (CalL.cons er.cl_Upon c_Upon_turn (by decide) (CalL.cons er.cl_Until c_Until_turn (by decide) (CalL.cons er.cl_Near c_Near_turn (by decide) (CalL.cons er.cl_Till c_Till_turn (by decide) (CalL.cons er.cl_Kth c_Kth_turn (by decide) (CalL.cons er.cl_Every c_Every_turn (by decide) CalL.nil)))))))))) (hr.mono (by decide)) (pv 1)) (pa_cons (pe_mcalL0 (k := 1) (CalL.cons er.cl_All c_All_turn (by decide) (CalL.cons er.cl_No c_No_turn (by decide) (CalL.cons er.cl_Each c_Each_turn (by decide) (CalL.cons er.cl_Either c_Either_turn (by decide) (CalL.cons er.cl_Upon c_Upon_turn (by decide) (CalL.cons er.cl_Until c_Until_turn (by decide) (CalL.cons er.cl_Near c_Near_turn (by decide) (CalL.cons er.cl_Till c_Till_turn (by decide) (CalL.cons er.cl_Kth c_Kth_turn (by decide) (CalL.cons er.cl_Every c_Every_turn (by decide) CalL.nil)))))))))) (hr.mono (by decide)) (pv 2)) pa_nil))) (pa_cons (pe_tup (pa_cons (pv 1) (pa_cons (pv 2) pa_nil))) (pa_cons (pe_tup (pa_cons pe_str (pa_cons pe_str (pa_cons pe_str pa_nil)))) pa_nil))))))), ?_⟩
  walk_at "rd"
  obtain ⟨C, dr, fs, m, hr1, l1, l2, l3⟩ := R1.meth (spTurnM K c_Rule [c_All, c_No, c_Each, c_Either, c_Upon, c_Until, c_Near, c_Till, c_Kth, c_Every])
  refine ⟨r, C, dr, fs, _, m, rfl, hr1, l1, ?_⟩
  walk_at "rd"
  refine ⟨r, n1, b1, rfl, R1, fun p hp => ?_⟩
  walk_at "rd"
  obtain ⟨C', dr', fs', m', hr2, l1', l2', l3'⟩ := R2.meth (spTurnM K c_Rule [c_All, c_No, c_Each, c_Either, c_Upon, c_Until, c_Near, c_Till, c_Kth, c_Every])
  refine ⟨t, C', dr', fs', _, m', rfl, hr2, l1', ?_⟩
  walk_at "rd"
  refine ⟨t, n2, b2, rfl, R2, fun p' hp' => ?_⟩
  walk_at "rd"
  refine ⟨p, p', n1, n2, b1, b2, rfl, SqT.of hp, SqT.of hp', R1.n0, R2.n0, R1.n1, R2.n1, lz, R1.lt, R2.lt, fun p2 c H1 s1 t1 B => ?_⟩
  walk_at "rd"
  refine ⟨two', fun pm hpm => ?_⟩
  have s2 := same_new hpm (.tup [.ref r, .ref t])
  generalize upd H1 pm (.tup [.ref r, .ref t]) = H2 at s2 ⊢
  walk_at "rd"
  refine ⟨(by show 3 ≤ sizeLine; decide), fun pw hpw => ?_⟩
  have s3 := s2.trans (same_new hpw (.tup [.str "(", .str " or ", .str ")"]))
  have hx3 := (s1.trans s3) _ _ hx
  walk_at "rd"
  exact ⟨x, p2, pm, pw, c_Either, dx, rfl, hx3, er.rc_Either, fun H' k e => q c H' (k.pre (s1.trans s3)) (made_rule (List.mem_of_getElem? (i := 3) rfl) er.rc_Either hx3 (s3 _ _ t1) k e fl.1 lz B.lt) (B.on R1.n0 R2.n0 fl.1 fl.2.1 fl.2.2.1)⟩
theorem sc_Upon___init__ : FnScope ["self", "R", "S"] ["self", "R", "S"] (defScope s_Upon___init__) := ⟨rfl, rfl, rfl, by decide +kernel, rfl, by decide +kernel, by decide +kernel⟩
theorem ok_Upon___init__ {f : Addr} {fd : FuncData} (F : Fun K "__init__" "Upon.__init__" s_Upon___init__ f fd) (er : Errs K mg c_FeastError c_NoNumber c_TooLong c_Rule c_All c_No c_Each c_Either c_Upon c_Until c_Near c_Till c_Kth c_Every) (c_Rule___init__ : CalB P w K mg base 1 "Rule" ["self", "kept", "made_of", "words"] (spRInit K c_Rule)) (c_upon : Cal P w K mg base 7 "upon" ["R", "S"] (spW K UponR)) (c_All_turn : CalM P w K mg base CX0 1 c_All "turn" ["self"] (spTurnM K c_Rule [c_All, c_No, c_Each, c_Either, c_Upon, c_Until, c_Near, c_Till, c_Kth, c_Every])) (c_No_turn : CalM P w K mg base CX0 1 c_No "turn" ["self"] (spTurnM K c_Rule [c_All, c_No, c_Each, c_Either, c_Upon, c_Until, c_Near, c_Till, c_Kth, c_Every])) (c_Each_turn : CalM P w K mg base CX0 1 c_Each "turn" ["self"] (spTurnM K c_Rule [c_All, c_No, c_Each, c_Either, c_Upon, c_Until, c_Near, c_Till, c_Kth, c_Every])) (c_Either_turn : CalM P w K mg base CX0 1 c_Either "turn" ["self"] (spTurnM K c_Rule [c_All, c_No, c_Each, c_Either, c_Upon, c_Until, c_Near, c_Till, c_Kth, c_Every])) (c_Upon_turn : CalM P w K mg base CX0 1 c_Upon "turn" ["self"] (spTurnM K c_Rule [c_All, c_No, c_Each, c_Either, c_Upon, c_Until, c_Near, c_Till, c_Kth, c_Every])) (c_Until_turn : CalM P w K mg base CX0 1 c_Until "turn" ["self"] (spTurnM K c_Rule [c_All, c_No, c_Each, c_Either, c_Upon, c_Until, c_Near, c_Till, c_Kth, c_Every])) (c_Near_turn : CalM P w K mg base CX0 1 c_Near "turn" ["self"] (spTurnM K c_Rule [c_All, c_No, c_Each, c_Either, c_Upon, c_Until, c_Near, c_Till, c_Kth, c_Every])) (c_Till_turn : CalM P w K mg base CX0 1 c_Till "turn" ["self"] (spTurnM K c_Rule [c_All, c_No, c_Each, c_Either, c_Upon, c_Until, c_Near, c_Till, c_Kth, c_Every])) (c_Kth_turn : CalM P w K mg base CX0 1 c_Kth "turn" ["self"] (spTurnM K c_Rule [c_All, c_No, c_Each, c_Either, c_Upon, c_Until, c_Near, c_Till, c_Kth, c_Every])) (c_Every_turn : CalM P w K mg base CX0 1 c_Every "turn" ["self"] (spTurnM K c_Rule [c_All, c_No, c_Each, c_Either, c_Upon, c_Until, c_Near, c_Till, c_Kth, c_Every])) : FnOk P w K mg base CX0 8 f fd ["self", "R", "S"] (spIW K c_Rule [c_All, c_No, c_Each, c_Either, c_Upon, c_Until, c_Near, c_Till, c_Kth, c_Every] c_Upon UponR) := by
  refine F.ok (k := 7) sc_Upon___init__ (fun vs H Q E h => ?_) (fun cdv A outer s H vs Q E hr h => ?_)
  · obtain ⟨x, r, t, n1, n2, b1, b2, rfl, _⟩ := h
    rfl
  obtain ⟨x, r, t, n1, n2, b1, b2, rfl, R1, R2, lz, ⟨dx, hx⟩, q⟩ := h
  have fl := lcmI_facts R1.n0 R2.n0
  refine ⟨_, (pss_one (ps_expr (pe_binit c_Rule___init__ (hr.mono (by decide)) rfl (pa_cons (pv 0) (pa_cons (pe_cal c_upon (hr.mono (by decide)) rfl (pa_cons (pe_mcalL0 (k := 1) (CalL.cons er.cl_All c_All_turn (by decide) (CalL.cons er.cl_No c_No_turn (by decide) (CalL.cons er.cl_Each c_Each_turn (by decide) (CalL.cons er.cl_Either c_Either_turn (by decide) (CalL.cons er.cl_Upon c_Upon_turn (by decide) (CalL.cons er.cl_Until c_Until_turn (by decide) (CalL.cons er.cl_Near c_Near_turn (by decide) (CalL.cons er.cl_Till c_Till_turn (by decide) (CalL.cons er.cl_Kth c_Kth_turn (by decide) (CalL.cons er.cl_Every c_Every_turn (by decide) CalL.nil)))))))))) (hr.mono (by decide)) (pv 1)) (pa_cons (pe_mcalL0 (k := 1) (CalL.cons er.cl_All c_All_turn (by decide) (CalL.cons er.cl_No c_No_turn (by decide) (CalL.cons er.cl_Each c_Each_turn (by decide) (CalL.cons er.cl_Either c_Either_turn (by decide) (CalL.cons er.cl_Upon c_Upon_turn (by decide) (CalL.cons er.cl_Until c_Until_turn (by decide) (CalL.cons er.cl_Near c_Near_turn (by decide) (CalL.cons er.cl_Till c_Till_turn (by decide) (CalL.cons er.cl_Kth c_Kth_turn (by decide) (CalL.cons er.cl_Every c_Every_turn (by decide) CalL.nil)))))))))) (hr.mono (by decide)) (pv 2)) pa_nil))) (pa_cons (pe_tup (pa_cons (pv 1) (pa_cons (pv 2) pa_nil))) (pa_cons (pe_tup (pa_cons pe_str (pa_cons pe_str (pa_cons pe_str pa_nil)))) pa_nil))))))), ?_⟩
  walk_at "rd"
  obtain ⟨C, dr, fs, m, hr1, l1, l2, l3⟩ := R1.meth (spTurnM K c_Rule [c_All, c_No, c_Each, c_Either, c_Upon, c_Until, c_Near, c_Till, c_Kth, c_Every])
  refine ⟨r, C, dr, fs, _, m, rfl, hr1, l1, ?_⟩
  walk_at "rd"
  refine ⟨r, n1, b1, rfl, R1, fun p hp => ?_⟩
  walk_at "rd"
  obtain ⟨C', dr', fs', m', hr2, l1', l2', l3'⟩ := R2.meth (spTurnM K c_Rule [c_All, c_No, c_Each, c_Either, c_Upon, c_Until, c_Near, c_Till, c_Kth, c_Every])
  refine ⟨t, C', dr', fs', _, m', rfl, hr2, l1', ?_⟩
  walk_at "rd"
  refine ⟨t, n2, b2, rfl, R2, fun p' hp' => ?_⟩
  walk_at "rd"
  refine ⟨p, p', n1, n2, b1, b2, rfl, SqT.of hp, SqT.of hp', R1.n0, R2.n0, R1.n1, R2.n1, R1.lt, R2.lt, lz, fun p2 c H1 s1 t1 lt on => ?_⟩
  walk_at "rd"
  refine ⟨two', fun pm hpm => ?_⟩
  have s2 := same_new hpm (.tup [.ref r, .ref t])
  generalize upd H1 pm (.tup [.ref r, .ref t]) = H2 at s2 ⊢
  walk_at "rd"
  refine ⟨(by show 3 ≤ sizeLine; decide), fun pw hpw => ?_⟩
  have s3 := s2.trans (same_new hpw (.tup [.str "(", .str " upon ", .str ")"]))
  have hx3 := (s1.trans s3) _ _ hx
  walk_at "rd"
  exact ⟨x, p2, pm, pw, c_Upon, dx, rfl, hx3, er.rc_Upon, fun H' k e => q c H' (k.pre (s1.trans s3)) (made_rule (List.mem_of_getElem? (i := 4) rfl) er.rc_Upon hx3 (s3 _ _ t1) k e fl.1 lz lt) on⟩
theorem sc_Until___init__ : FnScope ["self", "R", "S"] ["self", "R", "S"] (defScope s_Until___init__) := ⟨rfl, rfl, rfl, by decide +kernel, rfl, by decide +kernel, by decide +kernel⟩
theorem ok_Until___init__ {f : Addr} {fd : FuncData} (F : Fun K "__init__" "Until.__init__" s_Until___init__ f fd) (er : Errs K mg c_FeastError c_NoNumber c_TooLong c_Rule c_All c_No c_Each c_Either c_Upon c_Until c_Near c_Till c_Kth c_Every) (c_Rule___init__ : CalB P w K mg base 1 "Rule" ["self", "kept", "made_of", "words"] (spRInit K c_Rule)) (c_until : Cal P w K mg base 7 "until" ["R", "S"] (spW K UntilR)) (c_All_turn : CalM P w K mg base CX0 1 c_All "turn" ["self"] (spTurnM K c_Rule [c_All, c_No, c_Each, c_Either, c_Upon, c_Until, c_Near, c_Till, c_Kth, c_Every])) (c_No_turn : CalM P w K mg base CX0 1 c_No "turn" ["self"] (spTurnM K c_Rule [c_All, c_No, c_Each, c_Either, c_Upon, c_Until, c_Near, c_Till, c_Kth, c_Every])) (c_Each_turn : CalM P w K mg base CX0 1 c_Each "turn" ["self"] (spTurnM K c_Rule [c_All, c_No, c_Each, c_Either, c_Upon, c_Until, c_Near, c_Till, c_Kth, c_Every])) (c_Either_turn : CalM P w K mg base CX0 1 c_Either "turn" ["self"] (spTurnM K c_Rule [c_All, c_No, c_Each, c_Either, c_Upon, c_Until, c_Near, c_Till, c_Kth, c_Every])) (c_Upon_turn : CalM P w K mg base CX0 1 c_Upon "turn" ["self"] (spTurnM K c_Rule [c_All, c_No, c_Each, c_Either, c_Upon, c_Until, c_Near, c_Till, c_Kth, c_Every])) (c_Until_turn : CalM P w K mg base CX0 1 c_Until "turn" ["self"] (spTurnM K c_Rule [c_All, c_No, c_Each, c_Either, c_Upon, c_Until, c_Near, c_Till, c_Kth, c_Every])) (c_Near_turn : CalM P w K mg base CX0 1 c_Near "turn" ["self"] (spTurnM K c_Rule [c_All, c_No, c_Each, c_Either, c_Upon, c_Until, c_Near, c_Till, c_Kth, c_Every])) (c_Till_turn : CalM P w K mg base CX0 1 c_Till "turn" ["self"] (spTurnM K c_Rule [c_All, c_No, c_Each, c_Either, c_Upon, c_Until, c_Near, c_Till, c_Kth, c_Every])) (c_Kth_turn : CalM P w K mg base CX0 1 c_Kth "turn" ["self"] (spTurnM K c_Rule [c_All, c_No, c_Each, c_Either, c_Upon, c_Until, c_Near, c_Till, c_Kth, c_Every])) (c_Every_turn : CalM P w K mg base CX0 1 c_Every "turn" ["self"] (spTurnM K c_Rule [c_All, c_No, c_Each, c_Either, c_Upon, c_Until, c_Near, c_Till, c_Kth, c_Every])) : FnOk P w K mg base CX0 8 f fd ["self", "R", "S"] (spIW K c_Rule [c_All, c_No, c_Each, c_Either, c_Upon, c_Until, c_Near, c_Till, c_Kth, c_Every] c_Until UntilR) := by
  refine F.ok (k := 7) sc_Until___init__ (fun vs H Q E h => ?_) (fun cdv A outer s H vs Q E hr h => ?_)
  · obtain ⟨x, r, t, n1, n2, b1, b2, rfl, _⟩ := h
    rfl
  obtain ⟨x, r, t, n1, n2, b1, b2, rfl, R1, R2, lz, ⟨dx, hx⟩, q⟩ := h
  have fl := lcmI_facts R1.n0 R2.n0
  refine ⟨_, (pss_one (ps_expr (pe_binit c_Rule___init__ (hr.mono (by decide)) rfl (pa_cons (pv 0) (pa_cons (pe_cal c_until (hr.mono (by decide)) rfl (pa_cons (pe_mcalL0 (k := 1) (CalL.cons er.cl_All c_All_turn (by decide) (CalL.cons er.cl_No c_No_turn (by decide) (CalL.cons er.cl_Each c_Each_turn (by decide) (CalL.cons er.cl_Either c_Either_turn (by decide) (CalL.cons er.cl_Upon c_Upon_turn (by decide) (CalL.cons er.cl_Until c_Until_turn (by decide) (CalL.cons er.cl_Near c_Near_turn (by decide) (CalL.cons er.cl_Till c_Till_turn (by decide) (CalL.cons er.cl_Kth c_Kth_turn (by decide) (CalL.cons er.cl_Every c_Every_turn (by decide) CalL.nil)))))))))) (hr.mono (by decide)) (pv 1)) (pa_cons (pe_mcalL0 (k := 1) (CalL.cons er.cl_All c_All_turn (by decide) (CalL.cons er.cl_No c_No_turn (by decide) (CalL.cons er.cl_Each c_Each_turn (by decide) (CalL.cons er.cl_Either c_Either_turn (by decide) (CalL.cons er.cl_Upon c_Upon_turn (by decide) (CalL.cons er.cl_Until c_Until_turn (by decide) (CalL.cons er.cl_Near c_Near_turn (by decide) (CalL.cons er.cl_Till c_Till_turn (by decide) (CalL.cons er.cl_Kth c_Kth_turn (by decide) (CalL.cons er.cl_Every c_Every_turn (by decide) CalL.nil)))))))))) (hr.mono (by decide)) (pv 2)) pa_nil))) (pa_cons (pe_tup (pa_cons (pv 1) (pa_cons (pv 2) pa_nil))) (pa_cons (pe_tup (pa_cons pe_str (pa_cons pe_str (pa_cons pe_str pa_nil)))) pa_nil))))))), ?_⟩
  walk_at "rd"
  obtain ⟨C, dr, fs, m, hr1, l1, l2, l3⟩ := R1.meth (spTurnM K c_Rule [c_All, c_No, c_Each, c_Either, c_Upon, c_Until, c_Near, c_Till, c_Kth, c_Every])
  refine ⟨r, C, dr, fs, _, m, rfl, hr1, l1, ?_⟩
  walk_at "rd"
  refine ⟨r, n1, b1, rfl, R1, fun p hp => ?_⟩
  walk_at "rd"
  obtain ⟨C', dr', fs', m', hr2, l1', l2', l3'⟩ := R2.meth (spTurnM K c_Rule [c_All, c_No, c_Each, c_Either, c_Upon, c_Until, c_Near, c_Till, c_Kth, c_Every])
  refine ⟨t, C', dr', fs', _, m', rfl, hr2, l1', ?_⟩
  walk_at "rd"
  refine ⟨t, n2, b2, rfl, R2, fun p' hp' => ?_⟩
  walk_at "rd"
  refine ⟨p, p', n1, n2, b1, b2, rfl, SqT.of hp, SqT.of hp', R1.n0, R2.n0, R1.n1, R2.n1, R1.lt, R2.lt, lz, fun p2 c H1 s1 t1 lt on => ?_⟩
  walk_at "rd"
  refine ⟨two', fun pm hpm => ?_⟩
  have s2 := same_new hpm (.tup [.ref r, .ref t])
  generalize upd H1 pm (.tup [.ref r, .ref t]) = H2 at s2 ⊢
  walk_at "rd"
  refine ⟨(by show 3 ≤ sizeLine; decide), fun pw hpw => ?_⟩
  have s3 := s2.trans (same_new hpw (.tup [.str "(", .str " until ", .str ")"]))
  have hx3 := (s1.trans s3) _ _ hx
  walk_at "rd"
  exact ⟨x, p2, pm, pw, c_Until, dx, rfl, hx3, er.rc_Until, fun H' k e => q c H' (k.pre (s1.trans s3)) (made_rule (List.mem_of_getElem? (i := 5) rfl) er.rc_Until hx3 (s3 _ _ t1) k e fl.1 lz lt) on⟩
theorem sc_Near___init__ : FnScope ["self", "R", "S"] ["self", "R", "S"] (defScope s_Near___init__) := ⟨rfl, rfl, rfl, by decide +kernel, rfl, by decide +kernel, by decide +kernel⟩
theorem ok_Near___init__ {f : Addr} {fd : FuncData} (F : Fun K "__init__" "Near.__init__" s_Near___init__ f fd) (er : Errs K mg c_FeastError c_NoNumber c_TooLong c_Rule c_All c_No c_Each c_Either c_Upon c_Until c_Near c_Till c_Kth c_Every) (c_Rule___init__ : CalB P w K mg base 1 "Rule" ["self", "kept", "made_of", "words"] (spRInit K c_Rule)) (c_near : Cal P w K mg base 9 "near" ["R", "S"] (spW K NearR)) (c_All_turn : CalM P w K mg base CX0 1 c_All "turn" ["self"] (spTurnM K c_Rule [c_All, c_No, c_Each, c_Either, c_Upon, c_Until, c_Near, c_Till, c_Kth, c_Every])) (c_No_turn : CalM P w K mg base CX0 1 c_No "turn" ["self"] (spTurnM K c_Rule [c_All, c_No, c_Each, c_Either, c_Upon, c_Until, c_Near, c_Till, c_Kth, c_Every])) (c_Each_turn : CalM P w K mg base CX0 1 c_Each "turn" ["self"] (spTurnM K c_Rule [c_All, c_No, c_Each, c_Either, c_Upon, c_Until, c_Near, c_Till, c_Kth, c_Every])) (c_Either_turn : CalM P w K mg base CX0 1 c_Either "turn" ["self"] (spTurnM K c_Rule [c_All, c_No, c_Each, c_Either, c_Upon, c_Until, c_Near, c_Till, c_Kth, c_Every])) (c_Upon_turn : CalM P w K mg base CX0 1 c_Upon "turn" ["self"] (spTurnM K c_Rule [c_All, c_No, c_Each, c_Either, c_Upon, c_Until, c_Near, c_Till, c_Kth, c_Every])) (c_Until_turn : CalM P w K mg base CX0 1 c_Until "turn" ["self"] (spTurnM K c_Rule [c_All, c_No, c_Each, c_Either, c_Upon, c_Until, c_Near, c_Till, c_Kth, c_Every])) (c_Near_turn : CalM P w K mg base CX0 1 c_Near "turn" ["self"] (spTurnM K c_Rule [c_All, c_No, c_Each, c_Either, c_Upon, c_Until, c_Near, c_Till, c_Kth, c_Every])) (c_Till_turn : CalM P w K mg base CX0 1 c_Till "turn" ["self"] (spTurnM K c_Rule [c_All, c_No, c_Each, c_Either, c_Upon, c_Until, c_Near, c_Till, c_Kth, c_Every])) (c_Kth_turn : CalM P w K mg base CX0 1 c_Kth "turn" ["self"] (spTurnM K c_Rule [c_All, c_No, c_Each, c_Either, c_Upon, c_Until, c_Near, c_Till, c_Kth, c_Every])) (c_Every_turn : CalM P w K mg base CX0 1 c_Every "turn" ["self"] (spTurnM K c_Rule [c_All, c_No, c_Each, c_Either, c_Upon, c_Until, c_Near, c_Till, c_Kth, c_Every])) : FnOk P w K mg base CX0 10 f fd ["self", "R", "S"] (spIW K c_Rule [c_All, c_No, c_Each, c_Either, c_Upon, c_Until, c_Near, c_Till, c_Kth, c_Every] c_Near NearR) := by
  refine F.ok (k := 9) sc_Near___init__ (fun vs H Q E h => ?_) (fun cdv A outer s H vs Q E hr h => ?_)
  · obtain ⟨x, r, t, n1, n2, b1, b2, rfl, _⟩ := h
    rfl
  obtain ⟨x, r, t, n1, n2, b1, b2, rfl, R1, R2, lz, ⟨dx, hx⟩, q⟩ := h
  have fl := lcmI_facts R1.n0 R2.n0
  refine ⟨_, (pss_one (ps_expr (pe_binit c_Rule___init__ (hr.mono (by decide)) rfl (pa_cons (pv 0) (pa_cons (pe_cal c_near (hr.mono (by decide)) rfl (pa_cons (pe_mcalL0 (k := 1) (CalL.cons er.cl_All c_All_turn (by decide) (CalL.cons er.cl_No c_No_turn (by decide) (CalL.cons er.cl_Each c_Each_turn (by decide) (CalL.cons er.cl_Either c_Either_turn (by decide) (CalL.cons er.cl_Upon c_Upon_turn (by decide) (CalL.cons er.cl_Until c_Until_turn (by decide) (CalL.cons er.cl_Near c_Near_turn (by decide) (CalL.cons er.cl_Till c_Till_turn (by decide) (CalL.cons er.cl_Kth c_Kth_turn (by decide) (CalL.cons er.cl_Every c_Every_turn (by decide) CalL.nil)))))))))) (hr.mono (by decide)) (pv 1)) (pa_cons (pe_mcalL0 (k := 1) (CalL.cons er.cl_All c_All_turn (by decide) (CalL.cons er.cl_No c_No_turn (by decide) (CalL.cons er.cl_Each c_Each_turn (by decide) (CalL.cons er.cl_Either c_Either_turn (by decide) (CalL.cons er.cl_Upon c_Upon_turn (by decide) (CalL.cons er.cl_Until c_Until_turn (by decide) (CalL.cons er.cl_Near c_Near_turn (by decide) (CalL.cons er.cl_Till c_Till_turn (by decide) (CalL.cons er.cl_Kth c_Kth_turn (by decide) (CalL.cons er.cl_Every c_Every_turn (by decide) CalL.nil)))))))))) (hr.mono (by decide)) (pv 2)) pa_nil))) (pa_cons (pe_tup (pa_cons (pv 1) (pa_cons (pv 2) pa_nil))) (pa_cons (pe_tup (pa_cons pe_str (pa_cons pe_str (pa_cons pe_str pa_nil)))) pa_nil))))))), ?_⟩
  walk_at "rd"
  obtain ⟨C, dr, fs, m, hr1, l1, l2, l3⟩ := R1.meth (spTurnM K c_Rule [c_All, c_No, c_Each, c_Either, c_Upon, c_Until, c_Near, c_Till, c_Kth, c_Every])
  refine ⟨r, C, dr, fs, _, m, rfl, hr1, l1, ?_⟩
  walk_at "rd"
  refine ⟨r, n1, b1, rfl, R1, fun p hp => ?_⟩
  walk_at "rd"
  obtain ⟨C', dr', fs', m', hr2, l1', l2', l3'⟩ := R2.meth (spTurnM K c_Rule [c_All, c_No, c_Each, c_Either, c_Upon, c_Until, c_Near, c_Till, c_Kth, c_Every])
  refine ⟨t, C', dr', fs', _, m', rfl, hr2, l1', ?_⟩
  walk_at "rd"
  refine ⟨t, n2, b2, rfl, R2, fun p' hp' => ?_⟩
  walk_at "rd"
  refine ⟨p, p', n1, n2, b1, b2, rfl, SqT.of hp, SqT.of hp', R1.n0, R2.n0, R1.n1, R2.n1, R1.lt, R2.lt, lz, fun p2 c H1 s1 t1 lt on => ?_⟩
  walk_at "rd"
  refine ⟨two', fun pm hpm => ?_⟩
  have s2 := same_new hpm (.tup [.ref r, .ref t])
  generalize upd H1 pm (.tup [.ref r, .ref t]) = H2 at s2 ⊢
  walk_at "rd"
  refine ⟨(by show 3 ≤ sizeLine; decide), fun pw hpw => ?_⟩
  have s3 := s2.trans (same_new hpw (.tup [.str "(", .str " near ", .str ")"]))
  have hx3 := (s1.trans s3) _ _ hx
  walk_at "rd"
  exact ⟨x, p2, pm, pw, c_Near, dx, rfl, hx3, er.rc_Near, fun H' k e => q c H' (k.pre (s1.trans s3)) (made_rule (List.mem_of_getElem? (i := 6) rfl) er.rc_Near hx3 (s3 _ _ t1) k e fl.1 lz lt) on⟩
theorem sc_Till___init__ : FnScope ["self", "R", "S"] ["self", "R", "S"] (defScope s_Till___init__) := ⟨rfl, rfl, rfl, by decide +kernel, rfl, by decide +kernel, by decide +kernel⟩
theorem ok_Till___init__ {f : Addr} {fd : FuncData} (F : Fun K "__init__" "Till.__init__" s_Till___init__ f fd) (er : Errs K mg c_FeastError c_NoNumber c_TooLong c_Rule c_All c_No c_Each c_Either c_Upon c_Until c_Near c_Till c_Kth c_Every) (c_Rule___init__ : CalB P w K mg base 1 "Rule" ["self", "kept", "made_of", "words"] (spRInit K c_Rule)) (c_till : Cal P w K mg base 7 "till" ["R", "S"] (spW K TillR)) (c_All_turn : CalM P w K mg base CX0 1 c_All "turn" ["self"] (spTurnM K c_Rule [c_All, c_No, c_Each, c_Either, c_Upon, c_Until, c_Near, c_Till, c_Kth, c_Every])) (c_No_turn : CalM P w K mg base CX0 1 c_No "turn" ["self"] (spTurnM K c_Rule [c_All, c_No, c_Each, c_Either, c_Upon, c_Until, c_Near, c_Till, c_Kth, c_Every])) (c_Each_turn : CalM P w K mg base CX0 1 c_Each "turn" ["self"] (spTurnM K c_Rule [c_All, c_No, c_Each, c_Either, c_Upon, c_Until, c_Near, c_Till, c_Kth, c_Every])) (c_Either_turn : CalM P w K mg base CX0 1 c_Either "turn" ["self"] (spTurnM K c_Rule [c_All, c_No, c_Each, c_Either, c_Upon, c_Until, c_Near, c_Till, c_Kth, c_Every])) (c_Upon_turn : CalM P w K mg base CX0 1 c_Upon "turn" ["self"] (spTurnM K c_Rule [c_All, c_No, c_Each, c_Either, c_Upon, c_Until, c_Near, c_Till, c_Kth, c_Every])) (c_Until_turn : CalM P w K mg base CX0 1 c_Until "turn" ["self"] (spTurnM K c_Rule [c_All, c_No, c_Each, c_Either, c_Upon, c_Until, c_Near, c_Till, c_Kth, c_Every])) (c_Near_turn : CalM P w K mg base CX0 1 c_Near "turn" ["self"] (spTurnM K c_Rule [c_All, c_No, c_Each, c_Either, c_Upon, c_Until, c_Near, c_Till, c_Kth, c_Every])) (c_Till_turn : CalM P w K mg base CX0 1 c_Till "turn" ["self"] (spTurnM K c_Rule [c_All, c_No, c_Each, c_Either, c_Upon, c_Until, c_Near, c_Till, c_Kth, c_Every])) (c_Kth_turn : CalM P w K mg base CX0 1 c_Kth "turn" ["self"] (spTurnM K c_Rule [c_All, c_No, c_Each, c_Either, c_Upon, c_Until, c_Near, c_Till, c_Kth, c_Every])) (c_Every_turn : CalM P w K mg base CX0 1 c_Every "turn" ["self"] (spTurnM K c_Rule [c_All, c_No, c_Each, c_Either, c_Upon, c_Until, c_Near, c_Till, c_Kth, c_Every])) : FnOk P w K mg base CX0 8 f fd ["self", "R", "S"] (spIW K c_Rule [c_All, c_No, c_Each, c_Either, c_Upon, c_Until, c_Near, c_Till, c_Kth, c_Every] c_Till TillR) := by
  refine F.ok (k := 7) sc_Till___init__ (fun vs H Q E h => ?_) (fun cdv A outer s H vs Q E hr h => ?_)
  · obtain ⟨x, r, t, n1, n2, b1, b2, rfl, _⟩ := h
    rfl
  obtain ⟨x, r, t, n1, n2, b1, b2, rfl, R1, R2, lz, ⟨dx, hx⟩, q⟩ := h
  have fl := lcmI_facts R1.n0 R2.n0
  refine ⟨_, (pss_one (ps_expr (pe_binit c_Rule___init__ (hr.mono (by decide)) rfl (pa_cons (pv 0) (pa_cons (pe_cal c_till (hr.mono (by decide)) rfl (pa_cons (pe_mcalL0 (k := 1) (CalL.cons er.cl_All c_All_turn (by decide) (CalL.cons er.cl_No c_No_turn (by decide) (CalL.cons er.cl_Each c_Each_turn (by decide) (CalL.cons er.cl_Either c_Either_turn (by decide) (CalL.cons er.cl_Upon c_Upon_turn (by decide) (CalL.cons er.cl_Until c_Until_turn (by decide) (CalL.cons er.cl_Near c_Near_turn (by decide) (CalL.cons er.cl_Till c_Till_turn (by decide) (CalL.cons er.cl_Kth c_Kth_turn (by decide) (CalL.cons er.cl_Every c_Every_turn (by decide) CalL.nil)))))))))) (hr.mono (by decide)) (pv 1)) (pa_cons (pe_mcalL0 (k := 1) (CalL.cons er.cl_All c_All_turn (by decide) (CalL.cons er.cl_No c_No_turn (by decide) (CalL.cons er.cl_Each c_Each_turn (by decide) (CalL.cons er.cl_Either c_Either_turn (by decide) (CalL.cons er.cl_Upon c_Upon_turn (by decide) (CalL.cons er.cl_Until c_Until_turn (by decide) (CalL.cons er.cl_Near c_Near_turn (by decide) (CalL.cons er.cl_Till c_Till_turn (by decide) (CalL.cons er.cl_Kth c_Kth_turn (by decide) (CalL.cons er.cl_Every c_Every_turn (by decide) CalL.nil)))))))))) (hr.mono (by decide)) (pv 2)) pa_nil))) (pa_cons (pe_tup (pa_cons (pv 1) (pa_cons (pv 2) pa_nil))) (pa_cons (pe_tup (pa_cons pe_str (pa_cons pe_str (pa_cons pe_str pa_nil)))) pa_nil))))))), ?_⟩
  walk_at "rd"
  obtain ⟨C, dr, fs, m, hr1, l1, l2, l3⟩ := R1.meth (spTurnM K c_Rule [c_All, c_No, c_Each, c_Either, c_Upon, c_Until, c_Near, c_Till, c_Kth, c_Every])
  refine ⟨r, C, dr, fs, _, m, rfl, hr1, l1, ?_⟩
  walk_at "rd"
  refine ⟨r, n1, b1, rfl, R1, fun p hp => ?_⟩
  walk_at "rd"
  obtain ⟨C', dr', fs', m', hr2, l1', l2', l3'⟩ := R2.meth (spTurnM K c_Rule [c_All, c_No, c_Each, c_Either, c_Upon, c_Until, c_Near, c_Till, c_Kth, c_Every])
  refine ⟨t, C', dr', fs', _, m', rfl, hr2, l1', ?_⟩
  walk_at "rd"
  refine ⟨t, n2, b2, rfl, R2, fun p' hp' => ?_⟩
  walk_at "rd"
  refine ⟨p, p', n1, n2, b1, b2, rfl, SqT.of hp, SqT.of hp', R1.n0, R2.n0, R1.n1, R2.n1, R1.lt, R2.lt, lz, fun p2 c H1 s1 t1 lt on => ?_⟩
  walk_at "rd"
  refine ⟨two', fun pm hpm => ?_⟩
  have s2 := same_new hpm (.tup [.ref r, .ref t])
  generalize upd H1 pm (.tup [.ref r, .ref t]) = H2 at s2 ⊢
  walk_at "rd"
  refine ⟨(by show 3 ≤ sizeLine; decide), fun pw hpw => ?_⟩
  have s3 := s2.trans (same_new hpw (.tup [.str "(", .str " till ", .str ")"]))
  have hx3 := (s1.trans s3) _ _ hx
  walk_at "rd"
  exact ⟨x, p2, pm, pw, c_Till, dx, rfl, hx3, er.rc_Till, fun H' k e => q c H' (k.pre (s1.trans s3)) (made_rule (List.mem_of_getElem? (i := 7) rfl) er.rc_Till hx3 (s3 _ _ t1) k e fl.1 lz lt) on⟩
theorem sc_Kth___init__ : FnScope ["self", "number", "R", "S", "kept"] ["self", "number", "R", "S"] (defScope s_Kth___init__) := ⟨rfl, rfl, rfl, by decide +kernel, rfl, by decide +kernel, by decide +kernel⟩
theorem ok_Kth___init__ {f : Addr} {fd : FuncData} (F : Fun K "__init__" "Kth.__init__" s_Kth___init__ f fd) (er : Errs K mg c_FeastError c_NoNumber c_TooLong c_Rule c_All c_No c_Each c_Either c_Upon c_Until c_Near c_Till c_Kth c_Every) (c_kth : Cal P w K mg base 8 "kth" ["number", "R", "S"] (spKth0 K)) (c_All_turn : CalM P w K mg base CX0 1 c_All "turn" ["self"] (spTurnM K c_Rule [c_All, c_No, c_Each, c_Either, c_Upon, c_Until, c_Near, c_Till, c_Kth, c_Every])) (c_No_turn : CalM P w K mg base CX0 1 c_No "turn" ["self"] (spTurnM K c_Rule [c_All, c_No, c_Each, c_Either, c_Upon, c_Until, c_Near, c_Till, c_Kth, c_Every])) (c_Each_turn : CalM P w K mg base CX0 1 c_Each "turn" ["self"] (spTurnM K c_Rule [c_All, c_No, c_Each, c_Either, c_Upon, c_Until, c_Near, c_Till, c_Kth, c_Every])) (c_Either_turn : CalM P w K mg base CX0 1 c_Either "turn" ["self"] (spTurnM K c_Rule [c_All, c_No, c_Each, c_Either, c_Upon, c_Until, c_Near, c_Till, c_Kth, c_Every])) (c_Upon_turn : CalM P w K mg base CX0 1 c_Upon "turn" ["self"] (spTurnM K c_Rule [c_All, c_No, c_Each, c_Either, c_Upon, c_Until, c_Near, c_Till, c_Kth, c_Every])) (c_Until_turn : CalM P w K mg base CX0 1 c_Until "turn" ["self"] (spTurnM K c_Rule [c_All, c_No, c_Each, c_Either, c_Upon, c_Until, c_Near, c_Till, c_Kth, c_Every])) (c_Near_turn : CalM P w K mg base CX0 1 c_Near "turn" ["self"] (spTurnM K c_Rule [c_All, c_No, c_Each, c_Either, c_Upon, c_Until, c_Near, c_Till, c_Kth, c_Every])) (c_Till_turn : CalM P w K mg base CX0 1 c_Till "turn" ["self"] (spTurnM K c_Rule [c_All, c_No, c_Each, c_Either, c_Upon, c_Until, c_Near, c_Till, c_Kth, c_Every])) (c_Kth_turn : CalM P w K mg base CX0 1 c_Kth "turn" ["self"] (spTurnM K c_Rule [c_All, c_No, c_Each, c_Either, c_Upon, c_Until, c_Near, c_Till, c_Kth, c_Every])) (c_Every_turn : CalM P w K mg base CX0 1 c_Every "turn" ["self"] (spTurnM K c_Rule [c_All, c_No, c_Each, c_Either, c_Upon, c_Until, c_Near, c_Till, c_Kth, c_Every])) (c_Rule___init__ : CalB P w K mg base 1 "Rule" ["self", "kept", "made_of", "words"] (spRInit K c_Rule)) : FnOk P w K mg base CX0 9 f fd ["self", "number", "R", "S"] (spIKth K c_Rule [c_All, c_No, c_Each, c_Either, c_Upon, c_Until, c_Near, c_Till, c_Kth, c_Every] c_Kth) := by
  refine F.ok (k := 8) sc_Kth___init__ (fun vs H Q E h => ?_) (fun cdv A outer s H vs Q E hr h => ?_)
  · obtain ⟨x, r, t, k, n1, n2, b1, b2, rfl, _⟩ := h
    rfl
  obtain ⟨x, r, t, num, n1, n2, b1, b2, rfl, R1, R2, lz, k0, bk, ⟨dx, hx⟩, q⟩ := h
  have fl := lcmI_facts R1.n0 R2.n0
  refine ⟨_, (pss_cons (ps_set (i := 4) sc_Kth___init__.nd rfl (by first | exact Or.inl rfl | exact Or.inr rfl) (pe_cal c_kth (hr.mono (by decide)) rfl (pa_cons (pv 1) (pa_cons (pe_mcalL0 (k := 1) (CalL.cons er.cl_All c_All_turn (by decide) (CalL.cons er.cl_No c_No_turn (by decide) (CalL.cons er.cl_Each c_Each_turn (by decide) (CalL.cons er.cl_Either c_Either_turn (by decide) (CalL.cons er.cl_Upon c_Upon_turn (by decide) (CalL.cons er.cl_Until c_Until_turn (by decide) (CalL.cons er.cl_Near c_Near_turn (by decide) (CalL.cons er.cl_Till c_Till_turn (by decide) (CalL.cons er.cl_Kth c_Kth_turn (by decide) (CalL.cons er.cl_Every c_Every_turn (by decide) CalL.nil)))))))))) (hr.mono (by decide)) (pv 2)) (pa_cons (pe_mcalL0 (k := 1) (CalL.cons er.cl_All c_All_turn (by decide) (CalL.cons er.cl_No c_No_turn (by decide) (CalL.cons er.cl_Each c_Each_turn (by decide) (CalL.cons er.cl_Either c_Either_turn (by decide) (CalL.cons er.cl_Upon c_Upon_turn (by decide) (CalL.cons er.cl_Until c_Until_turn (by decide) (CalL.cons er.cl_Near c_Near_turn (by decide) (CalL.cons er.cl_Till c_Till_turn (by decide) (CalL.cons er.cl_Kth c_Kth_turn (by decide) (CalL.cons er.cl_Every c_Every_turn (by decide) CalL.nil)))))))))) (hr.mono (by decide)) (pv 3)) pa_nil)))))
      (pss_one (ps_expr (pe_binit c_Rule___init__ (hr.mono (by decide)) rfl (pa_cons (pv 0) (pa_cons (pv 4) (pa_cons (pe_tup (pa_cons (pv 2) (pa_cons (pv 3) pa_nil))) (pa_cons (pe_tup (pa_cons (pe_join (pj_cons pe_str (pj_cons (pe_fmt hr.toN (pv 1)) (pj_cons pe_str pj_nil)))) (pa_cons pe_str (pa_cons pe_str pa_nil)))) pa_nil)))))))), ?_⟩
  walk_at "rd"
  obtain ⟨C, dr, fs, m, hr1, l1, l2, l3⟩ := R1.meth (spTurnM K c_Rule [c_All, c_No, c_Each, c_Either, c_Upon, c_Until, c_Near, c_Till, c_Kth, c_Every])
  refine ⟨r, C, dr, fs, _, m, rfl, hr1, l1, ?_⟩
  walk_at "rd"
  refine ⟨r, n1, b1, rfl, R1, fun p hp => ?_⟩
  walk_at "rd"
  obtain ⟨C', dr', fs', m', hr2, l1', l2', l3'⟩ := R2.meth (spTurnM K c_Rule [c_All, c_No, c_Each, c_Either, c_Upon, c_Until, c_Near, c_Till, c_Kth, c_Every])
  refine ⟨t, C', dr', fs', _, m', rfl, hr2, l1', ?_⟩
  walk_at "rd"
  refine ⟨t, n2, b2, rfl, R2, fun p' hp' => ?_⟩
  walk_at "rd"
  refine ⟨num, p, p', n1, n2, b1, b2, rfl, ⟨SqT.of hp, SqT.of hp', R1.n0, R2.n0, R1.n1, R2.n1, R1.lt, R2.lt⟩, k0, lz, fun p2 c H1 s1 t1 lt on => ?_⟩
  walk_at "rd"
  refine ⟨two', fun pm hpm => ?_⟩
  have s2 := same_new hpm (.tup [.ref r, .ref t])
  generalize upd H1 pm (.tup [.ref r, .ref t]) = H2 at s2 ⊢
  walk_at "rd"
  refine rd_join ?_
  refine rd_jc 0 (by decide) (by decide) fun l1 => rd_ji _ l1 (by decide) rfl (bt_log bk (by decide) (by decide)) fun l2 => rd_jc _ l2 (by decide) fun l3 => rd_jnil (fits l3 (by decide)) ?_
  generalize (Str.empty ++ Str.ofString "(" ++ intT num ++ Str.ofString " of ") = zt
  walk_at "rd"
  refine ⟨(by show 3 ≤ sizeLine; decide), fun pw hpw => ?_⟩
  have s3 := s2.trans (same_new hpw (.tup [.str zt, .str " from ", .str ")"]))
  have hx3 := (s1.trans s3) _ _ hx
  walk_at "rd"
  exact ⟨x, p2, pm, pw, c_Kth, dx, rfl, hx3, er.rc_Kth, fun H' k e => q c H' (k.pre (s1.trans s3)) (made_rule (List.mem_of_getElem? (i := 8) rfl) er.rc_Kth hx3 (s3 _ _ t1) k e fl.1 lz lt) on⟩
theorem sc_Every___init__ : FnScope ["self", "number", "R", "day", "kept"] ["self", "number", "R", "day"] (defScope s_Every___init__) := ⟨rfl, rfl, rfl, by decide +kernel, rfl, by decide +kernel, by decide +kernel⟩
theorem ok_Every___init__ {f : Addr} {fd : FuncData} (F : Fun K "__init__" "Every.__init__" s_Every___init__ f fd) (er : Errs K mg c_FeastError c_NoNumber c_TooLong c_Rule c_All c_No c_Each c_Either c_Upon c_Until c_Near c_Till c_Kth c_Every) (c_every : Cal P w K mg base 6 "every" ["number", "R", "day"] (spEvery0 K)) (c_All_turn : CalM P w K mg base CX0 1 c_All "turn" ["self"] (spTurnM K c_Rule [c_All, c_No, c_Each, c_Either, c_Upon, c_Until, c_Near, c_Till, c_Kth, c_Every])) (c_No_turn : CalM P w K mg base CX0 1 c_No "turn" ["self"] (spTurnM K c_Rule [c_All, c_No, c_Each, c_Either, c_Upon, c_Until, c_Near, c_Till, c_Kth, c_Every])) (c_Each_turn : CalM P w K mg base CX0 1 c_Each "turn" ["self"] (spTurnM K c_Rule [c_All, c_No, c_Each, c_Either, c_Upon, c_Until, c_Near, c_Till, c_Kth, c_Every])) (c_Either_turn : CalM P w K mg base CX0 1 c_Either "turn" ["self"] (spTurnM K c_Rule [c_All, c_No, c_Each, c_Either, c_Upon, c_Until, c_Near, c_Till, c_Kth, c_Every])) (c_Upon_turn : CalM P w K mg base CX0 1 c_Upon "turn" ["self"] (spTurnM K c_Rule [c_All, c_No, c_Each, c_Either, c_Upon, c_Until, c_Near, c_Till, c_Kth, c_Every])) (c_Until_turn : CalM P w K mg base CX0 1 c_Until "turn" ["self"] (spTurnM K c_Rule [c_All, c_No, c_Each, c_Either, c_Upon, c_Until, c_Near, c_Till, c_Kth, c_Every])) (c_Near_turn : CalM P w K mg base CX0 1 c_Near "turn" ["self"] (spTurnM K c_Rule [c_All, c_No, c_Each, c_Either, c_Upon, c_Until, c_Near, c_Till, c_Kth, c_Every])) (c_Till_turn : CalM P w K mg base CX0 1 c_Till "turn" ["self"] (spTurnM K c_Rule [c_All, c_No, c_Each, c_Either, c_Upon, c_Until, c_Near, c_Till, c_Kth, c_Every])) (c_Kth_turn : CalM P w K mg base CX0 1 c_Kth "turn" ["self"] (spTurnM K c_Rule [c_All, c_No, c_Each, c_Either, c_Upon, c_Until, c_Near, c_Till, c_Kth, c_Every])) (c_Every_turn : CalM P w K mg base CX0 1 c_Every "turn" ["self"] (spTurnM K c_Rule [c_All, c_No, c_Each, c_Either, c_Upon, c_Until, c_Near, c_Till, c_Kth, c_Every])) (c_Rule___init__ : CalB P w K mg base 1 "Rule" ["self", "kept", "made_of", "words"] (spRInit K c_Rule)) : FnOk P w K mg base CX0 7 f fd ["self", "number", "R", "day"] (spIEvery K c_Rule [c_All, c_No, c_Each, c_Either, c_Upon, c_Until, c_Near, c_Till, c_Kth, c_Every] c_Every) := by
  refine F.ok (k := 6) sc_Every___init__ (fun vs H Q E h => ?_) (fun cdv A outer s H vs Q E hr h => ?_)
  · obtain ⟨x, r, k, n, d0, b, rfl, _⟩ := h
    rfl
  obtain ⟨x, r, num, n, d0, b, rfl, R, bd, bk, k0, nk, ⟨dx, hx⟩, q⟩ := h
  have z0 : 0 < n * num := Int.mul_pos R.n0 (by omega)
  refine ⟨_, (pss_cons (ps_set (i := 4) sc_Every___init__.nd rfl (by first | exact Or.inl rfl | exact Or.inr rfl) (pe_cal c_every (hr.mono (by decide)) rfl (pa_cons (pv 1) (pa_cons (pe_mcalL0 (k := 1) (CalL.cons er.cl_All c_All_turn (by decide) (CalL.cons er.cl_No c_No_turn (by decide) (CalL.cons er.cl_Each c_Each_turn (by decide) (CalL.cons er.cl_Either c_Either_turn (by decide) (CalL.cons er.cl_Upon c_Upon_turn (by decide) (CalL.cons er.cl_Until c_Until_turn (by decide) (CalL.cons er.cl_Near c_Near_turn (by decide) (CalL.cons er.cl_Till c_Till_turn (by decide) (CalL.cons er.cl_Kth c_Kth_turn (by decide) (CalL.cons er.cl_Every c_Every_turn (by decide) CalL.nil)))))))))) (hr.mono (by decide)) (pv 2)) (pa_cons (pv 3) pa_nil)))))
      (pss_one (ps_expr (pe_binit c_Rule___init__ (hr.mono (by decide)) rfl (pa_cons (pv 0) (pa_cons (pv 4) (pa_cons (pe_tup (pa_cons (pv 2) pa_nil)) (pa_cons (pe_tup (pa_cons (pe_join (pj_cons pe_str (pj_cons (pe_fmt hr.toN (pv 1)) (pj_cons pe_str pj_nil)))) (pa_cons (pe_join (pj_cons pe_str (pj_cons (pe_fmt hr.toN (pv 3)) (pj_cons pe_str pj_nil)))) pa_nil))) pa_nil)))))))), ?_⟩
  walk_at "rd"
  obtain ⟨C, dr, fs, m, hr1, l1, l2, l3⟩ := R.meth (spTurnM K c_Rule [c_All, c_No, c_Each, c_Either, c_Upon, c_Until, c_Near, c_Till, c_Kth, c_Every])
  refine ⟨r, C, dr, fs, _, m, rfl, hr1, l1, ?_⟩
  walk_at "rd"
  refine ⟨r, n, b, rfl, R, fun p hp => ?_⟩
  walk_at "rd"
  refine ⟨num, d0, p, n, b, rfl, SqT.of hp, R.n0, R.n1, R.lt, bd, bk, k0, nk, fun p2 c H1 s1 t1 lt on => ?_⟩
  walk_at "rd"
  refine ⟨(by show 1 ≤ sizeLine; decide), fun pm hpm => ?_⟩
  have s2 := same_new hpm (.tup [.ref r])
  generalize upd H1 pm (.tup [.ref r]) = H2 at s2 ⊢
  walk_at "rd"
  refine rd_join ?_
  refine rd_jc 0 (by decide) (by decide) fun l1 => rd_ji _ l1 (by decide) rfl (bt_log bk (by decide) (by decide)) fun l2 => rd_jc _ l2 (by decide) fun l3 => rd_jnil (fits l3 (by decide)) ?_
  generalize (Str.empty ++ Str.ofString "(every " ++ intT num ++ Str.ofString " of ") = zt
  walk_at "rd"
  refine rd_join ?_
  refine rd_jc 0 (by decide) (by decide) fun l1 => rd_ji _ l1 (by decide) rfl (bt_log bd (by decide) (by decide)) fun l2 => rd_jc _ l2 (by decide) fun l3 => rd_jnil (fits l3 (by decide)) ?_
  generalize (Str.empty ++ Str.ofString " from " ++ intT d0 ++ Str.ofString ")") = zt2
  walk_at "rd"
  refine ⟨two', fun pw hpw => ?_⟩
  have s3 := s2.trans (same_new hpw (.tup [.str zt, .str zt2]))
  have hx3 := (s1.trans s3) _ _ hx
  walk_at "rd"
  exact ⟨x, p2, pm, pw, c_Every, dx, rfl, hx3, er.rc_Every, fun H' k e => q c H' (k.pre (s1.trans s3)) (made_rule (List.mem_of_getElem? (i := 9) rfl) er.rc_Every hx3 (s3 _ _ t1) k e z0 nk lt) on⟩
theorem sc_law_cell_at : FnScope ["_law_script", "_law_k"] ["_law_script", "_law_k"] (defScope s_law_cell_at) := ⟨rfl, rfl, rfl, by decide +kernel, rfl, by decide +kernel, by decide +kernel⟩
theorem ok_law_cell_at {f : Addr} {fd : FuncData} (F : Fun K "_law_cell_at" "_law_cell_at" s_law_cell_at f fd) (z_len : mg "len" = none) : FnOk P w K mg base CX0 1 f fd ["_law_script", "_law_k"] (spCell K) := by
  refine F.ok (k := 0) sc_law_cell_at (fun vs H Q E h => ?_) (fun cdv A outer s H vs Q E hr h => ?_)
  · obtain ⟨a, ns, k, rfl, _⟩ := h
    rfl
  obtain ⟨a, ns, k, rfl, hS, h0, hl, q⟩ := h
  refine ⟨_, (pss_cons (ps_if (pt_cmpR op_lt (pv 1) (pe_callB call_len_seq rfl z_len PySem.boot_len (pa_cons (pv 0) pa_nil)) (nomark _))
        (pss_one (ps_ret (pe_ix ix_list (pv 0) (pv 1) (fun _ _ => rfl))))
        pss_nil)
      (pss_one (ps_ret pe_int))), ?_⟩
  walk_at "rd"
  refine ⟨a, _, rfl, .inl hS, ?_⟩
  walk_at "rd"
  rw [List.length_map]
  refine ite2d (fun c => ?_) (fun c => ?_)
  · walk_at "rd"
    refine rd_ixL hS (at_ints h0 c) ?_
    exact q
  · walk_at "rd"
    have e : ns.getD k.toNat 0 = 0 := by
      simp [List.getD, List.getElem?_eq_none (show ns.length ≤ k.toNat by omega)]
    rw [e] at q
    exact q
theorem sc_law_part : FnScope ["_law_cell"] ["_law_cell"] (defScope s_law_part) := ⟨rfl, rfl, rfl, by decide +kernel, rfl, by decide +kernel, by decide +kernel⟩
theorem ok_law_part {f : Addr} {fd : FuncData} (F : Fun K "_law_part" "_law_part" s_law_part f fd) (er : Errs K mg c_FeastError c_NoNumber c_TooLong c_Rule c_All c_No c_Each c_Either c_Upon c_Until c_Near c_Till c_Kth c_Every) (c_All___init__ : CalI P w K mg base CX0 3 "All" c_All ["self"] (spI0 K c_Rule [c_All, c_No, c_Each, c_Either, c_Upon, c_Until, c_Near, c_Till, c_Kth, c_Every] c_All 1)) (c_No___init__ : CalI P w K mg base CX0 3 "No" c_No ["self"] (spI0 K c_Rule [c_All, c_No, c_Each, c_Either, c_Upon, c_Until, c_Near, c_Till, c_Kth, c_Every] c_No 0)) (c_Each___init__ : CalI P w K mg base CX0 3 "Each" c_Each ["self", "size", "rest"] (spIEach K c_Rule [c_All, c_No, c_Each, c_Either, c_Upon, c_Until, c_Near, c_Till, c_Kth, c_Every] c_Each)) : FnOk P w K mg base CX0 5 f fd ["_law_cell"] (spPart63 K c_Rule [c_All, c_No, c_Each, c_Either, c_Upon, c_Until, c_Near, c_Till, c_Kth, c_Every]) := by
  refine F.ok (k := 4) sc_law_part (fun vs H Q E h => ?_) (fun cdv A outer s H vs Q E hr h => ?_)
  · obtain ⟨c, rfl, _⟩ := h
    rfl
  obtain ⟨c, rfl, q⟩ := h
  refine ⟨_, (pss_cons (ps_if (pt_cmpR op_eq (pe_op op_mod (pv 0) pe_int) pe_int (nomark _))
        (pss_one (ps_ret (pe_mk0 c_All___init__ (hr.mono (by decide)) rfl)))
        pss_nil)
      (pss_cons (ps_if (pt_cmpR op_eq (pe_op op_mod (pv 0) pe_int) pe_int (nomark _))
        (pss_one (ps_ret (pe_mk0 c_No___init__ (hr.mono (by decide)) rfl)))
        pss_nil)
      (pss_one (ps_ret (pe_mk c_Each___init__ (hr.mono (by decide)) rfl (pa_cons (pe_op op_add pe_int (pe_op op_mod (pe_op op_fdivB (pv 0) pe_int) pe_int)) (pa_cons (pe_op op_sub (pe_op op_mod (pe_op op_fdivB (pv 0) pe_int) (pe_op op_pow pe_int pe_int)) (pe_op op_pow pe_int pe_int)) pa_nil))))))), ?_⟩
  walk_at "rd"
  refine ite2d (fun _ => ?_) (fun _ => ?_)
  · walk_at "rd"
    intro x dx h1 h2 ne
    refine ⟨x, rfl, ⟨dx, upd_same⟩, fun b H' k R e => ⟨rfl, ?_⟩⟩
    exact q x 1 b _ (made_same h1 h2 ne k) R (by decide)
  walk_at "rd"
  refine ite2d (fun _ => ?_) (fun _ => ?_)
  · walk_at "rd"
    intro x dx h1 h2 ne
    refine ⟨x, rfl, ⟨dx, upd_same⟩, fun b H' k R e => ⟨rfl, ?_⟩⟩
    exact q x 1 b _ (made_same h1 h2 ne k) R (by decide)
  walk_at "rd"
  intro x dx h1 h2 ne
  have e40 : (10 : Int) ^ Int.toNat 40 = 10000000000000000000000000000000000000000 := by decide
  have e39 : (10 : Int) ^ Int.toNat 39 = 1000000000000000000000000000000000000000 := by decide
  rw [e40, e39]
  refine ⟨x, _, _, rfl, by omega, by omega, (bt_of (by omega) (by omega)).mono (by decide), ⟨dx, upd_same⟩, fun b H' k R e => ⟨rfl, ?_⟩⟩
  exact q x _ b _ (made_same h1 h2 ne k) R (by omega)
theorem sc_law_parts : FnScope ["_law_script", "_law_start", "_law_one"] ["_law_script", "_law_start"] (defScope s_law_parts) := ⟨rfl, rfl, rfl, by decide +kernel, rfl, by decide +kernel, by decide +kernel⟩
theorem ok_law_parts {f : Addr} {fd : FuncData} (F : Fun K "_law_parts" "_law_parts" s_law_parts f fd) (er : Errs K mg c_FeastError c_NoNumber c_TooLong c_Rule c_All c_No c_Each c_Either c_Upon c_Until c_Near c_Till c_Kth c_Every) (c__law_part : Cal P w K mg base 5 "_law_part" ["_law_cell"] (spPart63 K c_Rule [c_All, c_No, c_Each, c_Either, c_Upon, c_Until, c_Near, c_Till, c_Kth, c_Every])) (c__law_cell_at : Cal P w K mg base 1 "_law_cell_at" ["_law_script", "_law_k"] (spCell K)) (c_Either___init__ : CalI P w K mg base CX0 6 "Either" c_Either ["self", "R", "S"] (spITwo K c_Rule [c_All, c_No, c_Each, c_Either, c_Upon, c_Until, c_Near, c_Till, c_Kth, c_Every] c_Either or)) : FnOk P w K mg base CX0 8 f fd ["_law_script", "_law_start"] (spParts63 K c_Rule [c_All, c_No, c_Each, c_Either, c_Upon, c_Until, c_Near, c_Till, c_Kth, c_Every]) := by
  refine F.ok (k := 7) sc_law_parts (fun vs H Q E h => ?_) (fun cdv A outer s H vs Q E hr h => ?_)
  · obtain ⟨a, ns, k, rfl, _⟩ := h
    rfl
  obtain ⟨a, ns, k, rfl, hS, h63, k0, k1, q⟩ := h
  refine ⟨_, (pss_cons (ps_set (i := 2) sc_law_parts.nd rfl (by first | exact Or.inl rfl | exact Or.inr rfl) (pe_cal c__law_part (hr.mono (by decide)) rfl (pa_cons (pe_op op_fdivB (pe_cal c__law_cell_at (hr.mono (by decide)) rfl (pa_cons (pv 0) (pa_cons (pv 1) pa_nil))) pe_int) pa_nil)))
      (pss_cons (ps_if (pt_cmpR op_eq (pe_op op_mod (pe_cal c__law_cell_at (hr.mono (by decide)) rfl (pa_cons (pv 0) (pa_cons (pv 1) pa_nil))) pe_int) pe_int (nomark _))
        (pss_one (ps_ret (pv 2)))
        pss_nil)
      (pss_one (ps_ret (pe_mk c_Either___init__ (hr.mono (by decide)) rfl (pa_cons (pv 2) (pa_cons (pe_cal c__law_part (hr.mono (by decide)) rfl (pa_cons (pe_cal c__law_cell_at (hr.mono (by decide)) rfl (pa_cons (pv 0) (pa_cons (pe_op op_add (pv 1) pe_int) pa_nil))) pa_nil)) pa_nil))))))), ?_⟩
  walk_at "rd"
  refine rd_cell hS h63 k0 ?_
  walk_at "rd"
  refine ⟨_, rfl, fun x n b H1 s1 R n12 => ?_⟩
  walk_at "rd"
  refine rd_cell (s1.seq hS) h63 k0 ?_
  walk_at "rd"
  refine ite2d (fun _ => ?_) (fun _ => ?_)
  · walk_at "rd"
    exact q x n b _ s1 R (by omega)
  walk_at "rd"
  refine rd_cell (s1.seq hS) h63 (by omega) ?_
  walk_at "rd"
  refine ⟨_, rfl, fun x' n' b' H2 s2 R' n12' => ?_⟩
  walk_at "rd"
  have n0 := R.n0
  have n0' := R'.n0
  have lz : lcmI n n' ≤ 64 := Int.le_trans (lcmI_le n0 n0') (Int.le_trans (Int.mul_le_mul n12 n12' (by omega) (by decide)) (by decide))
  intro y dy h1 h2 ne
  have sm := made_in (o := .own y) (o' := .ins c_Either dy []) h1 h2
  refine ⟨y, x, x', n, n', b, b', rfl, (R.same s2).same sm, R'.same sm, by omega, ⟨dy, upd_same⟩, fun c H3 kb RR _ => ⟨rfl, ?_⟩⟩
  have s3 := made_same h1 h2 ne kb
  exact q y _ c _ (s1.trans (s2.trans s3)) RR lz
theorem sc_law_right : FnScope ["_law_rule", "_law_turn", "_law_day", "_law_k", "_law_due"] ["_law_rule", "_law_turn", "_law_day"] (defScope s_law_right) := ⟨rfl, rfl, rfl, by decide +kernel, rfl, by decide +kernel, by decide +kernel⟩
theorem ok_law_right {f : Addr} {fd : FuncData} (F : Fun K "_law_right" "_law_right" s_law_right f fd) (er : Errs K mg c_FeastError c_NoNumber c_TooLong c_Rule c_All c_No c_Each c_Either c_Upon c_Until c_Near c_Till c_Kth c_Every) (c_All_turn : CalM P w K mg base CX0 1 c_All "turn" ["self"] (spTurnM K c_Rule [c_All, c_No, c_Each, c_Either, c_Upon, c_Until, c_Near, c_Till, c_Kth, c_Every])) (c_No_turn : CalM P w K mg base CX0 1 c_No "turn" ["self"] (spTurnM K c_Rule [c_All, c_No, c_Each, c_Either, c_Upon, c_Until, c_Near, c_Till, c_Kth, c_Every])) (c_Each_turn : CalM P w K mg base CX0 1 c_Each "turn" ["self"] (spTurnM K c_Rule [c_All, c_No, c_Each, c_Either, c_Upon, c_Until, c_Near, c_Till, c_Kth, c_Every])) (c_Either_turn : CalM P w K mg base CX0 1 c_Either "turn" ["self"] (spTurnM K c_Rule [c_All, c_No, c_Each, c_Either, c_Upon, c_Until, c_Near, c_Till, c_Kth, c_Every])) (c_Upon_turn : CalM P w K mg base CX0 1 c_Upon "turn" ["self"] (spTurnM K c_Rule [c_All, c_No, c_Each, c_Either, c_Upon, c_Until, c_Near, c_Till, c_Kth, c_Every])) (c_Until_turn : CalM P w K mg base CX0 1 c_Until "turn" ["self"] (spTurnM K c_Rule [c_All, c_No, c_Each, c_Either, c_Upon, c_Until, c_Near, c_Till, c_Kth, c_Every])) (c_Near_turn : CalM P w K mg base CX0 1 c_Near "turn" ["self"] (spTurnM K c_Rule [c_All, c_No, c_Each, c_Either, c_Upon, c_Until, c_Near, c_Till, c_Kth, c_Every])) (c_Till_turn : CalM P w K mg base CX0 1 c_Till "turn" ["self"] (spTurnM K c_Rule [c_All, c_No, c_Each, c_Either, c_Upon, c_Until, c_Near, c_Till, c_Kth, c_Every])) (c_Kth_turn : CalM P w K mg base CX0 1 c_Kth "turn" ["self"] (spTurnM K c_Rule [c_All, c_No, c_Each, c_Either, c_Upon, c_Until, c_Near, c_Till, c_Kth, c_Every])) (c_Every_turn : CalM P w K mg base CX0 1 c_Every "turn" ["self"] (spTurnM K c_Rule [c_All, c_No, c_Each, c_Either, c_Upon, c_Until, c_Near, c_Till, c_Kth, c_Every])) (c_All_size : CalM P w K mg base CX0 1 c_All "size" ["self"] (spSizeM K c_Rule [c_All, c_No, c_Each, c_Either, c_Upon, c_Until, c_Near, c_Till, c_Kth, c_Every])) (c_No_size : CalM P w K mg base CX0 1 c_No "size" ["self"] (spSizeM K c_Rule [c_All, c_No, c_Each, c_Either, c_Upon, c_Until, c_Near, c_Till, c_Kth, c_Every])) (c_Each_size : CalM P w K mg base CX0 1 c_Each "size" ["self"] (spSizeM K c_Rule [c_All, c_No, c_Each, c_Either, c_Upon, c_Until, c_Near, c_Till, c_Kth, c_Every])) (c_Either_size : CalM P w K mg base CX0 1 c_Either "size" ["self"] (spSizeM K c_Rule [c_All, c_No, c_Each, c_Either, c_Upon, c_Until, c_Near, c_Till, c_Kth, c_Every])) (c_Upon_size : CalM P w K mg base CX0 1 c_Upon "size" ["self"] (spSizeM K c_Rule [c_All, c_No, c_Each, c_Either, c_Upon, c_Until, c_Near, c_Till, c_Kth, c_Every])) (c_Until_size : CalM P w K mg base CX0 1 c_Until "size" ["self"] (spSizeM K c_Rule [c_All, c_No, c_Each, c_Either, c_Upon, c_Until, c_Near, c_Till, c_Kth, c_Every])) (c_Near_size : CalM P w K mg base CX0 1 c_Near "size" ["self"] (spSizeM K c_Rule [c_All, c_No, c_Each, c_Either, c_Upon, c_Until, c_Near, c_Till, c_Kth, c_Every])) (c_Till_size : CalM P w K mg base CX0 1 c_Till "size" ["self"] (spSizeM K c_Rule [c_All, c_No, c_Each, c_Either, c_Upon, c_Until, c_Near, c_Till, c_Kth, c_Every])) (c_Kth_size : CalM P w K mg base CX0 1 c_Kth "size" ["self"] (spSizeM K c_Rule [c_All, c_No, c_Each, c_Either, c_Upon, c_Until, c_Near, c_Till, c_Kth, c_Every])) (c_Every_size : CalM P w K mg base CX0 1 c_Every "size" ["self"] (spSizeM K c_Rule [c_All, c_No, c_Each, c_Either, c_Upon, c_Until, c_Near, c_Till, c_Kth, c_Every])) (c_All_on : CalM P w K mg base CX0 2 c_All "on" ["self", "day"] (spOnM K c_Rule [c_All, c_No, c_Each, c_Either, c_Upon, c_Until, c_Near, c_Till, c_Kth, c_Every])) (c_No_on : CalM P w K mg base CX0 2 c_No "on" ["self", "day"] (spOnM K c_Rule [c_All, c_No, c_Each, c_Either, c_Upon, c_Until, c_Near, c_Till, c_Kth, c_Every])) (c_Each_on : CalM P w K mg base CX0 2 c_Each "on" ["self", "day"] (spOnM K c_Rule [c_All, c_No, c_Each, c_Either, c_Upon, c_Until, c_Near, c_Till, c_Kth, c_Every])) (c_Either_on : CalM P w K mg base CX0 2 c_Either "on" ["self", "day"] (spOnM K c_Rule [c_All, c_No, c_Each, c_Either, c_Upon, c_Until, c_Near, c_Till, c_Kth, c_Every])) (c_Upon_on : CalM P w K mg base CX0 2 c_Upon "on" ["self", "day"] (spOnM K c_Rule [c_All, c_No, c_Each, c_Either, c_Upon, c_Until, c_Near, c_Till, c_Kth, c_Every])) (c_Until_on : CalM P w K mg base CX0 2 c_Until "on" ["self", "day"] (spOnM K c_Rule [c_All, c_No, c_Each, c_Either, c_Upon, c_Until, c_Near, c_Till, c_Kth, c_Every])) (c_Near_on : CalM P w K mg base CX0 2 c_Near "on" ["self", "day"] (spOnM K c_Rule [c_All, c_No, c_Each, c_Either, c_Upon, c_Until, c_Near, c_Till, c_Kth, c_Every])) (c_Till_on : CalM P w K mg base CX0 2 c_Till "on" ["self", "day"] (spOnM K c_Rule [c_All, c_No, c_Each, c_Either, c_Upon, c_Until, c_Near, c_Till, c_Kth, c_Every])) (c_Kth_on : CalM P w K mg base CX0 2 c_Kth "on" ["self", "day"] (spOnM K c_Rule [c_All, c_No, c_Each, c_Either, c_Upon, c_Until, c_Near, c_Till, c_Kth, c_Every])) (c_Every_on : CalM P w K mg base CX0 2 c_Every "on" ["self", "day"] (spOnM K c_Rule [c_All, c_No, c_Each, c_Either, c_Upon, c_Until, c_Near, c_Till, c_Kth, c_Every])) (z_isinstance : mg "isinstance" = none) (z_range : mg "range" = none) (z_bool : mg "bool" = none) : FnOk P w K mg base CX0 3 f fd ["_law_rule", "_law_turn", "_law_day"] (spRight63 K c_Rule [c_All, c_No, c_Each, c_Either, c_Upon, c_Until, c_Near, c_Till, c_Kth, c_Every]) := by
  refine F.ok (k := 2) sc_law_right (fun vs H Q E h => ?_) (fun cdv A outer s H vs Q E hr h => ?_)
  · obtain ⟨x, p, n, d, b, rfl, _⟩ := h
    rfl
  obtain ⟨x, p0, n, d, b, rfl, R, hp0, q⟩ := h
  have n0 := R.n0
  have n1 := R.n1
  obtain ⟨C, dx, fs, m1, hx, l1, l2, l3⟩ := R.meth (spTurnM K c_Rule [c_All, c_No, c_Each, c_Either, c_Upon, c_Until, c_Near, c_Till, c_Kth, c_Every])
  obtain ⟨C', dx', fs', m2, hx', l1', l2', l3'⟩ := R.meth (spSizeM K c_Rule [c_All, c_No, c_Each, c_Either, c_Upon, c_Until, c_Near, c_Till, c_Kth, c_Every])
  obtain ⟨C2, dx2, fs2, m3, hx2, l12, l22, l32⟩ := R.meth (spOnM K c_Rule [c_All, c_No, c_Each, c_Either, c_Upon, c_Until, c_Near, c_Till, c_Kth, c_Every])
  obtain ⟨CT, ty, isr⟩ := R.ty er.xsp er.xtk
  refine ⟨_, (pss_cons (ps_if (PW.pt (pw_or (pt_not (pt_val (pe_callB call_isiO rfl z_isinstance PyProof.Rows.boot_isinstance (pa_cons (pv 0) (pa_cons (pe_glob rfl er.m_Rule (rel_ref _)) pa_nil))))) (pw_or (pt_cmpR (op_neT hr.units0) (pe_mcalL0 (k := 1) (CalL.cons er.cl_All c_All_turn (by decide) (CalL.cons er.cl_No c_No_turn (by decide) (CalL.cons er.cl_Each c_Each_turn (by decide) (CalL.cons er.cl_Either c_Either_turn (by decide) (CalL.cons er.cl_Upon c_Upon_turn (by decide) (CalL.cons er.cl_Until c_Until_turn (by decide) (CalL.cons er.cl_Near c_Near_turn (by decide) (CalL.cons er.cl_Till c_Till_turn (by decide) (CalL.cons er.cl_Kth c_Kth_turn (by decide) (CalL.cons er.cl_Every c_Every_turn (by decide) CalL.nil)))))))))) (hr.mono (by decide)) (pv 0)) (pv 1) (nomark _)) (pw_or1 (pt_cmpR op_ne (pe_mcalL0 (k := 1) (CalL.cons er.cl_All c_All_size (by decide) (CalL.cons er.cl_No c_No_size (by decide) (CalL.cons er.cl_Each c_Each_size (by decide) (CalL.cons er.cl_Either c_Either_size (by decide) (CalL.cons er.cl_Upon c_Upon_size (by decide) (CalL.cons er.cl_Until c_Until_size (by decide) (CalL.cons er.cl_Near c_Near_size (by decide) (CalL.cons er.cl_Till c_Till_size (by decide) (CalL.cons er.cl_Kth c_Kth_size (by decide) (CalL.cons er.cl_Every c_Every_size (by decide) CalL.nil)))))))))) (hr.mono (by decide)) (pv 0)) (pe_ix ix_tup (pv 1) pe_int (fun _ _ => rfl)) (nomark _))))))
        (pss_one (ps_ret pe_bl))
        pss_nil)
      (pss_cons (ps_for PassesOwn.never rfl (pi_range1 rfl z_range (pa_cons pe_int pa_nil)) (pg_name (i := 3) sc_law_right.nd rfl (by first | exact Or.inl rfl | exact Or.inr rfl))
        (pss_cons (ps_set (i := 4) sc_law_right.nd rfl (by first | exact Or.inl rfl | exact Or.inr rfl) (pe_cmpR op_eq (pe_op op_and (pe_op op_shr (pe_ix ix_tup (pv 1) pe_int (fun _ _ => rfl)) (pe_op op_mod (pe_op op_add (pv 2) (pv 3)) (pe_ix ix_tup (pv 1) pe_int (fun _ _ => rfl)))) pe_int) pe_int (nomark _)))
      (pss_one (ps_if (PW.pt (pw_or (pt_not (pt_val (pe_callB call_isi rfl z_isinstance PyProof.Rows.boot_isinstance (pa_cons (pe_mcalL (k := 2) (CalL.cons er.cl_All c_All_on (by decide) (CalL.cons er.cl_No c_No_on (by decide) (CalL.cons er.cl_Each c_Each_on (by decide) (CalL.cons er.cl_Either c_Either_on (by decide) (CalL.cons er.cl_Upon c_Upon_on (by decide) (CalL.cons er.cl_Until c_Until_on (by decide) (CalL.cons er.cl_Near c_Near_on (by decide) (CalL.cons er.cl_Till c_Till_on (by decide) (CalL.cons er.cl_Kth c_Kth_on (by decide) (CalL.cons er.cl_Every c_Every_on (by decide) CalL.nil)))))))))) (hr.mono (by decide)) (pv 0) (pa_cons (pe_op op_add (pv 2) (pv 3)) pa_nil)) (pa_cons (pe_bltn rfl z_bool PyProof.Rows.boot_bool (rel_ty _)) pa_nil))))) (pw_or1 (pt_cmpR op_ne (pe_mcalL (k := 2) (CalL.cons er.cl_All c_All_on (by decide) (CalL.cons er.cl_No c_No_on (by decide) (CalL.cons er.cl_Each c_Each_on (by decide) (CalL.cons er.cl_Either c_Either_on (by decide) (CalL.cons er.cl_Upon c_Upon_on (by decide) (CalL.cons er.cl_Until c_Until_on (by decide) (CalL.cons er.cl_Near c_Near_on (by decide) (CalL.cons er.cl_Till c_Till_on (by decide) (CalL.cons er.cl_Kth c_Kth_on (by decide) (CalL.cons er.cl_Every c_Every_on (by decide) CalL.nil)))))))))) (hr.mono (by decide)) (pv 0) (pa_cons (pe_op op_add (pv 2) (pv 3)) pa_nil)) (pv 4) (nomark _)))))
        (pss_one (ps_ret pe_bl))
        pss_nil))))
      (pss_one (ps_ret pe_bl)))), ?_⟩
  walk_at "rdc"
  refine rd_isiO ty isr ?_
  refine rd_bl ?_
  refine iteF ?_
  walk_at "rdc"
  refine ⟨x, C, dx, fs, _, m1, rfl, hx, l1, ?_⟩
  walk_at "rdc"
  refine ⟨x, n, b, rfl, R, fun p hp => ?_⟩
  walk_at "rdc"
  refine rd_neT (SqT.of hp) hp0 rfl rfl ?_
  rw [eq2 rfl]
  walk_at "rdc"
  refine iteF ?_
  walk_at "rdc"
  refine ⟨x, C', dx', fs', _, m2, rfl, hx', l2', ?_⟩
  walk_at "rdc"
  refine ⟨x, n, b, rfl, R, ?_⟩
  walk_at "rdc"
  refine rd_ixT hp0 at0 ?_
  walk_at "rdc"
  refine iteNS rfl ?_
  walk_at "rdc"
  walk_at "rdf"
  walk_at "rdc"
  refine ⟨3, rfl, by omega, by omega, for_range (fun i σ' H' => H = H' ∧ ∃ c1 c2 : Option V, σ' = [some (.ref x), some (.ref p0), some (.int d), c1, c2]) ⟨rfl, _, _, rfl⟩ ?_ ?_⟩
  · rintro i σ' H' hi ⟨rfl, c1, c2, rfl⟩
    rw [Int.zero_add]
    walk_at "rdc"
    refine rd_ixT hp0 at1 ?_
    walk_at "rdc"
    refine rd_ixT hp0 at0 ?_
    walk_at "rdc"
    refine rd_i (show (0 : Int) ≤ (d + (i : Int)) % n from Int.emod_nonneg _ (by omega)) ?_
    walk_at "rdc"
    rw [and_one]
    refine ⟨x, C2, dx2, fs2, _, m3, rfl, hx2, l32, ?_⟩
    walk_at "rdc"
    refine ⟨x, n, _, b, rfl, R, ?_⟩
    walk_at "rdc"
    refine rd_isi (.bl _) (kit_bb K) ?_
    refine rd_bl ?_
    refine iteF ?_
    walk_at "rdc"
    refine ⟨x, C2, dx2, fs2, _, m3, rfl, hx2, l32, ?_⟩
    walk_at "rdc"
    refine ⟨x, n, _, b, rfl, R, ?_⟩
    walk_at "rdc"
    refine iteNS rfl ?_
    walk_at "rdc"
    exact ⟨rfl, _, _, rfl⟩
  rintro σ' H' ⟨rfl, c1, c2, rfl⟩
  walk_at "rdc"
  exact q _ (Same.refl _)
theorem sc_law : FnScope ["_law_script", "_law_one", "_law_other", "_law_number", "_law_first", "_law_day", "_law_spot", "_law_days", "_law_marks", "_law_rules", "_law_dues", "_law_k"] ["_law_script"] (defScope s_law) := ⟨rfl, rfl, rfl, by decide +kernel, rfl, by decide +kernel, by decide +kernel⟩
theorem ok_law {f : Addr} {fd : FuncData} (F : Fun K "law" "law" s_law f fd) (er : Errs K mg c_FeastError c_NoNumber c_TooLong c_Rule c_All c_No c_Each c_Either c_Upon c_Until c_Near c_Till c_Kth c_Every) (c__law_parts : Cal P w K mg base 8 "_law_parts" ["_law_script", "_law_start"] (spParts63 K c_Rule [c_All, c_No, c_Each, c_Either, c_Upon, c_Until, c_Near, c_Till, c_Kth, c_Every])) (c__law_cell_at : Cal P w K mg base 1 "_law_cell_at" ["_law_script", "_law_k"] (spCell K)) (c_All_turn : CalM P w K mg base CX0 1 c_All "turn" ["self"] (spTurnM K c_Rule [c_All, c_No, c_Each, c_Either, c_Upon, c_Until, c_Near, c_Till, c_Kth, c_Every])) (c_No_turn : CalM P w K mg base CX0 1 c_No "turn" ["self"] (spTurnM K c_Rule [c_All, c_No, c_Each, c_Either, c_Upon, c_Until, c_Near, c_Till, c_Kth, c_Every])) (c_Each_turn : CalM P w K mg base CX0 1 c_Each "turn" ["self"] (spTurnM K c_Rule [c_All, c_No, c_Each, c_Either, c_Upon, c_Until, c_Near, c_Till, c_Kth, c_Every])) (c_Either_turn : CalM P w K mg base CX0 1 c_Either "turn" ["self"] (spTurnM K c_Rule [c_All, c_No, c_Each, c_Either, c_Upon, c_Until, c_Near, c_Till, c_Kth, c_Every])) (c_Upon_turn : CalM P w K mg base CX0 1 c_Upon "turn" ["self"] (spTurnM K c_Rule [c_All, c_No, c_Each, c_Either, c_Upon, c_Until, c_Near, c_Till, c_Kth, c_Every])) (c_Until_turn : CalM P w K mg base CX0 1 c_Until "turn" ["self"] (spTurnM K c_Rule [c_All, c_No, c_Each, c_Either, c_Upon, c_Until, c_Near, c_Till, c_Kth, c_Every])) (c_Near_turn : CalM P w K mg base CX0 1 c_Near "turn" ["self"] (spTurnM K c_Rule [c_All, c_No, c_Each, c_Either, c_Upon, c_Until, c_Near, c_Till, c_Kth, c_Every])) (c_Till_turn : CalM P w K mg base CX0 1 c_Till "turn" ["self"] (spTurnM K c_Rule [c_All, c_No, c_Each, c_Either, c_Upon, c_Until, c_Near, c_Till, c_Kth, c_Every])) (c_Kth_turn : CalM P w K mg base CX0 1 c_Kth "turn" ["self"] (spTurnM K c_Rule [c_All, c_No, c_Each, c_Either, c_Upon, c_Until, c_Near, c_Till, c_Kth, c_Every])) (c_Every_turn : CalM P w K mg base CX0 1 c_Every "turn" ["self"] (spTurnM K c_Rule [c_All, c_No, c_Each, c_Either, c_Upon, c_Until, c_Near, c_Till, c_Kth, c_Every])) (c_Upon___init__ : CalI P w K mg base CX0 8 "Upon" c_Upon ["self", "R", "S"] (spIW K c_Rule [c_All, c_No, c_Each, c_Either, c_Upon, c_Until, c_Near, c_Till, c_Kth, c_Every] c_Upon UponR)) (c_Until___init__ : CalI P w K mg base CX0 8 "Until" c_Until ["self", "R", "S"] (spIW K c_Rule [c_All, c_No, c_Each, c_Either, c_Upon, c_Until, c_Near, c_Till, c_Kth, c_Every] c_Until UntilR)) (c_Near___init__ : CalI P w K mg base CX0 10 "Near" c_Near ["self", "R", "S"] (spIW K c_Rule [c_All, c_No, c_Each, c_Either, c_Upon, c_Until, c_Near, c_Till, c_Kth, c_Every] c_Near NearR)) (c_Till___init__ : CalI P w K mg base CX0 8 "Till" c_Till ["self", "R", "S"] (spIW K c_Rule [c_All, c_No, c_Each, c_Either, c_Upon, c_Until, c_Near, c_Till, c_Kth, c_Every] c_Till TillR)) (c_upon : Cal P w K mg base 7 "upon" ["R", "S"] (spW K UponR)) (c_until : Cal P w K mg base 7 "until" ["R", "S"] (spW K UntilR)) (c_near : Cal P w K mg base 9 "near" ["R", "S"] (spW K NearR)) (c_till : Cal P w K mg base 7 "till" ["R", "S"] (spW K TillR)) (c__law_right : Cal P w K mg base 3 "_law_right" ["_law_rule", "_law_turn", "_law_day"] (spRight63 K c_Rule [c_All, c_No, c_Each, c_Either, c_Upon, c_Until, c_Near, c_Till, c_Kth, c_Every])) (c_Kth___init__ : CalI P w K mg base CX0 9 "Kth" c_Kth ["self", "number", "R", "S"] (spIKth K c_Rule [c_All, c_No, c_Each, c_Either, c_Upon, c_Until, c_Near, c_Till, c_Kth, c_Every] c_Kth)) (c_kth : Cal P w K mg base 8 "kth" ["number", "R", "S"] (spKth0 K)) (c_Every___init__ : CalI P w K mg base CX0 7 "Every" c_Every ["self", "number", "R", "day"] (spIEvery K c_Rule [c_All, c_No, c_Each, c_Either, c_Upon, c_Until, c_Near, c_Till, c_Kth, c_Every] c_Every)) (c_every : Cal P w K mg base 6 "every" ["number", "R", "day"] (spEvery0 K)) (z_range : mg "range" = none) : FnOk P w K mg base CX0 12 f fd ["_law_script"] (spLaw K) := by
  refine F.ok (k := 11) sc_law (fun vs H Q E h => ?_) (fun cdv A outer s H vs Q E hr h => ?_)
  · obtain ⟨a, ns, rfl, _⟩ := h
    rfl
  obtain ⟨a, ns, rfl, hS, h63, hB, q⟩ := h
  refine ⟨_, (pss_cons (ps_set (i := 1) sc_law.nd rfl (by first | exact Or.inl rfl | exact Or.inr rfl) (pe_cal c__law_parts (hr.mono (by decide)) rfl (pa_cons (pv 0) (pa_cons pe_int pa_nil))))
      (pss_cons (ps_set (i := 2) sc_law.nd rfl (by first | exact Or.inl rfl | exact Or.inr rfl) (pe_cal c__law_parts (hr.mono (by decide)) rfl (pa_cons (pv 0) (pa_cons pe_int pa_nil))))
      (pss_cons (ps_set (i := 3) sc_law.nd rfl (by first | exact Or.inl rfl | exact Or.inr rfl) (pe_op op_add pe_int (pe_op op_mod (pe_op op_fdivB (pe_cal c__law_cell_at (hr.mono (by decide)) rfl (pa_cons (pv 0) (pa_cons pe_int pa_nil))) pe_int) pe_int)))
      (pss_cons (ps_set (i := 4) sc_law.nd rfl (by first | exact Or.inl rfl | exact Or.inr rfl) (pe_op op_sub (pe_op op_mod (pe_cal c__law_cell_at (hr.mono (by decide)) rfl (pa_cons (pv 0) (pa_cons pe_int pa_nil))) (pe_op op_pow pe_int pe_int)) (pe_op op_mulB pe_int (pe_op op_pow pe_int pe_int))))
      (pss_cons (ps_set (i := 5) sc_law.nd rfl (by first | exact Or.inl rfl | exact Or.inr rfl) (pe_op op_sub (pe_op op_mod (pe_cal c__law_cell_at (hr.mono (by decide)) rfl (pa_cons (pv 0) (pa_cons pe_int pa_nil))) (pe_op op_pow pe_int pe_int)) (pe_op op_mulB pe_int (pe_op op_pow pe_int pe_int))))
      (pss_cons (ps_set (i := 6) sc_law.nd rfl (by first | exact Or.inl rfl | exact Or.inr rfl) (pv 3))
      (pss_cons (ps_cut (ps_if (pt_cmpR op_eq (pe_op op_mod (pe_cal c__law_cell_at (hr.mono (by decide)) rfl (pa_cons (pv 0) (pa_cons pe_int pa_nil))) pe_int) pe_int (nomark _))
        (pss_one (ps_set (i := 6) sc_law.nd rfl (by first | exact Or.inl rfl | exact Or.inr rfl) (pe_un un_neg (pv 3))))
        pss_nil))
      (pss_cons (ps_set (i := 7) sc_law.nd rfl (by first | exact Or.inl rfl | exact Or.inr rfl) (pe_mcalL0 (k := 1) (CalL.cons er.cl_All c_All_turn (by decide) (CalL.cons er.cl_No c_No_turn (by decide) (CalL.cons er.cl_Each c_Each_turn (by decide) (CalL.cons er.cl_Either c_Either_turn (by decide) (CalL.cons er.cl_Upon c_Upon_turn (by decide) (CalL.cons er.cl_Until c_Until_turn (by decide) (CalL.cons er.cl_Near c_Near_turn (by decide) (CalL.cons er.cl_Till c_Till_turn (by decide) (CalL.cons er.cl_Kth c_Kth_turn (by decide) (CalL.cons er.cl_Every c_Every_turn (by decide) CalL.nil)))))))))) (hr.mono (by decide)) (pv 1)))
      (pss_cons (ps_set (i := 8) sc_law.nd rfl (by first | exact Or.inl rfl | exact Or.inr rfl) (pe_mcalL0 (k := 1) (CalL.cons er.cl_All c_All_turn (by decide) (CalL.cons er.cl_No c_No_turn (by decide) (CalL.cons er.cl_Each c_Each_turn (by decide) (CalL.cons er.cl_Either c_Either_turn (by decide) (CalL.cons er.cl_Upon c_Upon_turn (by decide) (CalL.cons er.cl_Until c_Until_turn (by decide) (CalL.cons er.cl_Near c_Near_turn (by decide) (CalL.cons er.cl_Till c_Till_turn (by decide) (CalL.cons er.cl_Kth c_Kth_turn (by decide) (CalL.cons er.cl_Every c_Every_turn (by decide) CalL.nil)))))))))) (hr.mono (by decide)) (pv 2)))
      (pss_cons (ps_set (i := 9) sc_law.nd rfl (by first | exact Or.inl rfl | exact Or.inr rfl) (pe_lst (pa_cons (pe_mk c_Upon___init__ (hr.mono (by decide)) rfl (pa_cons (pv 1) (pa_cons (pv 2) pa_nil))) (pa_cons (pe_mk c_Until___init__ (hr.mono (by decide)) rfl (pa_cons (pv 1) (pa_cons (pv 2) pa_nil))) (pa_cons (pe_mk c_Near___init__ (hr.mono (by decide)) rfl (pa_cons (pv 1) (pa_cons (pv 2) pa_nil))) (pa_cons (pe_mk c_Till___init__ (hr.mono (by decide)) rfl (pa_cons (pv 1) (pa_cons (pv 2) pa_nil))) pa_nil))))))
      (pss_cons (ps_set (i := 10) sc_law.nd rfl (by first | exact Or.inl rfl | exact Or.inr rfl) (pe_lst (pa_cons (pe_cal c_upon (hr.mono (by decide)) rfl (pa_cons (pv 7) (pa_cons (pv 8) pa_nil))) (pa_cons (pe_cal c_until (hr.mono (by decide)) rfl (pa_cons (pv 7) (pa_cons (pv 8) pa_nil))) (pa_cons (pe_cal c_near (hr.mono (by decide)) rfl (pa_cons (pv 7) (pa_cons (pv 8) pa_nil))) (pa_cons (pe_cal c_till (hr.mono (by decide)) rfl (pa_cons (pv 7) (pa_cons (pv 8) pa_nil))) pa_nil))))))
      (pss_cons (ps_for PassesOwn.never rfl (pi_range1 rfl z_range (pa_cons pe_int pa_nil)) (pg_name (i := 11) sc_law.nd rfl (by first | exact Or.inl rfl | exact Or.inr rfl))
        (pss_one (ps_if (pt_not (pt_val (pe_cal c__law_right (hr.mono (by decide)) rfl (pa_cons (pe_ix ix_list (pv 9) (pv 11) (fun _ _ => rfl)) (pa_cons (pe_ix ix_list (pv 10) (pv 11) (fun _ _ => rfl)) (pa_cons (pv 5) pa_nil))))))
        (pss_one (ps_ret pe_bl))
        pss_nil)))
      (pss_cons (ps_if (pt_not (pt_val (pe_cal c__law_right (hr.mono (by decide)) rfl (pa_cons (pe_mk c_Kth___init__ (hr.mono (by decide)) rfl (pa_cons (pv 6) (pa_cons (pv 1) (pa_cons (pv 2) pa_nil)))) (pa_cons (pe_cal c_kth (hr.mono (by decide)) rfl (pa_cons (pv 6) (pa_cons (pv 7) (pa_cons (pv 8) pa_nil)))) (pa_cons (pv 5) pa_nil))))))
        (pss_one (ps_ret pe_bl))
        pss_nil)
      (pss_one (ps_ret (pe_cal c__law_right (hr.mono (by decide)) rfl (pa_cons (pe_mk c_Every___init__ (hr.mono (by decide)) rfl (pa_cons (pv 3) (pa_cons (pv 1) (pa_cons (pv 4) pa_nil)))) (pa_cons (pe_cal c_every (hr.mono (by decide)) rfl (pa_cons (pv 3) (pa_cons (pv 7) (pa_cons (pv 4) pa_nil)))) (pa_cons (pv 5) pa_nil))))))))))))))))))), ?_⟩
  walk_at "rdc"
  refine ⟨a, ns, 3, rfl, hS, h63, by decide, by decide, fun x1 n1 b1 H1 s1 R1 m1 => ?_⟩
  walk_at "rdc"
  refine ⟨a, ns, 5, rfl, s1.seq hS, h63, by decide, by decide, fun x2 n2 b2 H2 s2 R2 m2 => ?_⟩
  replace R1 := R1.same s2
  have hS2 := (s1.trans s2).seq hS
  have z1 := R1.n0
  have z2 := R2.n0
  have fl := lcmI_facts z1 z2
  have lz : lcmI n1 n2 ≤ 150000 := Int.le_trans (lcmI_le z1 z2) (Int.le_trans (Int.mul_le_mul m1 m2 (by omega) (by decide)) (by decide))
  walk_at "rdc"
  rw [p40, p39]
  refine rd_i ⟨64, 200, by unfold Bt; omega, bt_of (by omega) (by omega), by decide⟩ ?_
  walk_at "rdc"
  rw [p40, p39]
  refine rd_i ⟨64, 200, by unfold Bt; omega, bt_of (by omega) (by omega), by decide⟩ ?_
  walk_at "rdc"
  generalize hnum : 1 + ns.getD (Int.toNat 0) 0 / 2 % 4 = num
  have nu0 : 1 ≤ num := by omega
  have nu1 : num ≤ 4 := by omega
  generalize hfi : ns.getD (Int.toNat 1) 0 % 10000000000000000000000000000000000000000 - 5 * 1000000000000000000000000000000000000000 = first
  have bf : Bt 200 first := bt_of (by omega) (by omega)
  generalize ns.getD (Int.toNat 2) 0 % 10000000000000000000000000000000000000000 - 5 * 1000000000000000000000000000000000000000 = day
  refine rd_cut (fun σ' H' => H' = H2 ∧ ∃ spot : Int, σ' = [some (.ref a), some (.ref x1), some (.ref x2), some (.int num), some (.int first), some (.int day), some (.int spot), none, none, none, none, none] ∧ spot ≠ 0 ∧ -4 ≤ spot ∧ spot ≤ 4) ?_ ?_
  · walk_at "rdc"
    refine ite2d (fun _ => ?_) (fun _ => ?_)
    · walk_at "rdc"
      exact ⟨rfl, _, rfl, by omega, by omega, by omega⟩
    · walk_at "rdc"
      exact ⟨rfl, _, rfl, by omega, by omega, by omega⟩
  rintro σ' H' ⟨rfl, spot, rfl, sp0, sp1, sp2⟩
  walk_at "rdc"
  obtain ⟨C1, e1, fs1, w1, hx1, l1, _, _⟩ := R1.meth (spTurnM K c_Rule [c_All, c_No, c_Each, c_Either, c_Upon, c_Until, c_Near, c_Till, c_Kth, c_Every])
  obtain ⟨C2, e2, fs2, w2, hx2, l2, _, _⟩ := R2.meth (spTurnM K c_Rule [c_All, c_No, c_Each, c_Either, c_Upon, c_Until, c_Near, c_Till, c_Kth, c_Every])
  refine ⟨x1, C1, e1, fs1, _, w1, rfl, hx1, l1, ?_⟩
  walk_at "rdc"
  refine ⟨x1, n1, b1, rfl, R1, fun p1 hp1 => ?_⟩
  walk_at "rdc"
  refine ⟨x2, C2, e2, fs2, _, w2, rfl, hx2, l2, ?_⟩
  walk_at "rdc"
  refine ⟨x2, n2, b2, rfl, R2, fun p2 hp2 => ?_⟩
  clear hx1 hx2 w1 w2 l1 l2 hS2 s1 s2 hS hB
  walk_at "rdc"
  intro y1 dy1 g1 g2 gn
  have sm1 := made_in (o := .own y1) (o' := .ins c_Upon dy1 []) g1 g2
  refine ⟨y1, x1, x2, n1, n2, b1, b2, rfl, R1.same sm1, R2.same sm1, lz, ⟨dy1, upd_same⟩, fun c1 H3 k3 O1 f1 => ⟨rfl, ?_⟩⟩
  have sx := made_same g1 g2 gn k3
  clear g1 g2 gn sm1 k3
  replace R1 := R1.same sx
  replace R2 := R2.same sx
  replace hp1 := sx _ _ hp1
  replace hp2 := sx _ _ hp2
  clear sx
  walk_at "rdc"
  intro y2 dy2 g1 g2 gn
  have sm1 := made_in (o := .own y2) (o' := .ins c_Until dy2 []) g1 g2
  refine ⟨y2, x1, x2, n1, n2, b1, b2, rfl, R1.same sm1, R2.same sm1, lz, ⟨dy2, upd_same⟩, fun c2 H4 k3 O2 f2 => ⟨rfl, ?_⟩⟩
  have sx := made_same g1 g2 gn k3
  clear g1 g2 gn sm1 k3
  replace R1 := R1.same sx
  replace R2 := R2.same sx
  replace O1 := O1.same sx
  replace hp1 := sx _ _ hp1
  replace hp2 := sx _ _ hp2
  clear sx
  walk_at "rdc"
  intro y3 dy3 g1 g2 gn
  have sm1 := made_in (o := .own y3) (o' := .ins c_Near dy3 []) g1 g2
  refine ⟨y3, x1, x2, n1, n2, b1, b2, rfl, R1.same sm1, R2.same sm1, lz, ⟨dy3, upd_same⟩, fun c3 H5 k3 O3 f3 => ⟨rfl, ?_⟩⟩
  have sx := made_same g1 g2 gn k3
  clear g1 g2 gn sm1 k3
  replace R1 := R1.same sx
  replace R2 := R2.same sx
  replace O1 := O1.same sx
  replace O2 := O2.same sx
  replace hp1 := sx _ _ hp1
  replace hp2 := sx _ _ hp2
  clear sx
  walk_at "rdc"
  intro y4 dy4 g1 g2 gn
  have sm1 := made_in (o := .own y4) (o' := .ins c_Till dy4 []) g1 g2
  refine ⟨y4, x1, x2, n1, n2, b1, b2, rfl, R1.same sm1, R2.same sm1, lz, ⟨dy4, upd_same⟩, fun c4 H6 k3 O4 f4 => ⟨rfl, ?_⟩⟩
  have sx := made_same g1 g2 gn k3
  clear g1 g2 gn sm1 k3
  replace R1 := R1.same sx
  replace R2 := R2.same sx
  replace O1 := O1.same sx
  replace O2 := O2.same sx
  replace O3 := O3.same sx
  replace hp1 := sx _ _ hp1
  replace hp2 := sx _ _ hp2
  clear sx
  walk_at "rdc"
  refine ⟨(by show 4 ≤ sizeLine; decide), fun lr hlr => ?_⟩
  have sx := same_new hlr (.lst [.ref y1, .ref y2, .ref y3, .ref y4])
  have t7 : upd H6 lr (.lst [.ref y1, .ref y2, .ref y3, .ref y4]) lr = some (.lst [.ref y1, .ref y2, .ref y3, .ref y4]) := upd_same
  generalize upd H6 lr (.lst [.ref y1, .ref y2, .ref y3, .ref y4]) = H7 at sx t7 ⊢
  replace R1 := R1.same sx
  replace R2 := R2.same sx
  replace O1 := O1.same sx
  replace O2 := O2.same sx
  replace O3 := O3.same sx
  replace O4 := O4.same sx
  replace hp1 := sx _ _ hp1
  replace hp2 := sx _ _ hp2
  clear sx hlr
  walk_at "rdc"
  refine ⟨p1, p2, n1, n2, b1, b2, rfl, SqT.of hp1, SqT.of hp2, z1, z2, R1.n1, R2.n1, R1.lt, R2.lt, lz, fun r1 d1 H8 sx u1 lt1 on1 => ?_⟩
  obtain rfl : c1 = d1 := on_ext fl.1 O1.lt lt1 fun x => (f1 x).trans (on1 x).symm
  replace R1 := R1.same sx
  replace R2 := R2.same sx
  replace O1 := O1.same sx
  replace O2 := O2.same sx
  replace O3 := O3.same sx
  replace O4 := O4.same sx
  replace hp1 := sx _ _ hp1
  replace hp2 := sx _ _ hp2
  replace t7 := sx _ _ t7
  clear sx f1 on1 lt1
  walk_at "rdc"
  refine ⟨p1, p2, n1, n2, b1, b2, rfl, SqT.of hp1, SqT.of hp2, z1, z2, R1.n1, R2.n1, R1.lt, R2.lt, lz, fun r2 d2 H9 sx u2 lt2 on2 => ?_⟩
  obtain rfl : c2 = d2 := on_ext fl.1 O2.lt lt2 fun x => (f2 x).trans (on2 x).symm
  replace R1 := R1.same sx
  replace R2 := R2.same sx
  replace O1 := O1.same sx
  replace O2 := O2.same sx
  replace O3 := O3.same sx
  replace O4 := O4.same sx
  replace hp1 := sx _ _ hp1
  replace hp2 := sx _ _ hp2
  replace t7 := sx _ _ t7
  replace u1 := sx _ _ u1
  clear sx f2 on2 lt2
  walk_at "rdc"
  refine ⟨p1, p2, n1, n2, b1, b2, rfl, SqT.of hp1, SqT.of hp2, z1, z2, R1.n1, R2.n1, R1.lt, R2.lt, lz, fun r3 d3 H10 sx u3 lt3 on3 => ?_⟩
  obtain rfl : c3 = d3 := on_ext fl.1 O3.lt lt3 fun x => (f3 x).trans (on3 x).symm
  replace R1 := R1.same sx
  replace R2 := R2.same sx
  replace O1 := O1.same sx
  replace O2 := O2.same sx
  replace O3 := O3.same sx
  replace O4 := O4.same sx
  replace hp1 := sx _ _ hp1
  replace hp2 := sx _ _ hp2
  replace t7 := sx _ _ t7
  replace u1 := sx _ _ u1
  replace u2 := sx _ _ u2
  clear sx f3 on3 lt3
  walk_at "rdc"
  refine ⟨p1, p2, n1, n2, b1, b2, rfl, SqT.of hp1, SqT.of hp2, z1, z2, R1.n1, R2.n1, R1.lt, R2.lt, lz, fun r4 d4 H11 sx u4 lt4 on4 => ?_⟩
  obtain rfl : c4 = d4 := on_ext fl.1 O4.lt lt4 fun x => (f4 x).trans (on4 x).symm
  replace R1 := R1.same sx
  replace R2 := R2.same sx
  replace O1 := O1.same sx
  replace O2 := O2.same sx
  replace O3 := O3.same sx
  replace O4 := O4.same sx
  replace hp1 := sx _ _ hp1
  replace hp2 := sx _ _ hp2
  replace t7 := sx _ _ t7
  replace u1 := sx _ _ u1
  replace u2 := sx _ _ u2
  replace u3 := sx _ _ u3
  clear sx f4 on4 lt4
  walk_at "rdc"
  refine ⟨(by show 4 ≤ sizeLine; decide), fun ld hld => ?_⟩
  have sx := same_new hld (.lst [.ref r1, .ref r2, .ref r3, .ref r4])
  have t8 : upd H11 ld (.lst [.ref r1, .ref r2, .ref r3, .ref r4]) ld = some (.lst [.ref r1, .ref r2, .ref r3, .ref r4]) := upd_same
  generalize upd H11 ld (.lst [.ref r1, .ref r2, .ref r3, .ref r4]) = H12 at sx t8 ⊢
  replace R1 := R1.same sx
  replace R2 := R2.same sx
  replace O1 := O1.same sx
  replace O2 := O2.same sx
  replace O3 := O3.same sx
  replace O4 := O4.same sx
  replace hp1 := sx _ _ hp1
  replace hp2 := sx _ _ hp2
  replace t7 := sx _ _ t7
  replace u1 := sx _ _ u1
  replace u2 := sx _ _ u2
  replace u3 := sx _ _ u3
  replace u4 := sx _ _ u4
  clear sx hld
  walk_at "rdc"
  walk_at "rdf"
  walk_at "rdc"
  refine ⟨4, rfl, by omega, by omega, for_range (fun i σ' H' => Same H12 H' ∧ ∃ ck : Option V, σ' = [some (.ref a), some (.ref x1), some (.ref x2), some (.int num), some (.int first), some (.int day), some (.int spot), some (.ref p1), some (.ref p2), some (.ref lr), some (.ref ld), ck]) ⟨Same.refl _, _, rfl⟩ ?_ ?_⟩
  · rintro j σ' H13 hj ⟨sJ, v6, rfl⟩
    rw [Int.zero_add]
    have : j = 0 ∨ j = 1 ∨ j = 2 ∨ j = 3 := by have : (4 : Int).toNat = 4 := rfl; omega
    rcases this with rfl | rfl | rfl | rfl
    · walk_at "rdc"
      refine rd_ixL (SqL.of (sJ _ _ t7)) rfl ?_
      walk_at "rdc"
      refine rd_ixL (SqL.of (sJ _ _ t8)) rfl ?_
      walk_at "rdc"
      refine ⟨y1, r1, _, day, c1, rfl, O1.same sJ, SqT.of (sJ _ _ u1), fun H14 s14 => ?_⟩
      walk_at "rdc"
      refine iteF ?_
      walk_at "rdc"
      exact ⟨sJ.trans s14, _, rfl⟩
    · walk_at "rdc"
      refine rd_ixL (SqL.of (sJ _ _ t7)) rfl ?_
      walk_at "rdc"
      refine rd_ixL (SqL.of (sJ _ _ t8)) rfl ?_
      walk_at "rdc"
      refine ⟨y2, r2, _, day, c2, rfl, O2.same sJ, SqT.of (sJ _ _ u2), fun H14 s14 => ?_⟩
      walk_at "rdc"
      refine iteF ?_
      walk_at "rdc"
      exact ⟨sJ.trans s14, _, rfl⟩
    · walk_at "rdc"
      refine rd_ixL (SqL.of (sJ _ _ t7)) rfl ?_
      walk_at "rdc"
      refine rd_ixL (SqL.of (sJ _ _ t8)) rfl ?_
      walk_at "rdc"
      refine ⟨y3, r3, _, day, c3, rfl, O3.same sJ, SqT.of (sJ _ _ u3), fun H14 s14 => ?_⟩
      walk_at "rdc"
      refine iteF ?_
      walk_at "rdc"
      exact ⟨sJ.trans s14, _, rfl⟩
    · walk_at "rdc"
      refine rd_ixL (SqL.of (sJ _ _ t7)) rfl ?_
      walk_at "rdc"
      refine rd_ixL (SqL.of (sJ _ _ t8)) rfl ?_
      walk_at "rdc"
      refine ⟨y4, r4, _, day, c4, rfl, O4.same sJ, SqT.of (sJ _ _ u4), fun H14 s14 => ?_⟩
      walk_at "rdc"
      refine iteF ?_
      walk_at "rdc"
      exact ⟨sJ.trans s14, _, rfl⟩
  rintro σ' H13 ⟨sx, v6, rfl⟩
  replace R1 := R1.same sx
  replace R2 := R2.same sx
  replace hp1 := sx _ _ hp1
  replace hp2 := sx _ _ hp2
  clear sx O1 O2 O3 O4 u1 u2 u3 u4 t7 t8
  have bsp : Bt 400 spot := (bt_of (by omega) (by omega)).mono (by decide)
  have bnu : Bt 400 num := (bt_of (by omega) (by omega)).mono (by decide)
  have nk : n1 * num ≤ 150000 := Int.le_trans (Int.mul_le_mul m1 nu1 (by omega) (by decide)) (by decide)
  have zk : 0 < n1 * num := Int.mul_pos z1 (by omega)
  walk_at "rdc"
  intro y5 dy5 g1 g2 gn
  have sm1 := made_in (o := .own y5) (o' := .ins c_Kth dy5 []) g1 g2
  refine ⟨y5, x1, x2, spot, n1, n2, b1, b2, rfl, R1.same sm1, R2.same sm1, lz, sp0, bsp, ⟨dy5, upd_same⟩, fun c5 H14 k3 O5 f5 => ⟨rfl, ?_⟩⟩
  have sx := made_same g1 g2 gn k3
  clear g1 g2 gn sm1 k3
  replace R1 := R1.same sx
  replace R2 := R2.same sx
  replace hp1 := sx _ _ hp1
  replace hp2 := sx _ _ hp2
  clear sx
  walk_at "rdc"
  refine ⟨spot, p1, p2, n1, n2, b1, b2, rfl, ⟨SqT.of hp1, SqT.of hp2, z1, z2, R1.n1, R2.n1, R1.lt, R2.lt⟩, sp0, lz, fun r5 d5 H15 sx u5 lt5 on5 => ?_⟩
  obtain rfl : c5 = d5 := on_ext fl.1 O5.lt lt5 fun x => (f5 x).trans (on5 x).symm
  replace R1 := R1.same sx
  replace R2 := R2.same sx
  replace O5 := O5.same sx
  replace hp1 := sx _ _ hp1
  replace hp2 := sx _ _ hp2
  clear sx f5 on5 lt5
  walk_at "rdc"
  refine ⟨y5, r5, _, day, c5, rfl, O5, SqT.of u5, fun H16 sx => ?_⟩
  replace R1 := R1.same sx
  replace R2 := R2.same sx
  replace hp1 := sx _ _ hp1
  replace hp2 := sx _ _ hp2
  clear sx O5 u5
  walk_at "rdc"
  refine iteF ?_
  walk_at "rdc"
  intro y6 dy6 g1 g2 gn
  have sm1 := made_in (o := .own y6) (o' := .ins c_Every dy6 []) g1 g2
  refine ⟨y6, x1, num, n1, first, b1, rfl, R1.same sm1, bf.mono (by decide), bnu, nu0, nk, ⟨dy6, upd_same⟩, fun c6 H17 k3 O6 f6 => ⟨rfl, ?_⟩⟩
  have sx := made_same g1 g2 gn k3
  clear g1 g2 gn sm1 k3
  replace R1 := R1.same sx
  replace R2 := R2.same sx
  replace hp1 := sx _ _ hp1
  replace hp2 := sx _ _ hp2
  clear sx
  walk_at "rdc"
  refine ⟨num, first, p1, n1, b1, rfl, SqT.of hp1, z1, R1.n1, R1.lt, bf.mono (by decide), bnu, nu0, nk, fun r6 d6 H18 sx u6 lt6 on6 => ?_⟩
  obtain rfl : c6 = d6 := on_ext zk O6.lt lt6 fun x => (f6 x).trans (on6 x).symm
  replace R1 := R1.same sx
  replace R2 := R2.same sx
  replace O6 := O6.same sx
  replace hp1 := sx _ _ hp1
  replace hp2 := sx _ _ hp2
  walk_at "rdc"
  exact ⟨y6, r6, _, day, c6, rfl, O6, SqT.of u6, fun H19 s19 => q _⟩
end
theorem all_mk {l : PySem.W.OpenLaw} {w : World} {K : PySem.W.Frag} {h : Heap} {mg : Str → Option Value} {fa f0 f1 f2 f3 f4 f5 f6 f7 f8 f9 f10 f11 f12 f13 f14 f15 f16 f17 f18 f19 f20 f21 f22 f23 f24 f25 f26 f27 f28 f29 f30 f31 f32 f33 f34 f35 f36 f37 f38 f39 f40 f41 f42 f43 f44 f45 f46 f47 f48 f49 f50 f51 f52 f53 f54 f55 f56 f57 f58 f59 f60 f61 f62 f63 f64 f65 f66 f67 f68 f69 f70 f71 f72 f73 f74 f75 f76 f77 f78 f79 : Addr} {c_FeastError c_NoNumber c_TooLong c_Rule c_All c_No c_Each c_Either c_Upon c_Until c_Near c_Till c_Kth c_Every : Addr} (X : K.In h) (G : h.Ns mainGlobals mg) (hfa : mg "law" = some (.ref fa))
    {od0 an0 od1 an1 od2 an2 od3 an3 od4 an4 od5 an5 od6 an6 od7 an7 od8 an8 od9 an9 od10 an10 od11 an11 od12 an12 od13 an13 od14 an14 od15 an15 od16 an16 od17 an17 od18 an18 od19 an19 od20 an20 od21 an21 od22 an22 od23 an23 od24 an24 od25 an25 od26 an26 od27 an27 od28 an28 od29 an29 od30 an30 od31 an31 od32 an32 od33 an33 od34 an34 od35 an35 od36 an36 od37 an37 od38 an38 od39 an39 od40 an40 od41 an41 od42 an42 od43 an43 od44 an44 od45 an45 od46 an46 od47 an47 od48 an48 od49 an49 od50 an50 od51 an51 od52 an52 od53 an53 od54 an54 od55 an55 od56 an56 od57 an57 od58 an58 od59 an59 od60 an60 od61 an61 od62 an62 od63 an63 od64 an64 od65 an65 od66 an66 od67 an67 od68 an68 od69 an69 od70 an70 od71 an71 od72 an72 od73 an73 od74 an74 od75 an75 od76 an76 od77 an77 od78 an78 od79 an79 : Option Addr} {sl0 sl1 sl2 sl3 sl4 sl5 sl6 sl7 sl8 sl9 sl10 sl11 sl12 sl13 sl14 sl15 sl16 sl17 sl18 sl19 sl20 sl21 sl22 sl23 sl24 sl25 sl26 sl27 sl28 sl29 sl30 sl31 sl32 sl33 sl34 sl35 sl36 sl37 sl38 sl39 sl40 sl41 sl42 sl43 sl44 sl45 sl46 sl47 sl48 sl49 sl50 sl51 sl52 sl53 sl54 sl55 sl56 sl57 sl58 sl59 sl60 sl61 sl62 sl63 sl64 sl65 sl66 sl67 sl68 sl69 sl70 sl71 sl72 sl73 sl74 sl75 sl76 sl77 sl78 sl79 : Array (Option Value)} {oc0 kV0 dc0 pm0 cd0 ct0 oc1 kV1 dc1 pm1 cd1 ct1 oc2 kV2 dc2 pm2 cd2 ct2 oc3 kV3 dc3 pm3 cd3 ct3 oc4 kV4 dc4 pm4 cd4 ct4 oc5 kV5 dc5 pm5 cd5 ct5 oc6 kV6 dc6 pm6 cd6 ct6 oc7 kV7 dc7 pm7 cd7 ct7 oc8 kV8 dc8 pm8 cd8 ct8 oc9 kV9 dc9 pm9 cd9 ct9 oc10 kV10 dc10 pm10 cd10 ct10 oc11 kV11 dc11 pm11 cd11 ct11 oc12 kV12 dc12 pm12 cd12 ct12 oc13 kV13 dc13 pm13 cd13 ct13 oc14 kV14 dc14 pm14 cd14 ct14 oc15 kV15 dc15 pm15 cd15 ct15 oc16 kV16 dc16 pm16 cd16 ct16 oc17 kV17 dc17 pm17 cd17 ct17 oc18 kV18 dc18 pm18 cd18 ct18 oc19 kV19 dc19 pm19 cd19 ct19 oc20 kV20 dc20 pm20 cd20 ct20 oc21 kV21 dc21 pm21 cd21 ct21 oc22 kV22 dc22 pm22 cd22 ct22 oc23 kV23 dc23 pm23 cd23 ct23 oc24 kV24 dc24 pm24 cd24 ct24 oc25 kV25 dc25 pm25 cd25 ct25 oc26 kV26 dc26 pm26 cd26 ct26 oc27 kV27 dc27 pm27 cd27 ct27 oc28 kV28 dc28 pm28 cd28 ct28 oc29 kV29 dc29 pm29 cd29 ct29 oc30 kV30 dc30 pm30 cd30 ct30 oc31 kV31 dc31 pm31 cd31 ct31 oc32 kV32 dc32 pm32 cd32 ct32 oc33 kV33 dc33 pm33 cd33 ct33 oc34 kV34 dc34 pm34 cd34 ct34 oc35 kV35 dc35 pm35 cd35 ct35 oc36 kV36 dc36 pm36 cd36 ct36 oc37 kV37 dc37 pm37 cd37 ct37 oc38 kV38 dc38 pm38 cd38 ct38 oc39 kV39 dc39 pm39 cd39 ct39 oc40 kV40 dc40 pm40 cd40 ct40 oc41 kV41 dc41 pm41 cd41 ct41 oc42 kV42 dc42 pm42 cd42 ct42 oc43 kV43 dc43 pm43 cd43 ct43 oc44 kV44 dc44 pm44 cd44 ct44 oc45 kV45 dc45 pm45 cd45 ct45 oc46 kV46 dc46 pm46 cd46 ct46 oc47 kV47 dc47 pm47 cd47 ct47 oc48 kV48 dc48 pm48 cd48 ct48 oc49 kV49 dc49 pm49 cd49 ct49 oc50 kV50 dc50 pm50 cd50 ct50 oc51 kV51 dc51 pm51 cd51 ct51 oc52 kV52 dc52 pm52 cd52 ct52 oc53 kV53 dc53 pm53 cd53 ct53 oc54 kV54 dc54 pm54 cd54 ct54 oc55 kV55 dc55 pm55 cd55 ct55 oc56 kV56 dc56 pm56 cd56 ct56 oc57 kV57 dc57 pm57 cd57 ct57 oc58 kV58 dc58 pm58 cd58 ct58 oc59 kV59 dc59 pm59 cd59 ct59 oc60 kV60 dc60 pm60 cd60 ct60 oc61 kV61 dc61 pm61 cd61 ct61 oc62 kV62 dc62 pm62 cd62 ct62 oc63 kV63 dc63 pm63 cd63 ct63 oc64 kV64 dc64 pm64 cd64 ct64 oc65 kV65 dc65 pm65 cd65 ct65 oc66 kV66 dc66 pm66 cd66 ct66 oc67 kV67 dc67 pm67 cd67 ct67 oc68 kV68 dc68 pm68 cd68 ct68 oc69 kV69 dc69 pm69 cd69 ct69 oc70 kV70 dc70 pm70 cd70 ct70 oc71 kV71 dc71 pm71 cd71 ct71 oc72 kV72 dc72 pm72 cd72 ct72 oc73 kV73 dc73 pm73 cd73 ct73 oc74 kV74 dc74 pm74 cd74 ct74 oc75 kV75 dc75 pm75 cd75 ct75 oc76 kV76 dc76 pm76 cd76 ct76 oc77 kV77 dc77 pm77 cd77 ct77 oc78 kV78 dc78 pm78 cd78 ct78 oc79 kV79 dc79 pm79 cd79 ct79 : Value} {tk_LONGEST : Tok} {tk_PIECE : Tok}
    {T30 : Addr} {to30 : Value} {td30 : Option Addr} {tn30 : Nat} {ts30 : Array (Option Value)}
    (n_FeastError : PySem.W.nsIn K mainGlobals "FeastError" = some (some (.ref c_FeastError)))
    (n_NoNumber : PySem.W.nsIn K mainGlobals "NoNumber" = some (some (.ref c_NoNumber)))
    (n_TooLong : PySem.W.nsIn K mainGlobals "TooLong" = some (some (.ref c_TooLong)))
    (n_Rule : PySem.W.nsIn K mainGlobals "Rule" = some (some (.ref c_Rule)))
    (n_All : PySem.W.nsIn K mainGlobals "All" = some (some (.ref c_All)))
    (pg_All : PySem.W.plainGet K c_All Str.empty = true)
    (k_All : PySem.W.hasDictIn K c_All = true)
    (po_All : PySem.W.plainOver K c_All = true)
    (sa_All : PySem.W.findIn K (.ref c_All) "__setattr__" = some (some (.builtin "object.__setattr__")))
    (mk_All : PySem.W.makesIn K c_All = true)
    (kp_All : PySem.W.keepIn K (.ref c_All) = true)
    (na_All_kept : PySem.W.findIn K (.ref c_All) "kept" = some none)
    (na_All_made_of : PySem.W.findIn K (.ref c_All) "made_of" = some none)
    (na_All_words : PySem.W.findIn K (.ref c_All) "words" = some none)
    (ca_All : PySem.W.findIn K (.ref c_All) "__class__" = some (some (.builtin "object.__class__")))
    (ob_All : PySem.W.mroIn K c_All (.type "object") = some true)
    (i_All_Rule : PySem.W.kitOne K (.ref c_All) (.ref c_Rule) = some true)
    (n_No : PySem.W.nsIn K mainGlobals "No" = some (some (.ref c_No)))
    (pg_No : PySem.W.plainGet K c_No Str.empty = true)
    (k_No : PySem.W.hasDictIn K c_No = true)
    (po_No : PySem.W.plainOver K c_No = true)
    (sa_No : PySem.W.findIn K (.ref c_No) "__setattr__" = some (some (.builtin "object.__setattr__")))
    (mk_No : PySem.W.makesIn K c_No = true)
    (kp_No : PySem.W.keepIn K (.ref c_No) = true)
    (na_No_kept : PySem.W.findIn K (.ref c_No) "kept" = some none)
    (na_No_made_of : PySem.W.findIn K (.ref c_No) "made_of" = some none)
    (na_No_words : PySem.W.findIn K (.ref c_No) "words" = some none)
    (ca_No : PySem.W.findIn K (.ref c_No) "__class__" = some (some (.builtin "object.__class__")))
    (ob_No : PySem.W.mroIn K c_No (.type "object") = some true)
    (i_No_Rule : PySem.W.kitOne K (.ref c_No) (.ref c_Rule) = some true)
    (n_Each : PySem.W.nsIn K mainGlobals "Each" = some (some (.ref c_Each)))
    (pg_Each : PySem.W.plainGet K c_Each Str.empty = true)
    (k_Each : PySem.W.hasDictIn K c_Each = true)
    (po_Each : PySem.W.plainOver K c_Each = true)
    (sa_Each : PySem.W.findIn K (.ref c_Each) "__setattr__" = some (some (.builtin "object.__setattr__")))
    (mk_Each : PySem.W.makesIn K c_Each = true)
    (kp_Each : PySem.W.keepIn K (.ref c_Each) = true)
    (na_Each_kept : PySem.W.findIn K (.ref c_Each) "kept" = some none)
    (na_Each_made_of : PySem.W.findIn K (.ref c_Each) "made_of" = some none)
    (na_Each_words : PySem.W.findIn K (.ref c_Each) "words" = some none)
    (ca_Each : PySem.W.findIn K (.ref c_Each) "__class__" = some (some (.builtin "object.__class__")))
    (ob_Each : PySem.W.mroIn K c_Each (.type "object") = some true)
    (i_Each_Rule : PySem.W.kitOne K (.ref c_Each) (.ref c_Rule) = some true)
    (n_Either : PySem.W.nsIn K mainGlobals "Either" = some (some (.ref c_Either)))
    (pg_Either : PySem.W.plainGet K c_Either Str.empty = true)
    (k_Either : PySem.W.hasDictIn K c_Either = true)
    (po_Either : PySem.W.plainOver K c_Either = true)
    (sa_Either : PySem.W.findIn K (.ref c_Either) "__setattr__" = some (some (.builtin "object.__setattr__")))
    (mk_Either : PySem.W.makesIn K c_Either = true)
    (kp_Either : PySem.W.keepIn K (.ref c_Either) = true)
    (na_Either_kept : PySem.W.findIn K (.ref c_Either) "kept" = some none)
    (na_Either_made_of : PySem.W.findIn K (.ref c_Either) "made_of" = some none)
    (na_Either_words : PySem.W.findIn K (.ref c_Either) "words" = some none)
    (ca_Either : PySem.W.findIn K (.ref c_Either) "__class__" = some (some (.builtin "object.__class__")))
    (ob_Either : PySem.W.mroIn K c_Either (.type "object") = some true)
    (i_Either_Rule : PySem.W.kitOne K (.ref c_Either) (.ref c_Rule) = some true)
    (n_Upon : PySem.W.nsIn K mainGlobals "Upon" = some (some (.ref c_Upon)))
    (pg_Upon : PySem.W.plainGet K c_Upon Str.empty = true)
    (k_Upon : PySem.W.hasDictIn K c_Upon = true)
    (po_Upon : PySem.W.plainOver K c_Upon = true)
    (sa_Upon : PySem.W.findIn K (.ref c_Upon) "__setattr__" = some (some (.builtin "object.__setattr__")))
    (mk_Upon : PySem.W.makesIn K c_Upon = true)
    (kp_Upon : PySem.W.keepIn K (.ref c_Upon) = true)
    (na_Upon_kept : PySem.W.findIn K (.ref c_Upon) "kept" = some none)
    (na_Upon_made_of : PySem.W.findIn K (.ref c_Upon) "made_of" = some none)
    (na_Upon_words : PySem.W.findIn K (.ref c_Upon) "words" = some none)
    (ca_Upon : PySem.W.findIn K (.ref c_Upon) "__class__" = some (some (.builtin "object.__class__")))
    (ob_Upon : PySem.W.mroIn K c_Upon (.type "object") = some true)
    (i_Upon_Rule : PySem.W.kitOne K (.ref c_Upon) (.ref c_Rule) = some true)
    (n_Until : PySem.W.nsIn K mainGlobals "Until" = some (some (.ref c_Until)))
    (pg_Until : PySem.W.plainGet K c_Until Str.empty = true)
    (k_Until : PySem.W.hasDictIn K c_Until = true)
    (po_Until : PySem.W.plainOver K c_Until = true)
    (sa_Until : PySem.W.findIn K (.ref c_Until) "__setattr__" = some (some (.builtin "object.__setattr__")))
    (mk_Until : PySem.W.makesIn K c_Until = true)
    (kp_Until : PySem.W.keepIn K (.ref c_Until) = true)
    (na_Until_kept : PySem.W.findIn K (.ref c_Until) "kept" = some none)
    (na_Until_made_of : PySem.W.findIn K (.ref c_Until) "made_of" = some none)
    (na_Until_words : PySem.W.findIn K (.ref c_Until) "words" = some none)
    (ca_Until : PySem.W.findIn K (.ref c_Until) "__class__" = some (some (.builtin "object.__class__")))
    (ob_Until : PySem.W.mroIn K c_Until (.type "object") = some true)
    (i_Until_Rule : PySem.W.kitOne K (.ref c_Until) (.ref c_Rule) = some true)
    (n_Near : PySem.W.nsIn K mainGlobals "Near" = some (some (.ref c_Near)))
    (pg_Near : PySem.W.plainGet K c_Near Str.empty = true)
    (k_Near : PySem.W.hasDictIn K c_Near = true)
    (po_Near : PySem.W.plainOver K c_Near = true)
    (sa_Near : PySem.W.findIn K (.ref c_Near) "__setattr__" = some (some (.builtin "object.__setattr__")))
    (mk_Near : PySem.W.makesIn K c_Near = true)
    (kp_Near : PySem.W.keepIn K (.ref c_Near) = true)
    (na_Near_kept : PySem.W.findIn K (.ref c_Near) "kept" = some none)
    (na_Near_made_of : PySem.W.findIn K (.ref c_Near) "made_of" = some none)
    (na_Near_words : PySem.W.findIn K (.ref c_Near) "words" = some none)
    (ca_Near : PySem.W.findIn K (.ref c_Near) "__class__" = some (some (.builtin "object.__class__")))
    (ob_Near : PySem.W.mroIn K c_Near (.type "object") = some true)
    (i_Near_Rule : PySem.W.kitOne K (.ref c_Near) (.ref c_Rule) = some true)
    (n_Till : PySem.W.nsIn K mainGlobals "Till" = some (some (.ref c_Till)))
    (pg_Till : PySem.W.plainGet K c_Till Str.empty = true)
    (k_Till : PySem.W.hasDictIn K c_Till = true)
    (po_Till : PySem.W.plainOver K c_Till = true)
    (sa_Till : PySem.W.findIn K (.ref c_Till) "__setattr__" = some (some (.builtin "object.__setattr__")))
    (mk_Till : PySem.W.makesIn K c_Till = true)
    (kp_Till : PySem.W.keepIn K (.ref c_Till) = true)
    (na_Till_kept : PySem.W.findIn K (.ref c_Till) "kept" = some none)
    (na_Till_made_of : PySem.W.findIn K (.ref c_Till) "made_of" = some none)
    (na_Till_words : PySem.W.findIn K (.ref c_Till) "words" = some none)
    (ca_Till : PySem.W.findIn K (.ref c_Till) "__class__" = some (some (.builtin "object.__class__")))
    (ob_Till : PySem.W.mroIn K c_Till (.type "object") = some true)
    (i_Till_Rule : PySem.W.kitOne K (.ref c_Till) (.ref c_Rule) = some true)
    (n_Kth : PySem.W.nsIn K mainGlobals "Kth" = some (some (.ref c_Kth)))
    (pg_Kth : PySem.W.plainGet K c_Kth Str.empty = true)
    (k_Kth : PySem.W.hasDictIn K c_Kth = true)
    (po_Kth : PySem.W.plainOver K c_Kth = true)
    (sa_Kth : PySem.W.findIn K (.ref c_Kth) "__setattr__" = some (some (.builtin "object.__setattr__")))
    (mk_Kth : PySem.W.makesIn K c_Kth = true)
    (kp_Kth : PySem.W.keepIn K (.ref c_Kth) = true)
    (na_Kth_kept : PySem.W.findIn K (.ref c_Kth) "kept" = some none)
    (na_Kth_made_of : PySem.W.findIn K (.ref c_Kth) "made_of" = some none)
    (na_Kth_words : PySem.W.findIn K (.ref c_Kth) "words" = some none)
    (ca_Kth : PySem.W.findIn K (.ref c_Kth) "__class__" = some (some (.builtin "object.__class__")))
    (ob_Kth : PySem.W.mroIn K c_Kth (.type "object") = some true)
    (i_Kth_Rule : PySem.W.kitOne K (.ref c_Kth) (.ref c_Rule) = some true)
    (n_Every : PySem.W.nsIn K mainGlobals "Every" = some (some (.ref c_Every)))
    (pg_Every : PySem.W.plainGet K c_Every Str.empty = true)
    (k_Every : PySem.W.hasDictIn K c_Every = true)
    (po_Every : PySem.W.plainOver K c_Every = true)
    (sa_Every : PySem.W.findIn K (.ref c_Every) "__setattr__" = some (some (.builtin "object.__setattr__")))
    (mk_Every : PySem.W.makesIn K c_Every = true)
    (kp_Every : PySem.W.keepIn K (.ref c_Every) = true)
    (na_Every_kept : PySem.W.findIn K (.ref c_Every) "kept" = some none)
    (na_Every_made_of : PySem.W.findIn K (.ref c_Every) "made_of" = some none)
    (na_Every_words : PySem.W.findIn K (.ref c_Every) "words" = some none)
    (ca_Every : PySem.W.findIn K (.ref c_Every) "__class__" = some (some (.builtin "object.__class__")))
    (ob_Every : PySem.W.mroIn K c_Every (.type "object") = some true)
    (i_Every_Rule : PySem.W.kitOne K (.ref c_Every) (.ref c_Rule) = some true)
    (bsp_Rule : PySem.W.specialIn K (.ref c_Rule) "__getattribute__" = some (some (.builtin "type.__getattribute__")))
    (brd_Rule : PySem.W.readsIn K c_Rule (.type "type") = true)
    (xsp : PySem.W.specialIn K (.builtin "object.__class__") "__get__" = some (some (.builtin "getset_descriptor.__get__")))
    (xtk : PySem.W.takesIn K (.builtin "object.__class__") = some true)
    (a0 : PySem.W.nsIn K mainGlobals "refuse_below_one" = some (some (.ref f0))) (l0 : K.lookup f0 = some ⟨oc0, od0, .func (PySem.W.fnOf "refuse_below_one" "refuse_below_one" (defArgs s_refuse_below_one) (defBody s_refuse_below_one) (defScope s_refuse_below_one) .none kV0 dc0 pm0 an0 cd0 ct0), sl0⟩) (c0 : PySem.W.codeIn K cd0 "refuse_below_one" = true) (k0 : PySem.W.keepIn K (.ref f0) = true)
    (a1 : PySem.W.nsIn K mainGlobals "refuse_too_long" = some (some (.ref f1))) (l1 : K.lookup f1 = some ⟨oc1, od1, .func (PySem.W.fnOf "refuse_too_long" "refuse_too_long" (defArgs s_refuse_too_long) (defBody s_refuse_too_long) (defScope s_refuse_too_long) .none kV1 dc1 pm1 an1 cd1 ct1), sl1⟩) (c1 : PySem.W.codeIn K cd1 "refuse_too_long" = true) (k1 : PySem.W.keepIn K (.ref f1) = true)
    (a2 : PySem.W.nsIn K mainGlobals "equation" = some (some (.ref f2))) (l2 : K.lookup f2 = some ⟨oc2, od2, .func (PySem.W.fnOf "equation" "equation" (defArgs s_equation) (defBody s_equation) (defScope s_equation) .none kV2 dc2 pm2 an2 cd2 ct2), sl2⟩) (c2 : PySem.W.codeIn K cd2 "equation" = true) (k2 : PySem.W.keepIn K (.ref f2) = true)
    (a3 : PySem.W.nsIn K mainGlobals "divisor" = some (some (.ref f3))) (l3 : K.lookup f3 = some ⟨oc3, od3, .func (PySem.W.fnOf "divisor" "divisor" (defArgs s_divisor) (defBody s_divisor) (defScope s_divisor) .none kV3 dc3 pm3 an3 cd3 ct3), sl3⟩) (c3 : PySem.W.codeIn K cd3 "divisor" = true) (k3 : PySem.W.keepIn K (.ref f3) = true)
    (a4 : PySem.W.nsIn K mainGlobals "common" = some (some (.ref f4))) (l4 : K.lookup f4 = some ⟨oc4, od4, .func (PySem.W.fnOf "common" "common" (defArgs s_common) (defBody s_common) (defScope s_common) .none kV4 dc4 pm4 an4 cd4 ct4), sl4⟩) (c4 : PySem.W.codeIn K cd4 "common" = true) (k4 : PySem.W.keepIn K (.ref f4) = true)
    (a5 : PySem.W.nsIn K mainGlobals "round_by" = some (some (.ref f5))) (l5 : K.lookup f5 = some ⟨oc5, od5, .func (PySem.W.fnOf "round_by" "round_by" (defArgs s_round_by) (defBody s_round_by) (defScope s_round_by) .none kV5 dc5 pm5 an5 cd5 ct5), sl5⟩) (c5 : PySem.W.codeIn K cd5 "round_by" = true) (k5 : PySem.W.keepIn K (.ref f5) = true)
    (a6 : PySem.W.nsIn K mainGlobals "full_bits" = some (some (.ref f6))) (l6 : K.lookup f6 = some ⟨oc6, od6, .func (PySem.W.fnOf "full_bits" "full_bits" (defArgs s_full_bits) (defBody s_full_bits) (defScope s_full_bits) .none kV6 dc6 pm6 an6 cd6 ct6), sl6⟩) (c6 : PySem.W.codeIn K cd6 "full_bits" = true) (k6 : PySem.W.keepIn K (.ref f6) = true)
    (a7 : PySem.W.nsIn K mainGlobals "on" = some (some (.ref f7))) (l7 : K.lookup f7 = some ⟨oc7, od7, .func (PySem.W.fnOf "on" "on" (defArgs s_on) (defBody s_on) (defScope s_on) .none kV7 dc7 pm7 an7 cd7 ct7), sl7⟩) (c7 : PySem.W.codeIn K cd7 "on" = true) (k7 : PySem.W.keepIn K (.ref f7) = true)
    (a8 : PySem.W.nsIn K mainGlobals "on_rounds" = some (some (.ref f8))) (l8 : K.lookup f8 = some ⟨oc8, od8, .func (PySem.W.fnOf "on" "on" (defArgs s_on) (defBody s_on) (defScope s_on) .none kV8 dc8 pm8 an8 cd8 ct8), sl8⟩) (c8 : PySem.W.codeIn K cd8 "on" = true) (k8 : PySem.W.keepIn K (.ref f8) = true)
    (a9 : PySem.W.nsIn K mainGlobals "days_in" = some (some (.ref f9))) (l9 : K.lookup f9 = some ⟨oc9, od9, .func (PySem.W.fnOf "days_in" "days_in" (defArgs s_days_in) (defBody s_days_in) (defScope s_days_in) .none kV9 dc9 pm9 an9 cd9 ct9), sl9⟩) (c9 : PySem.W.codeIn K cd9 "days_in" = true) (k9 : PySem.W.keepIn K (.ref f9) = true)
    (a10 : PySem.W.nsIn K mainGlobals "bits_by" = some (some (.ref f10))) (l10 : K.lookup f10 = some ⟨oc10, od10, .func (PySem.W.fnOf "bits_by" "bits_by" (defArgs s_bits_by) (defBody s_bits_by) (defScope s_bits_by) .none kV10 dc10 pm10 an10 cd10 ct10), sl10⟩) (c10 : PySem.W.codeIn K cd10 "bits_by" = true) (k10 : PySem.W.keepIn K (.ref f10) = true)
    (a11 : PySem.W.nsIn K mainGlobals "stretched" = some (some (.ref f11))) (l11 : K.lookup f11 = some ⟨oc11, od11, .func (PySem.W.fnOf "stretched" "stretched" (defArgs s_stretched) (defBody s_stretched) (defScope s_stretched) .none kV11 dc11 pm11 an11 cd11 ct11), sl11⟩) (c11 : PySem.W.codeIn K cd11 "stretched" = true) (k11 : PySem.W.keepIn K (.ref f11) = true)
    (a12 : PySem.W.nsIn K mainGlobals "common_size" = some (some (.ref f12))) (l12 : K.lookup f12 = some ⟨oc12, od12, .func (PySem.W.fnOf "common_size" "common_size" (defArgs s_common_size) (defBody s_common_size) (defScope s_common_size) .none kV12 dc12 pm12 an12 cd12 ct12), sl12⟩) (c12 : PySem.W.codeIn K cd12 "common_size" = true) (k12 : PySem.W.keepIn K (.ref f12) = true)
    (a13 : PySem.W.nsIn K mainGlobals "both" = some (some (.ref f13))) (l13 : K.lookup f13 = some ⟨oc13, od13, .func (PySem.W.fnOf "both" "both" (defArgs s_both) (defBody s_both) (defScope s_both) .none kV13 dc13 pm13 an13 cd13 ct13), sl13⟩) (c13 : PySem.W.codeIn K cd13 "both" = true) (k13 : PySem.W.keepIn K (.ref f13) = true)
    (a14 : PySem.W.nsIn K mainGlobals "either" = some (some (.ref f14))) (l14 : K.lookup f14 = some ⟨oc14, od14, .func (PySem.W.fnOf "either" "either" (defArgs s_either) (defBody s_either) (defScope s_either) .none kV14 dc14 pm14 an14 cd14 ct14), sl14⟩) (c14 : PySem.W.codeIn K cd14 "either" = true) (k14 : PySem.W.keepIn K (.ref f14) = true)
    (a15 : PySem.W.nsIn K mainGlobals "unlike" = some (some (.ref f15))) (l15 : K.lookup f15 = some ⟨oc15, od15, .func (PySem.W.fnOf "unlike" "unlike" (defArgs s_unlike) (defBody s_unlike) (defScope s_unlike) .none kV15 dc15 pm15 an15 cd15 ct15), sl15⟩) (c15 : PySem.W.codeIn K cd15 "unlike" = true) (k15 : PySem.W.keepIn K (.ref f15) = true)
    (a16 : PySem.W.nsIn K mainGlobals "other_days" = some (some (.ref f16))) (l16 : K.lookup f16 = some ⟨oc16, od16, .func (PySem.W.fnOf "other_days" "other_days" (defArgs s_other_days) (defBody s_other_days) (defScope s_other_days) .none kV16 dc16 pm16 an16 cd16 ct16), sl16⟩) (c16 : PySem.W.codeIn K cd16 "other_days" = true) (k16 : PySem.W.keepIn K (.ref f16) = true)
    (a17 : PySem.W.nsIn K mainGlobals "without" = some (some (.ref f17))) (l17 : K.lookup f17 = some ⟨oc17, od17, .func (PySem.W.fnOf "without" "without" (defArgs s_without) (defBody s_without) (defScope s_without) .none kV17 dc17 pm17 an17 cd17 ct17), sl17⟩) (c17 : PySem.W.codeIn K cd17 "without" = true) (k17 : PySem.W.keepIn K (.ref f17) = true)
    (a18 : PySem.W.nsIn K mainGlobals "later" = some (some (.ref f18))) (l18 : K.lookup f18 = some ⟨oc18, od18, .func (PySem.W.fnOf "later" "later" (defArgs s_later) (defBody s_later) (defScope s_later) .none kV18 dc18 pm18 an18 cd18 ct18), sl18⟩) (c18 : PySem.W.codeIn K cd18 "later" = true) (k18 : PySem.W.keepIn K (.ref f18) = true)
    (a19 : PySem.W.nsIn K mainGlobals "ones_in" = some (some (.ref f19))) (l19 : K.lookup f19 = some ⟨oc19, od19, .func (PySem.W.fnOf "ones_in" "ones_in" (defArgs s_ones_in) (defBody s_ones_in) (defScope s_ones_in) .none kV19 dc19 pm19 an19 cd19 ct19), sl19⟩) (c19 : PySem.W.codeIn K cd19 "ones_in" = true) (k19 : PySem.W.keepIn K (.ref f19) = true)
    (a20 : PySem.W.nsIn K mainGlobals "days_ahead" = some (some (.ref f20))) (l20 : K.lookup f20 = some ⟨oc20, od20, .func (PySem.W.fnOf "days_ahead" "days_ahead" (defArgs s_days_ahead) (defBody s_days_ahead) (defScope s_days_ahead) .none kV20 dc20 pm20 an20 cd20 ct20), sl20⟩) (c20 : PySem.W.codeIn K cd20 "days_ahead" = true) (k20 : PySem.W.keepIn K (.ref f20) = true)
    (a21 : PySem.W.nsIn K mainGlobals "how_many" = some (some (.ref f21))) (l21 : K.lookup f21 = some ⟨oc21, od21, .func (PySem.W.fnOf "how_many" "how_many" (defArgs s_how_many) (defBody s_how_many) (defScope s_how_many) .none kV21 dc21 pm21 an21 cd21 ct21), sl21⟩) (c21 : PySem.W.codeIn K cd21 "how_many" = true) (k21 : PySem.W.keepIn K (.ref f21) = true)
    (a22 : PySem.W.nsIn K mainGlobals "gathered" = some (some (.ref f22))) (l22 : K.lookup f22 = some ⟨oc22, od22, .func (PySem.W.fnOf "gathered" "gathered" (defArgs s_gathered) (defBody s_gathered) (defScope s_gathered) .none kV22 dc22 pm22 an22 cd22 ct22), sl22⟩) (c22 : PySem.W.codeIn K cd22 "gathered" = true) (k22 : PySem.W.keepIn K (.ref f22) = true)
    (a23 : PySem.W.nsIn K mainGlobals "upon" = some (some (.ref f23))) (l23 : K.lookup f23 = some ⟨oc23, od23, .func (PySem.W.fnOf "upon" "upon" (defArgs s_upon) (defBody s_upon) (defScope s_upon) .none kV23 dc23 pm23 an23 cd23 ct23), sl23⟩) (c23 : PySem.W.codeIn K cd23 "upon" = true) (k23 : PySem.W.keepIn K (.ref f23) = true)
    (a24 : PySem.W.nsIn K mainGlobals "until" = some (some (.ref f24))) (l24 : K.lookup f24 = some ⟨oc24, od24, .func (PySem.W.fnOf "until" "until" (defArgs s_until) (defBody s_until) (defScope s_until) .none kV24 dc24 pm24 an24 cd24 ct24), sl24⟩) (c24 : PySem.W.codeIn K cd24 "until" = true) (k24 : PySem.W.keepIn K (.ref f24) = true)
    (a25 : PySem.W.nsIn K mainGlobals "till" = some (some (.ref f25))) (l25 : K.lookup f25 = some ⟨oc25, od25, .func (PySem.W.fnOf "till" "till" (defArgs s_till) (defBody s_till) (defScope s_till) .none kV25 dc25 pm25 an25 cd25 ct25), sl25⟩) (c25 : PySem.W.codeIn K cd25 "till" = true) (k25 : PySem.W.keepIn K (.ref f25) = true)
    (a26 : PySem.W.nsIn K mainGlobals "nearer_ahead" = some (some (.ref f26))) (l26 : K.lookup f26 = some ⟨oc26, od26, .func (PySem.W.fnOf "nearer_ahead" "nearer_ahead" (defArgs s_nearer_ahead) (defBody s_nearer_ahead) (defScope s_nearer_ahead) .none kV26 dc26 pm26 an26 cd26 ct26), sl26⟩) (c26 : PySem.W.codeIn K cd26 "nearer_ahead" = true) (k26 : PySem.W.keepIn K (.ref f26) = true)
    (a27 : PySem.W.nsIn K mainGlobals "near" = some (some (.ref f27))) (l27 : K.lookup f27 = some ⟨oc27, od27, .func (PySem.W.fnOf "near" "near" (defArgs s_near) (defBody s_near) (defScope s_near) .none kV27 dc27 pm27 an27 cd27 ct27), sl27⟩) (c27 : PySem.W.codeIn K cd27 "near" = true) (k27 : PySem.W.keepIn K (.ref f27) = true)
    (a28 : PySem.W.nsIn K mainGlobals "kth" = some (some (.ref f28))) (l28 : K.lookup f28 = some ⟨oc28, od28, .func (PySem.W.fnOf "kth" "kth" (defArgs s_kth) (defBody s_kth) (defScope s_kth) .none kV28 dc28 pm28 an28 cd28 ct28), sl28⟩) (c28 : PySem.W.codeIn K cd28 "kth" = true) (k28 : PySem.W.keepIn K (.ref f28) = true)
    (a29 : PySem.W.nsIn K mainGlobals "every" = some (some (.ref f29))) (l29 : K.lookup f29 = some ⟨oc29, od29, .func (PySem.W.fnOf "every" "every" (defArgs s_every) (defBody s_every) (defScope s_every) .none kV29 dc29 pm29 an29 cd29 ct29), sl29⟩) (c29 : PySem.W.codeIn K cd29 "every" = true) (k29 : PySem.W.keepIn K (.ref f29) = true)
    (a30 : PySem.W.findIn K (.ref c_Rule) "__init__" = some (some (.ref f30))) (l30 : K.lookup f30 = some ⟨oc30, od30, .func (PySem.W.fnOf "__init__" "Rule.__init__" (defArgs s_Rule___init__) (defBody s_Rule___init__) (defScope s_Rule___init__) (.ref T30) kV30 dc30 pm30 an30 cd30 ct30), sl30⟩) (c30 : PySem.W.codeIn K cd30 "Rule.__init__" = true) (k30 : PySem.W.keepIn K (.ref f30) = true)
    (t30 : K.lookup T30 = some ⟨to30, td30, .seq #[.none, .none, .none] tn30, ts30⟩)
    (bfc30 : PySem.W.findCls K (.ref c_Rule) (.type "type") "__init__" = some (.val (.ref f30)))
    (a31 : PySem.W.findIn K (.ref c_Rule) "on" = some (some (.ref f31))) (l31 : K.lookup f31 = some ⟨oc31, od31, .func (PySem.W.fnOf "on" "Rule.on" (defArgs s_Rule_on) (defBody s_Rule_on) (defScope s_Rule_on) .none kV31 dc31 pm31 an31 cd31 ct31), sl31⟩) (c31 : PySem.W.codeIn K cd31 "Rule.on" = true) (k31 : PySem.W.keepIn K (.ref f31) = true)
    (u31 : PySem.W.typeIn K (.ref f31) = some (.type "function"))
    (a32 : PySem.W.findIn K (.ref c_Rule) "size" = some (some (.ref f32))) (l32 : K.lookup f32 = some ⟨oc32, od32, .func (PySem.W.fnOf "size" "Rule.size" (defArgs s_Rule_size) (defBody s_Rule_size) (defScope s_Rule_size) .none kV32 dc32 pm32 an32 cd32 ct32), sl32⟩) (c32 : PySem.W.codeIn K cd32 "Rule.size" = true) (k32 : PySem.W.keepIn K (.ref f32) = true)
    (u32 : PySem.W.typeIn K (.ref f32) = some (.type "function"))
    (a33 : PySem.W.findIn K (.ref c_Rule) "turn" = some (some (.ref f33))) (l33 : K.lookup f33 = some ⟨oc33, od33, .func (PySem.W.fnOf "turn" "Rule.turn" (defArgs s_Rule_turn) (defBody s_Rule_turn) (defScope s_Rule_turn) .none kV33 dc33 pm33 an33 cd33 ct33), sl33⟩) (c33 : PySem.W.codeIn K cd33 "Rule.turn" = true) (k33 : PySem.W.keepIn K (.ref f33) = true)
    (u33 : PySem.W.typeIn K (.ref f33) = some (.type "function"))
    (a34 : PySem.W.findIn K (.ref c_All) "on" = some (some (.ref f34))) (l34 : K.lookup f34 = some ⟨oc34, od34, .func (PySem.W.fnOf "on" "Rule.on" (defArgs s_Rule_on) (defBody s_Rule_on) (defScope s_Rule_on) .none kV34 dc34 pm34 an34 cd34 ct34), sl34⟩) (c34 : PySem.W.codeIn K cd34 "Rule.on" = true) (k34 : PySem.W.keepIn K (.ref f34) = true)
    (u34 : PySem.W.typeIn K (.ref f34) = some (.type "function"))
    (a35 : PySem.W.findIn K (.ref c_All) "size" = some (some (.ref f35))) (l35 : K.lookup f35 = some ⟨oc35, od35, .func (PySem.W.fnOf "size" "Rule.size" (defArgs s_Rule_size) (defBody s_Rule_size) (defScope s_Rule_size) .none kV35 dc35 pm35 an35 cd35 ct35), sl35⟩) (c35 : PySem.W.codeIn K cd35 "Rule.size" = true) (k35 : PySem.W.keepIn K (.ref f35) = true)
    (u35 : PySem.W.typeIn K (.ref f35) = some (.type "function"))
    (a36 : PySem.W.findIn K (.ref c_All) "turn" = some (some (.ref f36))) (l36 : K.lookup f36 = some ⟨oc36, od36, .func (PySem.W.fnOf "turn" "Rule.turn" (defArgs s_Rule_turn) (defBody s_Rule_turn) (defScope s_Rule_turn) .none kV36 dc36 pm36 an36 cd36 ct36), sl36⟩) (c36 : PySem.W.codeIn K cd36 "Rule.turn" = true) (k36 : PySem.W.keepIn K (.ref f36) = true)
    (u36 : PySem.W.typeIn K (.ref f36) = some (.type "function"))
    (a37 : PySem.W.findIn K (.ref c_No) "on" = some (some (.ref f37))) (l37 : K.lookup f37 = some ⟨oc37, od37, .func (PySem.W.fnOf "on" "Rule.on" (defArgs s_Rule_on) (defBody s_Rule_on) (defScope s_Rule_on) .none kV37 dc37 pm37 an37 cd37 ct37), sl37⟩) (c37 : PySem.W.codeIn K cd37 "Rule.on" = true) (k37 : PySem.W.keepIn K (.ref f37) = true)
    (u37 : PySem.W.typeIn K (.ref f37) = some (.type "function"))
    (a38 : PySem.W.findIn K (.ref c_No) "size" = some (some (.ref f38))) (l38 : K.lookup f38 = some ⟨oc38, od38, .func (PySem.W.fnOf "size" "Rule.size" (defArgs s_Rule_size) (defBody s_Rule_size) (defScope s_Rule_size) .none kV38 dc38 pm38 an38 cd38 ct38), sl38⟩) (c38 : PySem.W.codeIn K cd38 "Rule.size" = true) (k38 : PySem.W.keepIn K (.ref f38) = true)
    (u38 : PySem.W.typeIn K (.ref f38) = some (.type "function"))
    (a39 : PySem.W.findIn K (.ref c_No) "turn" = some (some (.ref f39))) (l39 : K.lookup f39 = some ⟨oc39, od39, .func (PySem.W.fnOf "turn" "Rule.turn" (defArgs s_Rule_turn) (defBody s_Rule_turn) (defScope s_Rule_turn) .none kV39 dc39 pm39 an39 cd39 ct39), sl39⟩) (c39 : PySem.W.codeIn K cd39 "Rule.turn" = true) (k39 : PySem.W.keepIn K (.ref f39) = true)
    (u39 : PySem.W.typeIn K (.ref f39) = some (.type "function"))
    (a40 : PySem.W.findIn K (.ref c_Each) "on" = some (some (.ref f40))) (l40 : K.lookup f40 = some ⟨oc40, od40, .func (PySem.W.fnOf "on" "Rule.on" (defArgs s_Rule_on) (defBody s_Rule_on) (defScope s_Rule_on) .none kV40 dc40 pm40 an40 cd40 ct40), sl40⟩) (c40 : PySem.W.codeIn K cd40 "Rule.on" = true) (k40 : PySem.W.keepIn K (.ref f40) = true)
    (u40 : PySem.W.typeIn K (.ref f40) = some (.type "function"))
    (a41 : PySem.W.findIn K (.ref c_Each) "size" = some (some (.ref f41))) (l41 : K.lookup f41 = some ⟨oc41, od41, .func (PySem.W.fnOf "size" "Rule.size" (defArgs s_Rule_size) (defBody s_Rule_size) (defScope s_Rule_size) .none kV41 dc41 pm41 an41 cd41 ct41), sl41⟩) (c41 : PySem.W.codeIn K cd41 "Rule.size" = true) (k41 : PySem.W.keepIn K (.ref f41) = true)
    (u41 : PySem.W.typeIn K (.ref f41) = some (.type "function"))
    (a42 : PySem.W.findIn K (.ref c_Each) "turn" = some (some (.ref f42))) (l42 : K.lookup f42 = some ⟨oc42, od42, .func (PySem.W.fnOf "turn" "Rule.turn" (defArgs s_Rule_turn) (defBody s_Rule_turn) (defScope s_Rule_turn) .none kV42 dc42 pm42 an42 cd42 ct42), sl42⟩) (c42 : PySem.W.codeIn K cd42 "Rule.turn" = true) (k42 : PySem.W.keepIn K (.ref f42) = true)
    (u42 : PySem.W.typeIn K (.ref f42) = some (.type "function"))
    (a43 : PySem.W.findIn K (.ref c_Either) "on" = some (some (.ref f43))) (l43 : K.lookup f43 = some ⟨oc43, od43, .func (PySem.W.fnOf "on" "Rule.on" (defArgs s_Rule_on) (defBody s_Rule_on) (defScope s_Rule_on) .none kV43 dc43 pm43 an43 cd43 ct43), sl43⟩) (c43 : PySem.W.codeIn K cd43 "Rule.on" = true) (k43 : PySem.W.keepIn K (.ref f43) = true)
    (u43 : PySem.W.typeIn K (.ref f43) = some (.type "function"))
    (a44 : PySem.W.findIn K (.ref c_Either) "size" = some (some (.ref f44))) (l44 : K.lookup f44 = some ⟨oc44, od44, .func (PySem.W.fnOf "size" "Rule.size" (defArgs s_Rule_size) (defBody s_Rule_size) (defScope s_Rule_size) .none kV44 dc44 pm44 an44 cd44 ct44), sl44⟩) (c44 : PySem.W.codeIn K cd44 "Rule.size" = true) (k44 : PySem.W.keepIn K (.ref f44) = true)
    (u44 : PySem.W.typeIn K (.ref f44) = some (.type "function"))
    (a45 : PySem.W.findIn K (.ref c_Either) "turn" = some (some (.ref f45))) (l45 : K.lookup f45 = some ⟨oc45, od45, .func (PySem.W.fnOf "turn" "Rule.turn" (defArgs s_Rule_turn) (defBody s_Rule_turn) (defScope s_Rule_turn) .none kV45 dc45 pm45 an45 cd45 ct45), sl45⟩) (c45 : PySem.W.codeIn K cd45 "Rule.turn" = true) (k45 : PySem.W.keepIn K (.ref f45) = true)
    (u45 : PySem.W.typeIn K (.ref f45) = some (.type "function"))
    (a46 : PySem.W.findIn K (.ref c_Upon) "on" = some (some (.ref f46))) (l46 : K.lookup f46 = some ⟨oc46, od46, .func (PySem.W.fnOf "on" "Rule.on" (defArgs s_Rule_on) (defBody s_Rule_on) (defScope s_Rule_on) .none kV46 dc46 pm46 an46 cd46 ct46), sl46⟩) (c46 : PySem.W.codeIn K cd46 "Rule.on" = true) (k46 : PySem.W.keepIn K (.ref f46) = true)
    (u46 : PySem.W.typeIn K (.ref f46) = some (.type "function"))
    (a47 : PySem.W.findIn K (.ref c_Upon) "size" = some (some (.ref f47))) (l47 : K.lookup f47 = some ⟨oc47, od47, .func (PySem.W.fnOf "size" "Rule.size" (defArgs s_Rule_size) (defBody s_Rule_size) (defScope s_Rule_size) .none kV47 dc47 pm47 an47 cd47 ct47), sl47⟩) (c47 : PySem.W.codeIn K cd47 "Rule.size" = true) (k47 : PySem.W.keepIn K (.ref f47) = true)
    (u47 : PySem.W.typeIn K (.ref f47) = some (.type "function"))
    (a48 : PySem.W.findIn K (.ref c_Upon) "turn" = some (some (.ref f48))) (l48 : K.lookup f48 = some ⟨oc48, od48, .func (PySem.W.fnOf "turn" "Rule.turn" (defArgs s_Rule_turn) (defBody s_Rule_turn) (defScope s_Rule_turn) .none kV48 dc48 pm48 an48 cd48 ct48), sl48⟩) (c48 : PySem.W.codeIn K cd48 "Rule.turn" = true) (k48 : PySem.W.keepIn K (.ref f48) = true)
    (u48 : PySem.W.typeIn K (.ref f48) = some (.type "function"))
    (a49 : PySem.W.findIn K (.ref c_Until) "on" = some (some (.ref f49))) (l49 : K.lookup f49 = some ⟨oc49, od49, .func (PySem.W.fnOf "on" "Rule.on" (defArgs s_Rule_on) (defBody s_Rule_on) (defScope s_Rule_on) .none kV49 dc49 pm49 an49 cd49 ct49), sl49⟩) (c49 : PySem.W.codeIn K cd49 "Rule.on" = true) (k49 : PySem.W.keepIn K (.ref f49) = true)
    (u49 : PySem.W.typeIn K (.ref f49) = some (.type "function"))
    (a50 : PySem.W.findIn K (.ref c_Until) "size" = some (some (.ref f50))) (l50 : K.lookup f50 = some ⟨oc50, od50, .func (PySem.W.fnOf "size" "Rule.size" (defArgs s_Rule_size) (defBody s_Rule_size) (defScope s_Rule_size) .none kV50 dc50 pm50 an50 cd50 ct50), sl50⟩) (c50 : PySem.W.codeIn K cd50 "Rule.size" = true) (k50 : PySem.W.keepIn K (.ref f50) = true)
    (u50 : PySem.W.typeIn K (.ref f50) = some (.type "function"))
    (a51 : PySem.W.findIn K (.ref c_Until) "turn" = some (some (.ref f51))) (l51 : K.lookup f51 = some ⟨oc51, od51, .func (PySem.W.fnOf "turn" "Rule.turn" (defArgs s_Rule_turn) (defBody s_Rule_turn) (defScope s_Rule_turn) .none kV51 dc51 pm51 an51 cd51 ct51), sl51⟩) (c51 : PySem.W.codeIn K cd51 "Rule.turn" = true) (k51 : PySem.W.keepIn K (.ref f51) = true)
    (u51 : PySem.W.typeIn K (.ref f51) = some (.type "function"))
    (a52 : PySem.W.findIn K (.ref c_Near) "on" = some (some (.ref f52))) (l52 : K.lookup f52 = some ⟨oc52, od52, .func (PySem.W.fnOf "on" "Rule.on" (defArgs s_Rule_on) (defBody s_Rule_on) (defScope s_Rule_on) .none kV52 dc52 pm52 an52 cd52 ct52), sl52⟩) (c52 : PySem.W.codeIn K cd52 "Rule.on" = true) (k52 : PySem.W.keepIn K (.ref f52) = true)
    (u52 : PySem.W.typeIn K (.ref f52) = some (.type "function"))
    (a53 : PySem.W.findIn K (.ref c_Near) "size" = some (some (.ref f53))) (l53 : K.lookup f53 = some ⟨oc53, od53, .func (PySem.W.fnOf "size" "Rule.size" (defArgs s_Rule_size) (defBody s_Rule_size) (defScope s_Rule_size) .none kV53 dc53 pm53 an53 cd53 ct53), sl53⟩) (c53 : PySem.W.codeIn K cd53 "Rule.size" = true) (k53 : PySem.W.keepIn K (.ref f53) = true)
    (u53 : PySem.W.typeIn K (.ref f53) = some (.type "function"))
    (a54 : PySem.W.findIn K (.ref c_Near) "turn" = some (some (.ref f54))) (l54 : K.lookup f54 = some ⟨oc54, od54, .func (PySem.W.fnOf "turn" "Rule.turn" (defArgs s_Rule_turn) (defBody s_Rule_turn) (defScope s_Rule_turn) .none kV54 dc54 pm54 an54 cd54 ct54), sl54⟩) (c54 : PySem.W.codeIn K cd54 "Rule.turn" = true) (k54 : PySem.W.keepIn K (.ref f54) = true)
    (u54 : PySem.W.typeIn K (.ref f54) = some (.type "function"))
    (a55 : PySem.W.findIn K (.ref c_Till) "on" = some (some (.ref f55))) (l55 : K.lookup f55 = some ⟨oc55, od55, .func (PySem.W.fnOf "on" "Rule.on" (defArgs s_Rule_on) (defBody s_Rule_on) (defScope s_Rule_on) .none kV55 dc55 pm55 an55 cd55 ct55), sl55⟩) (c55 : PySem.W.codeIn K cd55 "Rule.on" = true) (k55 : PySem.W.keepIn K (.ref f55) = true)
    (u55 : PySem.W.typeIn K (.ref f55) = some (.type "function"))
    (a56 : PySem.W.findIn K (.ref c_Till) "size" = some (some (.ref f56))) (l56 : K.lookup f56 = some ⟨oc56, od56, .func (PySem.W.fnOf "size" "Rule.size" (defArgs s_Rule_size) (defBody s_Rule_size) (defScope s_Rule_size) .none kV56 dc56 pm56 an56 cd56 ct56), sl56⟩) (c56 : PySem.W.codeIn K cd56 "Rule.size" = true) (k56 : PySem.W.keepIn K (.ref f56) = true)
    (u56 : PySem.W.typeIn K (.ref f56) = some (.type "function"))
    (a57 : PySem.W.findIn K (.ref c_Till) "turn" = some (some (.ref f57))) (l57 : K.lookup f57 = some ⟨oc57, od57, .func (PySem.W.fnOf "turn" "Rule.turn" (defArgs s_Rule_turn) (defBody s_Rule_turn) (defScope s_Rule_turn) .none kV57 dc57 pm57 an57 cd57 ct57), sl57⟩) (c57 : PySem.W.codeIn K cd57 "Rule.turn" = true) (k57 : PySem.W.keepIn K (.ref f57) = true)
    (u57 : PySem.W.typeIn K (.ref f57) = some (.type "function"))
    (a58 : PySem.W.findIn K (.ref c_Kth) "on" = some (some (.ref f58))) (l58 : K.lookup f58 = some ⟨oc58, od58, .func (PySem.W.fnOf "on" "Rule.on" (defArgs s_Rule_on) (defBody s_Rule_on) (defScope s_Rule_on) .none kV58 dc58 pm58 an58 cd58 ct58), sl58⟩) (c58 : PySem.W.codeIn K cd58 "Rule.on" = true) (k58 : PySem.W.keepIn K (.ref f58) = true)
    (u58 : PySem.W.typeIn K (.ref f58) = some (.type "function"))
    (a59 : PySem.W.findIn K (.ref c_Kth) "size" = some (some (.ref f59))) (l59 : K.lookup f59 = some ⟨oc59, od59, .func (PySem.W.fnOf "size" "Rule.size" (defArgs s_Rule_size) (defBody s_Rule_size) (defScope s_Rule_size) .none kV59 dc59 pm59 an59 cd59 ct59), sl59⟩) (c59 : PySem.W.codeIn K cd59 "Rule.size" = true) (k59 : PySem.W.keepIn K (.ref f59) = true)
    (u59 : PySem.W.typeIn K (.ref f59) = some (.type "function"))
    (a60 : PySem.W.findIn K (.ref c_Kth) "turn" = some (some (.ref f60))) (l60 : K.lookup f60 = some ⟨oc60, od60, .func (PySem.W.fnOf "turn" "Rule.turn" (defArgs s_Rule_turn) (defBody s_Rule_turn) (defScope s_Rule_turn) .none kV60 dc60 pm60 an60 cd60 ct60), sl60⟩) (c60 : PySem.W.codeIn K cd60 "Rule.turn" = true) (k60 : PySem.W.keepIn K (.ref f60) = true)
    (u60 : PySem.W.typeIn K (.ref f60) = some (.type "function"))
    (a61 : PySem.W.findIn K (.ref c_Every) "on" = some (some (.ref f61))) (l61 : K.lookup f61 = some ⟨oc61, od61, .func (PySem.W.fnOf "on" "Rule.on" (defArgs s_Rule_on) (defBody s_Rule_on) (defScope s_Rule_on) .none kV61 dc61 pm61 an61 cd61 ct61), sl61⟩) (c61 : PySem.W.codeIn K cd61 "Rule.on" = true) (k61 : PySem.W.keepIn K (.ref f61) = true)
    (u61 : PySem.W.typeIn K (.ref f61) = some (.type "function"))
    (a62 : PySem.W.findIn K (.ref c_Every) "size" = some (some (.ref f62))) (l62 : K.lookup f62 = some ⟨oc62, od62, .func (PySem.W.fnOf "size" "Rule.size" (defArgs s_Rule_size) (defBody s_Rule_size) (defScope s_Rule_size) .none kV62 dc62 pm62 an62 cd62 ct62), sl62⟩) (c62 : PySem.W.codeIn K cd62 "Rule.size" = true) (k62 : PySem.W.keepIn K (.ref f62) = true)
    (u62 : PySem.W.typeIn K (.ref f62) = some (.type "function"))
    (a63 : PySem.W.findIn K (.ref c_Every) "turn" = some (some (.ref f63))) (l63 : K.lookup f63 = some ⟨oc63, od63, .func (PySem.W.fnOf "turn" "Rule.turn" (defArgs s_Rule_turn) (defBody s_Rule_turn) (defScope s_Rule_turn) .none kV63 dc63 pm63 an63 cd63 ct63), sl63⟩) (c63 : PySem.W.codeIn K cd63 "Rule.turn" = true) (k63 : PySem.W.keepIn K (.ref f63) = true)
    (u63 : PySem.W.typeIn K (.ref f63) = some (.type "function"))
    (a64 : PySem.W.findIn K (.ref c_All) "__init__" = some (some (.ref f64))) (l64 : K.lookup f64 = some ⟨oc64, od64, .func (PySem.W.fnOf "__init__" "All.__init__" (defArgs s_All___init__) (defBody s_All___init__) (defScope s_All___init__) .none kV64 dc64 pm64 an64 cd64 ct64), sl64⟩) (c64 : PySem.W.codeIn K cd64 "All.__init__" = true) (k64 : PySem.W.keepIn K (.ref f64) = true)
    (u64 : PySem.W.typeIn K (.ref f64) = some (.type "function"))
    (a65 : PySem.W.findIn K (.ref c_No) "__init__" = some (some (.ref f65))) (l65 : K.lookup f65 = some ⟨oc65, od65, .func (PySem.W.fnOf "__init__" "No.__init__" (defArgs s_No___init__) (defBody s_No___init__) (defScope s_No___init__) .none kV65 dc65 pm65 an65 cd65 ct65), sl65⟩) (c65 : PySem.W.codeIn K cd65 "No.__init__" = true) (k65 : PySem.W.keepIn K (.ref f65) = true)
    (u65 : PySem.W.typeIn K (.ref f65) = some (.type "function"))
    (a66 : PySem.W.nsIn K mainGlobals "each_text" = some (some (.ref f66))) (l66 : K.lookup f66 = some ⟨oc66, od66, .func (PySem.W.fnOf "each_text" "each_text" (defArgs s_each_text) (defBody s_each_text) (defScope s_each_text) .none kV66 dc66 pm66 an66 cd66 ct66), sl66⟩) (c66 : PySem.W.codeIn K cd66 "each_text" = true) (k66 : PySem.W.keepIn K (.ref f66) = true)
    (a67 : PySem.W.findIn K (.ref c_Each) "__init__" = some (some (.ref f67))) (l67 : K.lookup f67 = some ⟨oc67, od67, .func (PySem.W.fnOf "__init__" "Each.__init__" (defArgs s_Each___init__) (defBody s_Each___init__) (defScope s_Each___init__) .none kV67 dc67 pm67 an67 cd67 ct67), sl67⟩) (c67 : PySem.W.codeIn K cd67 "Each.__init__" = true) (k67 : PySem.W.keepIn K (.ref f67) = true)
    (u67 : PySem.W.typeIn K (.ref f67) = some (.type "function"))
    (a68 : PySem.W.findIn K (.ref c_Either) "__init__" = some (some (.ref f68))) (l68 : K.lookup f68 = some ⟨oc68, od68, .func (PySem.W.fnOf "__init__" "Either.__init__" (defArgs s_Either___init__) (defBody s_Either___init__) (defScope s_Either___init__) .none kV68 dc68 pm68 an68 cd68 ct68), sl68⟩) (c68 : PySem.W.codeIn K cd68 "Either.__init__" = true) (k68 : PySem.W.keepIn K (.ref f68) = true)
    (u68 : PySem.W.typeIn K (.ref f68) = some (.type "function"))
    (a69 : PySem.W.findIn K (.ref c_Upon) "__init__" = some (some (.ref f69))) (l69 : K.lookup f69 = some ⟨oc69, od69, .func (PySem.W.fnOf "__init__" "Upon.__init__" (defArgs s_Upon___init__) (defBody s_Upon___init__) (defScope s_Upon___init__) .none kV69 dc69 pm69 an69 cd69 ct69), sl69⟩) (c69 : PySem.W.codeIn K cd69 "Upon.__init__" = true) (k69 : PySem.W.keepIn K (.ref f69) = true)
    (u69 : PySem.W.typeIn K (.ref f69) = some (.type "function"))
    (a70 : PySem.W.findIn K (.ref c_Until) "__init__" = some (some (.ref f70))) (l70 : K.lookup f70 = some ⟨oc70, od70, .func (PySem.W.fnOf "__init__" "Until.__init__" (defArgs s_Until___init__) (defBody s_Until___init__) (defScope s_Until___init__) .none kV70 dc70 pm70 an70 cd70 ct70), sl70⟩) (c70 : PySem.W.codeIn K cd70 "Until.__init__" = true) (k70 : PySem.W.keepIn K (.ref f70) = true)
    (u70 : PySem.W.typeIn K (.ref f70) = some (.type "function"))
    (a71 : PySem.W.findIn K (.ref c_Near) "__init__" = some (some (.ref f71))) (l71 : K.lookup f71 = some ⟨oc71, od71, .func (PySem.W.fnOf "__init__" "Near.__init__" (defArgs s_Near___init__) (defBody s_Near___init__) (defScope s_Near___init__) .none kV71 dc71 pm71 an71 cd71 ct71), sl71⟩) (c71 : PySem.W.codeIn K cd71 "Near.__init__" = true) (k71 : PySem.W.keepIn K (.ref f71) = true)
    (u71 : PySem.W.typeIn K (.ref f71) = some (.type "function"))
    (a72 : PySem.W.findIn K (.ref c_Till) "__init__" = some (some (.ref f72))) (l72 : K.lookup f72 = some ⟨oc72, od72, .func (PySem.W.fnOf "__init__" "Till.__init__" (defArgs s_Till___init__) (defBody s_Till___init__) (defScope s_Till___init__) .none kV72 dc72 pm72 an72 cd72 ct72), sl72⟩) (c72 : PySem.W.codeIn K cd72 "Till.__init__" = true) (k72 : PySem.W.keepIn K (.ref f72) = true)
    (u72 : PySem.W.typeIn K (.ref f72) = some (.type "function"))
    (a73 : PySem.W.findIn K (.ref c_Kth) "__init__" = some (some (.ref f73))) (l73 : K.lookup f73 = some ⟨oc73, od73, .func (PySem.W.fnOf "__init__" "Kth.__init__" (defArgs s_Kth___init__) (defBody s_Kth___init__) (defScope s_Kth___init__) .none kV73 dc73 pm73 an73 cd73 ct73), sl73⟩) (c73 : PySem.W.codeIn K cd73 "Kth.__init__" = true) (k73 : PySem.W.keepIn K (.ref f73) = true)
    (u73 : PySem.W.typeIn K (.ref f73) = some (.type "function"))
    (a74 : PySem.W.findIn K (.ref c_Every) "__init__" = some (some (.ref f74))) (l74 : K.lookup f74 = some ⟨oc74, od74, .func (PySem.W.fnOf "__init__" "Every.__init__" (defArgs s_Every___init__) (defBody s_Every___init__) (defScope s_Every___init__) .none kV74 dc74 pm74 an74 cd74 ct74), sl74⟩) (c74 : PySem.W.codeIn K cd74 "Every.__init__" = true) (k74 : PySem.W.keepIn K (.ref f74) = true)
    (u74 : PySem.W.typeIn K (.ref f74) = some (.type "function"))
    (a75 : PySem.W.nsIn K mainGlobals "_law_cell_at" = some (some (.ref f75))) (l75 : K.lookup f75 = some ⟨oc75, od75, .func (PySem.W.fnOf "_law_cell_at" "_law_cell_at" (defArgs s_law_cell_at) (defBody s_law_cell_at) (defScope s_law_cell_at) .none kV75 dc75 pm75 an75 cd75 ct75), sl75⟩) (c75 : PySem.W.codeIn K cd75 "_law_cell_at" = true) (k75 : PySem.W.keepIn K (.ref f75) = true)
    (a76 : PySem.W.nsIn K mainGlobals "_law_part" = some (some (.ref f76))) (l76 : K.lookup f76 = some ⟨oc76, od76, .func (PySem.W.fnOf "_law_part" "_law_part" (defArgs s_law_part) (defBody s_law_part) (defScope s_law_part) .none kV76 dc76 pm76 an76 cd76 ct76), sl76⟩) (c76 : PySem.W.codeIn K cd76 "_law_part" = true) (k76 : PySem.W.keepIn K (.ref f76) = true)
    (a77 : PySem.W.nsIn K mainGlobals "_law_parts" = some (some (.ref f77))) (l77 : K.lookup f77 = some ⟨oc77, od77, .func (PySem.W.fnOf "_law_parts" "_law_parts" (defArgs s_law_parts) (defBody s_law_parts) (defScope s_law_parts) .none kV77 dc77 pm77 an77 cd77 ct77), sl77⟩) (c77 : PySem.W.codeIn K cd77 "_law_parts" = true) (k77 : PySem.W.keepIn K (.ref f77) = true)
    (a78 : PySem.W.nsIn K mainGlobals "_law_right" = some (some (.ref f78))) (l78 : K.lookup f78 = some ⟨oc78, od78, .func (PySem.W.fnOf "_law_right" "_law_right" (defArgs s_law_right) (defBody s_law_right) (defScope s_law_right) .none kV78 dc78 pm78 an78 cd78 ct78), sl78⟩) (c78 : PySem.W.codeIn K cd78 "_law_right" = true) (k78 : PySem.W.keepIn K (.ref f78) = true)
    (a79 : PySem.W.nsIn K mainGlobals "law" = some (some (.ref f79))) (l79 : K.lookup f79 = some ⟨oc79, od79, .func (PySem.W.fnOf "law" "law" (defArgs s_law) (defBody s_law) (defScope s_law) .none kV79 dc79 pm79 an79 cd79 ct79), sl79⟩) (c79 : PySem.W.codeIn K cd79 "law" = true) (k79 : PySem.W.keepIn K (.ref f79) = true)
    (z_range : PySem.W.nsIn K mainGlobals "range" = some none)
    (z_len : PySem.W.nsIn K mainGlobals "len" = some none)
    (z_abs : PySem.W.nsIn K mainGlobals "abs" = some none)
    (z_zip : PySem.W.nsIn K mainGlobals "zip" = some none)
    (z_list : PySem.W.nsIn K mainGlobals "list" = some none)
    (z_isinstance : PySem.W.nsIn K mainGlobals "isinstance" = some none)
    (z_bool : PySem.W.nsIn K mainGlobals "bool" = some none)
    (m_LONGEST : PySem.W.nsIn K mainGlobals "LONGEST" = some (some (.int 150000 tk_LONGEST)))
    (m_PIECE : PySem.W.nsIn K mainGlobals "PIECE" = some (some (.int 256 tk_PIECE)))
    : ∃ fd : FuncData, (∀ (s : Shared) (v : Value), BindsTo s fd ⟨[v], []⟩ [("_law_script", v)]) ∧ ∀ base : Heap, K.In base → base.Ns mainGlobals mg → FnOk l.prog w K mg base CX0 12 fa fd ["_law_script"] (spLaw K) := by
  have e := hfa.symm.trans (PySem.W.mg_of X G a79)
  cases e
  have F0 := fun_mk (st := s_refuse_below_one) l0 c0 k0
  have b0 := F0.binds (ps := ["number"]) fun _ _ _ _ _ _ us hl => by obtain ⟨_, rfl⟩ := len1 hl; rfl
  have F1 := fun_mk (st := s_refuse_too_long) l1 c1 k1
  have b1 := F1.binds (ps := ["size"]) fun _ _ _ _ _ _ us hl => by obtain ⟨_, rfl⟩ := len1 hl; rfl
  have F2 := fun_mk (st := s_equation) l2 c2 k2
  have b2 := F2.binds (ps := ["one", "other"]) fun _ _ _ _ _ _ us hl => by obtain ⟨_, _, rfl⟩ := len2 hl; rfl
  have F3 := fun_mk (st := s_divisor) l3 c3 k3
  have b3 := F3.binds (ps := ["one", "other"]) fun _ _ _ _ _ _ us hl => by obtain ⟨_, _, rfl⟩ := len2 hl; rfl
  have F4 := fun_mk (st := s_common) l4 c4 k4
  have b4 := F4.binds (ps := ["one", "other"]) fun _ _ _ _ _ _ us hl => by obtain ⟨_, _, rfl⟩ := len2 hl; rfl
  have F5 := fun_mk (st := s_round_by) l5 c5 k5
  have b5 := F5.binds (ps := ["size", "days"]) fun _ _ _ _ _ _ us hl => by obtain ⟨_, _, rfl⟩ := len2 hl; rfl
  have F6 := fun_mk (st := s_full_bits) l6 c6 k6
  have b6 := F6.binds (ps := ["size"]) fun _ _ _ _ _ _ us hl => by obtain ⟨_, rfl⟩ := len1 hl; rfl
  have F7 := fun_mk (st := s_on) l7 c7 k7
  have b7 := F7.binds (ps := ["turn", "day"]) fun _ _ _ _ _ _ us hl => by obtain ⟨_, _, rfl⟩ := len2 hl; rfl
  have F8 := fun_mk (st := s_on) l8 c8 k8
  have b8 := F8.binds (ps := ["turn", "day"]) fun _ _ _ _ _ _ us hl => by obtain ⟨_, _, rfl⟩ := len2 hl; rfl
  have F9 := fun_mk (st := s_days_in) l9 c9 k9
  have b9 := F9.binds (ps := ["turn"]) fun _ _ _ _ _ _ us hl => by obtain ⟨_, rfl⟩ := len1 hl; rfl
  have F10 := fun_mk (st := s_bits_by) l10 c10 k10
  have b10 := F10.binds (ps := ["turn", "size"]) fun _ _ _ _ _ _ us hl => by obtain ⟨_, _, rfl⟩ := len2 hl; rfl
  have F11 := fun_mk (st := s_stretched) l11 c11 k11
  have b11 := F11.binds (ps := ["turn", "size"]) fun _ _ _ _ _ _ us hl => by obtain ⟨_, _, rfl⟩ := len2 hl; rfl
  have F12 := fun_mk (st := s_common_size) l12 c12 k12
  have b12 := F12.binds (ps := ["one", "other"]) fun _ _ _ _ _ _ us hl => by obtain ⟨_, _, rfl⟩ := len2 hl; rfl
  have F13 := fun_mk (st := s_both) l13 c13 k13
  have b13 := F13.binds (ps := ["one", "other"]) fun _ _ _ _ _ _ us hl => by obtain ⟨_, _, rfl⟩ := len2 hl; rfl
  have F14 := fun_mk (st := s_either) l14 c14 k14
  have b14 := F14.binds (ps := ["one", "other"]) fun _ _ _ _ _ _ us hl => by obtain ⟨_, _, rfl⟩ := len2 hl; rfl
  have F15 := fun_mk (st := s_unlike) l15 c15 k15
  have b15 := F15.binds (ps := ["one", "other"]) fun _ _ _ _ _ _ us hl => by obtain ⟨_, _, rfl⟩ := len2 hl; rfl
  have F16 := fun_mk (st := s_other_days) l16 c16 k16
  have b16 := F16.binds (ps := ["turn"]) fun _ _ _ _ _ _ us hl => by obtain ⟨_, rfl⟩ := len1 hl; rfl
  have F17 := fun_mk (st := s_without) l17 c17 k17
  have b17 := F17.binds (ps := ["one", "other"]) fun _ _ _ _ _ _ us hl => by obtain ⟨_, _, rfl⟩ := len2 hl; rfl
  have F18 := fun_mk (st := s_later) l18 c18 k18
  have b18 := F18.binds (ps := ["turn", "number"]) fun _ _ _ _ _ _ us hl => by obtain ⟨_, _, rfl⟩ := len2 hl; rfl
  have F19 := fun_mk (st := s_ones_in) l19 c19 k19
  have b19 := F19.binds (ps := ["bits"]) fun _ _ _ _ _ _ us hl => by obtain ⟨_, rfl⟩ := len1 hl; rfl
  have F20 := fun_mk (st := s_days_ahead) l20 c20 k20
  have b20 := F20.binds (ps := ["turn", "day"]) fun _ _ _ _ _ _ us hl => by obtain ⟨_, _, rfl⟩ := len2 hl; rfl
  have F21 := fun_mk (st := s_how_many) l21 c21 k21
  have b21 := F21.binds (ps := ["turn", "first", "end"]) fun _ _ _ _ _ _ us hl => by obtain ⟨_, _, _, rfl⟩ := len3 hl; rfl
  have F22 := fun_mk (st := s_gathered) l22 c22 k22
  have b22 := F22.binds (ps := ["turn", "barred", "step", "join"]) fun _ _ _ _ _ _ us hl => by obtain ⟨_, _, _, _, rfl⟩ := len4 hl; rfl
  have F23 := fun_mk (st := s_upon) l23 c23 k23
  have b23 := F23.binds (ps := ["R", "S"]) fun _ _ _ _ _ _ us hl => by obtain ⟨_, _, rfl⟩ := len2 hl; rfl
  have F24 := fun_mk (st := s_until) l24 c24 k24
  have b24 := F24.binds (ps := ["R", "S"]) fun _ _ _ _ _ _ us hl => by obtain ⟨_, _, rfl⟩ := len2 hl; rfl
  have F25 := fun_mk (st := s_till) l25 c25 k25
  have b25 := F25.binds (ps := ["R", "S"]) fun _ _ _ _ _ _ us hl => by obtain ⟨_, _, rfl⟩ := len2 hl; rfl
  have F26 := fun_mk (st := s_nearer_ahead) l26 c26 k26
  have b26 := F26.binds (ps := ["R"]) fun _ _ _ _ _ _ us hl => by obtain ⟨_, rfl⟩ := len1 hl; rfl
  have F27 := fun_mk (st := s_near) l27 c27 k27
  have b27 := F27.binds (ps := ["R", "S"]) fun _ _ _ _ _ _ us hl => by obtain ⟨_, _, rfl⟩ := len2 hl; rfl
  have F28 := fun_mk (st := s_kth) l28 c28 k28
  have b28 := F28.binds (ps := ["number", "R", "S"]) fun _ _ _ _ _ _ us hl => by obtain ⟨_, _, _, rfl⟩ := len3 hl; rfl
  have F29 := fun_mk (st := s_every) l29 c29 k29
  have b29 := F29.binds (ps := ["number", "R", "day"]) fun _ _ _ _ _ _ us hl => by obtain ⟨_, _, _, rfl⟩ := len3 hl; rfl
  have F30 := fun_mkD (st := s_Rule___init__) l30 c30 k30 t30 rfl
  have b30 := FunD.bindsD (ps := ["self", "kept", "made_of", "words"]) (dv := []) 4 rfl F30 fun _ _ _ _ _ _ _ us hl => by obtain ⟨_, _, _, _, rfl⟩ := len4 hl; exact ⟨_, rfl, rfl⟩
  have F31 := fun_mk (st := s_Rule_on) l31 c31 k31
  have b31 := F31.binds (ps := ["self", "day"]) fun _ _ _ _ _ _ us hl => by obtain ⟨_, _, rfl⟩ := len2 hl; rfl
  have F32 := fun_mk (st := s_Rule_size) l32 c32 k32
  have b32 := F32.binds (ps := ["self"]) fun _ _ _ _ _ _ us hl => by obtain ⟨_, rfl⟩ := len1 hl; rfl
  have F33 := fun_mk (st := s_Rule_turn) l33 c33 k33
  have b33 := F33.binds (ps := ["self"]) fun _ _ _ _ _ _ us hl => by obtain ⟨_, rfl⟩ := len1 hl; rfl
  have F34 := fun_mk (st := s_Rule_on) l34 c34 k34
  have b34 := F34.binds (ps := ["self", "day"]) fun _ _ _ _ _ _ us hl => by obtain ⟨_, _, rfl⟩ := len2 hl; rfl
  have F35 := fun_mk (st := s_Rule_size) l35 c35 k35
  have b35 := F35.binds (ps := ["self"]) fun _ _ _ _ _ _ us hl => by obtain ⟨_, rfl⟩ := len1 hl; rfl
  have F36 := fun_mk (st := s_Rule_turn) l36 c36 k36
  have b36 := F36.binds (ps := ["self"]) fun _ _ _ _ _ _ us hl => by obtain ⟨_, rfl⟩ := len1 hl; rfl
  have F37 := fun_mk (st := s_Rule_on) l37 c37 k37
  have b37 := F37.binds (ps := ["self", "day"]) fun _ _ _ _ _ _ us hl => by obtain ⟨_, _, rfl⟩ := len2 hl; rfl
  have F38 := fun_mk (st := s_Rule_size) l38 c38 k38
  have b38 := F38.binds (ps := ["self"]) fun _ _ _ _ _ _ us hl => by obtain ⟨_, rfl⟩ := len1 hl; rfl
  have F39 := fun_mk (st := s_Rule_turn) l39 c39 k39
  have b39 := F39.binds (ps := ["self"]) fun _ _ _ _ _ _ us hl => by obtain ⟨_, rfl⟩ := len1 hl; rfl
  have F40 := fun_mk (st := s_Rule_on) l40 c40 k40
  have b40 := F40.binds (ps := ["self", "day"]) fun _ _ _ _ _ _ us hl => by obtain ⟨_, _, rfl⟩ := len2 hl; rfl
  have F41 := fun_mk (st := s_Rule_size) l41 c41 k41
  have b41 := F41.binds (ps := ["self"]) fun _ _ _ _ _ _ us hl => by obtain ⟨_, rfl⟩ := len1 hl; rfl
  have F42 := fun_mk (st := s_Rule_turn) l42 c42 k42
  have b42 := F42.binds (ps := ["self"]) fun _ _ _ _ _ _ us hl => by obtain ⟨_, rfl⟩ := len1 hl; rfl
  have F43 := fun_mk (st := s_Rule_on) l43 c43 k43
  have b43 := F43.binds (ps := ["self", "day"]) fun _ _ _ _ _ _ us hl => by obtain ⟨_, _, rfl⟩ := len2 hl; rfl
  have F44 := fun_mk (st := s_Rule_size) l44 c44 k44
  have b44 := F44.binds (ps := ["self"]) fun _ _ _ _ _ _ us hl => by obtain ⟨_, rfl⟩ := len1 hl; rfl
  have F45 := fun_mk (st := s_Rule_turn) l45 c45 k45
  have b45 := F45.binds (ps := ["self"]) fun _ _ _ _ _ _ us hl => by obtain ⟨_, rfl⟩ := len1 hl; rfl
  have F46 := fun_mk (st := s_Rule_on) l46 c46 k46
  have b46 := F46.binds (ps := ["self", "day"]) fun _ _ _ _ _ _ us hl => by obtain ⟨_, _, rfl⟩ := len2 hl; rfl
  have F47 := fun_mk (st := s_Rule_size) l47 c47 k47
  have b47 := F47.binds (ps := ["self"]) fun _ _ _ _ _ _ us hl => by obtain ⟨_, rfl⟩ := len1 hl; rfl
  have F48 := fun_mk (st := s_Rule_turn) l48 c48 k48
  have b48 := F48.binds (ps := ["self"]) fun _ _ _ _ _ _ us hl => by obtain ⟨_, rfl⟩ := len1 hl; rfl
  have F49 := fun_mk (st := s_Rule_on) l49 c49 k49
  have b49 := F49.binds (ps := ["self", "day"]) fun _ _ _ _ _ _ us hl => by obtain ⟨_, _, rfl⟩ := len2 hl; rfl
  have F50 := fun_mk (st := s_Rule_size) l50 c50 k50
  have b50 := F50.binds (ps := ["self"]) fun _ _ _ _ _ _ us hl => by obtain ⟨_, rfl⟩ := len1 hl; rfl
  have F51 := fun_mk (st := s_Rule_turn) l51 c51 k51
  have b51 := F51.binds (ps := ["self"]) fun _ _ _ _ _ _ us hl => by obtain ⟨_, rfl⟩ := len1 hl; rfl
  have F52 := fun_mk (st := s_Rule_on) l52 c52 k52
  have b52 := F52.binds (ps := ["self", "day"]) fun _ _ _ _ _ _ us hl => by obtain ⟨_, _, rfl⟩ := len2 hl; rfl
  have F53 := fun_mk (st := s_Rule_size) l53 c53 k53
  have b53 := F53.binds (ps := ["self"]) fun _ _ _ _ _ _ us hl => by obtain ⟨_, rfl⟩ := len1 hl; rfl
  have F54 := fun_mk (st := s_Rule_turn) l54 c54 k54
  have b54 := F54.binds (ps := ["self"]) fun _ _ _ _ _ _ us hl => by obtain ⟨_, rfl⟩ := len1 hl; rfl
  have F55 := fun_mk (st := s_Rule_on) l55 c55 k55
  have b55 := F55.binds (ps := ["self", "day"]) fun _ _ _ _ _ _ us hl => by obtain ⟨_, _, rfl⟩ := len2 hl; rfl
  have F56 := fun_mk (st := s_Rule_size) l56 c56 k56
  have b56 := F56.binds (ps := ["self"]) fun _ _ _ _ _ _ us hl => by obtain ⟨_, rfl⟩ := len1 hl; rfl
  have F57 := fun_mk (st := s_Rule_turn) l57 c57 k57
  have b57 := F57.binds (ps := ["self"]) fun _ _ _ _ _ _ us hl => by obtain ⟨_, rfl⟩ := len1 hl; rfl
  have F58 := fun_mk (st := s_Rule_on) l58 c58 k58
  have b58 := F58.binds (ps := ["self", "day"]) fun _ _ _ _ _ _ us hl => by obtain ⟨_, _, rfl⟩ := len2 hl; rfl
  have F59 := fun_mk (st := s_Rule_size) l59 c59 k59
  have b59 := F59.binds (ps := ["self"]) fun _ _ _ _ _ _ us hl => by obtain ⟨_, rfl⟩ := len1 hl; rfl
  have F60 := fun_mk (st := s_Rule_turn) l60 c60 k60
  have b60 := F60.binds (ps := ["self"]) fun _ _ _ _ _ _ us hl => by obtain ⟨_, rfl⟩ := len1 hl; rfl
  have F61 := fun_mk (st := s_Rule_on) l61 c61 k61
  have b61 := F61.binds (ps := ["self", "day"]) fun _ _ _ _ _ _ us hl => by obtain ⟨_, _, rfl⟩ := len2 hl; rfl
  have F62 := fun_mk (st := s_Rule_size) l62 c62 k62
  have b62 := F62.binds (ps := ["self"]) fun _ _ _ _ _ _ us hl => by obtain ⟨_, rfl⟩ := len1 hl; rfl
  have F63 := fun_mk (st := s_Rule_turn) l63 c63 k63
  have b63 := F63.binds (ps := ["self"]) fun _ _ _ _ _ _ us hl => by obtain ⟨_, rfl⟩ := len1 hl; rfl
  have F64 := fun_mk (st := s_All___init__) l64 c64 k64
  have b64 := F64.binds (ps := ["self"]) fun _ _ _ _ _ _ us hl => by obtain ⟨_, rfl⟩ := len1 hl; rfl
  have F65 := fun_mk (st := s_No___init__) l65 c65 k65
  have b65 := F65.binds (ps := ["self"]) fun _ _ _ _ _ _ us hl => by obtain ⟨_, rfl⟩ := len1 hl; rfl
  have F66 := fun_mk (st := s_each_text) l66 c66 k66
  have b66 := F66.binds (ps := ["step", "rest"]) fun _ _ _ _ _ _ us hl => by obtain ⟨_, _, rfl⟩ := len2 hl; rfl
  have F67 := fun_mk (st := s_Each___init__) l67 c67 k67
  have b67 := F67.binds (ps := ["self", "size", "rest"]) fun _ _ _ _ _ _ us hl => by obtain ⟨_, _, _, rfl⟩ := len3 hl; rfl
  have F68 := fun_mk (st := s_Either___init__) l68 c68 k68
  have b68 := F68.binds (ps := ["self", "R", "S"]) fun _ _ _ _ _ _ us hl => by obtain ⟨_, _, _, rfl⟩ := len3 hl; rfl
  have F69 := fun_mk (st := s_Upon___init__) l69 c69 k69
  have b69 := F69.binds (ps := ["self", "R", "S"]) fun _ _ _ _ _ _ us hl => by obtain ⟨_, _, _, rfl⟩ := len3 hl; rfl
  have F70 := fun_mk (st := s_Until___init__) l70 c70 k70
  have b70 := F70.binds (ps := ["self", "R", "S"]) fun _ _ _ _ _ _ us hl => by obtain ⟨_, _, _, rfl⟩ := len3 hl; rfl
  have F71 := fun_mk (st := s_Near___init__) l71 c71 k71
  have b71 := F71.binds (ps := ["self", "R", "S"]) fun _ _ _ _ _ _ us hl => by obtain ⟨_, _, _, rfl⟩ := len3 hl; rfl
  have F72 := fun_mk (st := s_Till___init__) l72 c72 k72
  have b72 := F72.binds (ps := ["self", "R", "S"]) fun _ _ _ _ _ _ us hl => by obtain ⟨_, _, _, rfl⟩ := len3 hl; rfl
  have F73 := fun_mk (st := s_Kth___init__) l73 c73 k73
  have b73 := F73.binds (ps := ["self", "number", "R", "S"]) fun _ _ _ _ _ _ us hl => by obtain ⟨_, _, _, _, rfl⟩ := len4 hl; rfl
  have F74 := fun_mk (st := s_Every___init__) l74 c74 k74
  have b74 := F74.binds (ps := ["self", "number", "R", "day"]) fun _ _ _ _ _ _ us hl => by obtain ⟨_, _, _, _, rfl⟩ := len4 hl; rfl
  have F75 := fun_mk (st := s_law_cell_at) l75 c75 k75
  have b75 := F75.binds (ps := ["_law_script", "_law_k"]) fun _ _ _ _ _ _ us hl => by obtain ⟨_, _, rfl⟩ := len2 hl; rfl
  have F76 := fun_mk (st := s_law_part) l76 c76 k76
  have b76 := F76.binds (ps := ["_law_cell"]) fun _ _ _ _ _ _ us hl => by obtain ⟨_, rfl⟩ := len1 hl; rfl
  have F77 := fun_mk (st := s_law_parts) l77 c77 k77
  have b77 := F77.binds (ps := ["_law_script", "_law_start"]) fun _ _ _ _ _ _ us hl => by obtain ⟨_, _, rfl⟩ := len2 hl; rfl
  have F78 := fun_mk (st := s_law_right) l78 c78 k78
  have b78 := F78.binds (ps := ["_law_rule", "_law_turn", "_law_day"]) fun _ _ _ _ _ _ us hl => by obtain ⟨_, _, _, rfl⟩ := len3 hl; rfl
  have F79 := fun_mk (st := s_law) l79 c79 k79
  have y_range := PySem.W.mg_none_of X G z_range
  have y_len := PySem.W.mg_none_of X G z_len
  have y_abs := PySem.W.mg_none_of X G z_abs
  have y_zip := PySem.W.mg_none_of X G z_zip
  have y_list := PySem.W.mg_none_of X G z_list
  have y_isinstance := PySem.W.mg_none_of X G z_isinstance
  have y_bool := PySem.W.mg_none_of X G z_bool
  have y_LONGEST := PySem.W.mg_of X G m_LONGEST
  have y_PIECE := PySem.W.mg_of X G m_PIECE
  refine ⟨PySem.W.fnOf "law" "law" (defArgs s_law) (defBody s_law) (defScope s_law) .none kV79 dc79 pm79 an79 cd79 ct79, fun s v => .of_eq rfl, fun base _ _ => ?_⟩
  have er : Errs K mg c_FeastError c_NoNumber c_TooLong c_Rule c_All c_No c_Each c_Either c_Upon c_Until c_Near c_Till c_Kth c_Every := ⟨PySem.W.mg_of X G n_Rule, ⟨pg_All, k_All, po_All, sa_All⟩, ⟨⟨pg_All, k_All, po_All, sa_All⟩, na_All_kept, na_All_made_of, na_All_words, ca_All, ob_All, i_All_Rule⟩, ⟨pg_No, k_No, po_No, sa_No⟩, ⟨⟨pg_No, k_No, po_No, sa_No⟩, na_No_kept, na_No_made_of, na_No_words, ca_No, ob_No, i_No_Rule⟩, ⟨pg_Each, k_Each, po_Each, sa_Each⟩, ⟨⟨pg_Each, k_Each, po_Each, sa_Each⟩, na_Each_kept, na_Each_made_of, na_Each_words, ca_Each, ob_Each, i_Each_Rule⟩, ⟨pg_Either, k_Either, po_Either, sa_Either⟩, ⟨⟨pg_Either, k_Either, po_Either, sa_Either⟩, na_Either_kept, na_Either_made_of, na_Either_words, ca_Either, ob_Either, i_Either_Rule⟩, ⟨pg_Upon, k_Upon, po_Upon, sa_Upon⟩, ⟨⟨pg_Upon, k_Upon, po_Upon, sa_Upon⟩, na_Upon_kept, na_Upon_made_of, na_Upon_words, ca_Upon, ob_Upon, i_Upon_Rule⟩, ⟨pg_Until, k_Until, po_Until, sa_Until⟩, ⟨⟨pg_Until, k_Until, po_Until, sa_Until⟩, na_Until_kept, na_Until_made_of, na_Until_words, ca_Until, ob_Until, i_Until_Rule⟩, ⟨pg_Near, k_Near, po_Near, sa_Near⟩, ⟨⟨pg_Near, k_Near, po_Near, sa_Near⟩, na_Near_kept, na_Near_made_of, na_Near_words, ca_Near, ob_Near, i_Near_Rule⟩, ⟨pg_Till, k_Till, po_Till, sa_Till⟩, ⟨⟨pg_Till, k_Till, po_Till, sa_Till⟩, na_Till_kept, na_Till_made_of, na_Till_words, ca_Till, ob_Till, i_Till_Rule⟩, ⟨pg_Kth, k_Kth, po_Kth, sa_Kth⟩, ⟨⟨pg_Kth, k_Kth, po_Kth, sa_Kth⟩, na_Kth_kept, na_Kth_made_of, na_Kth_words, ca_Kth, ob_Kth, i_Kth_Rule⟩, ⟨pg_Every, k_Every, po_Every, sa_Every⟩, ⟨⟨pg_Every, k_Every, po_Every, sa_Every⟩, na_Every_kept, na_Every_made_of, na_Every_words, ca_Every, ob_Every, i_Every_Rule⟩, xsp, xtk⟩
  have C_refuse_below_one : Cal l.prog w K mg base 1 "refuse_below_one" ["number"] spRefuse := ⟨⟨f0, _, ok_refuse_below_one F0, b0, k0, PySem.W.mg_of X G a0⟩⟩
  have C_refuse_too_long : Cal l.prog w K mg base 1 "refuse_too_long" ["size"] spTooLong := ⟨⟨f1, _, ok_refuse_too_long F1 y_LONGEST, b1, k1, PySem.W.mg_of X G a1⟩⟩
  have C_equation : Cal l.prog w K mg base 1 "equation" ["one", "other"] spEq := ⟨⟨f2, _, ok_equation F2, b2, k2, PySem.W.mg_of X G a2⟩⟩
  have C_divisor : Cal l.prog w K mg base 2 "divisor" ["one", "other"] spDivisor := ⟨⟨f3, _, ok_divisor F3 C_equation, b3, k3, PySem.W.mg_of X G a3⟩⟩
  have C_common : Cal l.prog w K mg base 3 "common" ["one", "other"] spCommon := ⟨⟨f4, _, ok_common F4 C_refuse_below_one C_divisor, b4, k4, PySem.W.mg_of X G a4⟩⟩
  have C_round_by : Cal l.prog w K mg base 2 "round_by" ["size", "days"] (spRoundBy K) := ⟨⟨f5, _, ok_round_by F5 C_refuse_below_one C_refuse_too_long y_range y_len y_PIECE, b5, k5, PySem.W.mg_of X G a5⟩⟩
  have C_full_bits : Cal l.prog w K mg base 1 "full_bits" ["size"] spFull := ⟨⟨f6, _, ok_full_bits F6, b6, k6, PySem.W.mg_of X G a6⟩⟩
  have C_on : Cal l.prog w K mg base 1 "on" ["turn", "day"] (spOn K) := ⟨⟨f7, _, ok_on F7, b7, k7, PySem.W.mg_of X G a7⟩⟩
  have C_on_rounds : Cal l.prog w K mg base 1 "on_rounds" ["turn", "day"] (spOn K) := ⟨⟨f8, _, ok_on F8, b8, k8, PySem.W.mg_of X G a8⟩⟩
  have C_days_in : Cal l.prog w K mg base 2 "days_in" ["turn"] (spDaysIn K) := ⟨⟨f9, _, ok_days_in F9 C_full_bits y_range y_PIECE, b9, k9, PySem.W.mg_of X G a9⟩⟩
  have C_bits_by : Cal l.prog w K mg base 2 "bits_by" ["turn", "size"] (spBitsByL K) := ⟨⟨f10, _, ok_bits_by F10 C_full_bits, b10, k10, PySem.W.mg_of X G a10⟩⟩
  have C_stretched : Cal l.prog w K mg base 3 "stretched" ["turn", "size"] (spStretched K) := ⟨⟨f11, _, ok_stretched F11 C_refuse_below_one C_refuse_too_long C_bits_by, b11, k11, PySem.W.mg_of X G a11⟩⟩
  have C_common_size : Cal l.prog w K mg base 4 "common_size" ["one", "other"] (spCS K) := ⟨⟨f12, _, ok_common_size F12 C_common C_refuse_too_long, b12, k12, PySem.W.mg_of X G a12⟩⟩
  have C_both : Cal l.prog w K mg base 5 "both" ["one", "other"] (spBo K and) := ⟨⟨f13, _, ok_both F13 C_common_size C_bits_by, b13, k13, PySem.W.mg_of X G a13⟩⟩
  have C_either : Cal l.prog w K mg base 5 "either" ["one", "other"] (spBo K or) := ⟨⟨f14, _, ok_either F14 C_common_size C_bits_by, b14, k14, PySem.W.mg_of X G a14⟩⟩
  have C_unlike : Cal l.prog w K mg base 5 "unlike" ["one", "other"] (spBo K bne) := ⟨⟨f15, _, ok_unlike F15 C_common_size C_bits_by, b15, k15, PySem.W.mg_of X G a15⟩⟩
  have C_other_days : Cal l.prog w K mg base 2 "other_days" ["turn"] (spOtherC K) := ⟨⟨f16, _, ok_other_days F16 C_full_bits, b16, k16, PySem.W.mg_of X G a16⟩⟩
  have C_without : Cal l.prog w K mg base 6 "without" ["one", "other"] (spBo K (fun x y => x && !y)) := ⟨⟨f17, _, ok_without F17 C_both C_other_days, b17, k17, PySem.W.mg_of X G a17⟩⟩
  have C_later : Cal l.prog w K mg base 2 "later" ["turn", "number"] (spLater K) := ⟨⟨f18, _, ok_later F18 C_full_bits, b18, k18, PySem.W.mg_of X G a18⟩⟩
  have C_ones_in : Cal l.prog w K mg base 3 "ones_in" ["bits"] spOnes := ⟨⟨f19, _, ok_ones_in F19 C_bits_by C_full_bits, b19, k19, PySem.W.mg_of X G a19⟩⟩
  have C_days_ahead : Cal l.prog w K mg base 4 "days_ahead" ["turn", "day"] (spAhead K) := ⟨⟨f20, _, ok_days_ahead F20 C_full_bits C_ones_in, b20, k20, PySem.W.mg_of X G a20⟩⟩
  have C_how_many : Cal l.prog w K mg base 5 "how_many" ["turn", "first", "end"] (spMany K) := ⟨⟨f21, _, ok_how_many F21 C_days_ahead, b21, k21, PySem.W.mg_of X G a21⟩⟩
  have C_gathered : Cal l.prog w K mg base 6 "gathered" ["turn", "barred", "step", "join"] (spGathJ K mg [("either", spBo K or), ("unlike", spBo K bne)]) := ⟨⟨f22, _, ok_gathered F22 C_other_days C_both C_later C_either C_unlike y_abs, b22, k22, PySem.W.mg_of X G a22⟩⟩
  have C_upon : Cal l.prog w K mg base 7 "upon" ["R", "S"] (spW K UponR) := ⟨⟨f23, _, ok_upon F23 C_common_size C_stretched C_both C_gathered C_later C_either (PySem.W.mg_of X G a14), b23, k23, PySem.W.mg_of X G a23⟩⟩
  have C_until : Cal l.prog w K mg base 7 "until" ["R", "S"] (spW K UntilR) := ⟨⟨f24, _, ok_until F24 C_common_size C_stretched C_both C_gathered C_later C_either (PySem.W.mg_of X G a14), b24, k24, PySem.W.mg_of X G a24⟩⟩
  have C_till : Cal l.prog w K mg base 7 "till" ["R", "S"] (spW K TillR) := ⟨⟨f25, _, ok_till F25 C_common_size C_gathered C_stretched C_either (PySem.W.mg_of X G a14), b25, k25, PySem.W.mg_of X G a25⟩⟩
  have C_nearer_ahead : Cal l.prog w K mg base 8 "nearer_ahead" ["R"] (spNearA K) := ⟨⟨f26, _, ok_nearer_ahead F26 C_days_in C_till C_round_by y_zip, b26, k26, PySem.W.mg_of X G a26⟩⟩
  have C_near : Cal l.prog w K mg base 9 "near" ["R", "S"] (spW K NearR) := ⟨⟨f27, _, ok_near F27 C_nearer_ahead C_either C_until C_both C_upon C_without, b27, k27, PySem.W.mg_of X G a27⟩⟩
  have C_kth : Cal l.prog w K mg base 8 "kth" ["number", "R", "S"] (spKth0 K) := ⟨⟨f28, _, ok_kth F28 C_common_size C_stretched C_later C_both C_gathered C_unlike C_without C_upon C_until y_abs (PySem.W.mg_of X G a15), b28, k28, PySem.W.mg_of X G a28⟩⟩
  have C_every : Cal l.prog w K mg base 6 "every" ["number", "R", "day"] (spEvery0 K) := ⟨⟨f29, _, ok_every F29 C_refuse_below_one C_refuse_too_long C_days_in C_how_many C_round_by y_list y_range y_len, b29, k29, PySem.W.mg_of X G a29⟩⟩
  have C_Rule___init__ : CalB l.prog w K mg base 1 "Rule" ["self", "kept", "made_of", "words"] (spRInit K c_Rule) := ⟨⟨f30, c_Rule, _, ok_Rule___init__ F30 er, b30, ⟨PySem.W.mg_of X G n_Rule, bsp_Rule, brd_Rule, bfc30, k30⟩⟩⟩
  have C_Rule_on : CalM l.prog w K mg base CX0 2 c_Rule "on" ["self", "day"] (spOnM K c_Rule [c_All, c_No, c_Each, c_Either, c_Upon, c_Until, c_Near, c_Till, c_Kth, c_Every]) := ⟨⟨f31, _, ok_Rule_on F31 er C_on_rounds, b31, ⟨a31, beq_iff_eq.mpr u31, k31⟩⟩⟩
  have C_Rule_size : CalM l.prog w K mg base CX0 1 c_Rule "size" ["self"] (spSizeM K c_Rule [c_All, c_No, c_Each, c_Either, c_Upon, c_Until, c_Near, c_Till, c_Kth, c_Every]) := ⟨⟨f32, _, ok_Rule_size F32 er, b32, ⟨a32, beq_iff_eq.mpr u32, k32⟩⟩⟩
  have C_Rule_turn : CalM l.prog w K mg base CX0 1 c_Rule "turn" ["self"] (spTurnM K c_Rule [c_All, c_No, c_Each, c_Either, c_Upon, c_Until, c_Near, c_Till, c_Kth, c_Every]) := ⟨⟨f33, _, ok_Rule_turn F33 er, b33, ⟨a33, beq_iff_eq.mpr u33, k33⟩⟩⟩
  have C_All_on : CalM l.prog w K mg base CX0 2 c_All "on" ["self", "day"] (spOnM K c_Rule [c_All, c_No, c_Each, c_Either, c_Upon, c_Until, c_Near, c_Till, c_Kth, c_Every]) := ⟨⟨f34, _, ok_Rule_on F34 er C_on_rounds, b34, ⟨a34, beq_iff_eq.mpr u34, k34⟩⟩⟩
  have C_All_size : CalM l.prog w K mg base CX0 1 c_All "size" ["self"] (spSizeM K c_Rule [c_All, c_No, c_Each, c_Either, c_Upon, c_Until, c_Near, c_Till, c_Kth, c_Every]) := ⟨⟨f35, _, ok_Rule_size F35 er, b35, ⟨a35, beq_iff_eq.mpr u35, k35⟩⟩⟩
  have C_All_turn : CalM l.prog w K mg base CX0 1 c_All "turn" ["self"] (spTurnM K c_Rule [c_All, c_No, c_Each, c_Either, c_Upon, c_Until, c_Near, c_Till, c_Kth, c_Every]) := ⟨⟨f36, _, ok_Rule_turn F36 er, b36, ⟨a36, beq_iff_eq.mpr u36, k36⟩⟩⟩
  have C_No_on : CalM l.prog w K mg base CX0 2 c_No "on" ["self", "day"] (spOnM K c_Rule [c_All, c_No, c_Each, c_Either, c_Upon, c_Until, c_Near, c_Till, c_Kth, c_Every]) := ⟨⟨f37, _, ok_Rule_on F37 er C_on_rounds, b37, ⟨a37, beq_iff_eq.mpr u37, k37⟩⟩⟩
  have C_No_size : CalM l.prog w K mg base CX0 1 c_No "size" ["self"] (spSizeM K c_Rule [c_All, c_No, c_Each, c_Either, c_Upon, c_Until, c_Near, c_Till, c_Kth, c_Every]) := ⟨⟨f38, _, ok_Rule_size F38 er, b38, ⟨a38, beq_iff_eq.mpr u38, k38⟩⟩⟩
  have C_No_turn : CalM l.prog w K mg base CX0 1 c_No "turn" ["self"] (spTurnM K c_Rule [c_All, c_No, c_Each, c_Either, c_Upon, c_Until, c_Near, c_Till, c_Kth, c_Every]) := ⟨⟨f39, _, ok_Rule_turn F39 er, b39, ⟨a39, beq_iff_eq.mpr u39, k39⟩⟩⟩
  have C_Each_on : CalM l.prog w K mg base CX0 2 c_Each "on" ["self", "day"] (spOnM K c_Rule [c_All, c_No, c_Each, c_Either, c_Upon, c_Until, c_Near, c_Till, c_Kth, c_Every]) := ⟨⟨f40, _, ok_Rule_on F40 er C_on_rounds, b40, ⟨a40, beq_iff_eq.mpr u40, k40⟩⟩⟩
  have C_Each_size : CalM l.prog w K mg base CX0 1 c_Each "size" ["self"] (spSizeM K c_Rule [c_All, c_No, c_Each, c_Either, c_Upon, c_Until, c_Near, c_Till, c_Kth, c_Every]) := ⟨⟨f41, _, ok_Rule_size F41 er, b41, ⟨a41, beq_iff_eq.mpr u41, k41⟩⟩⟩
  have C_Each_turn : CalM l.prog w K mg base CX0 1 c_Each "turn" ["self"] (spTurnM K c_Rule [c_All, c_No, c_Each, c_Either, c_Upon, c_Until, c_Near, c_Till, c_Kth, c_Every]) := ⟨⟨f42, _, ok_Rule_turn F42 er, b42, ⟨a42, beq_iff_eq.mpr u42, k42⟩⟩⟩
  have C_Either_on : CalM l.prog w K mg base CX0 2 c_Either "on" ["self", "day"] (spOnM K c_Rule [c_All, c_No, c_Each, c_Either, c_Upon, c_Until, c_Near, c_Till, c_Kth, c_Every]) := ⟨⟨f43, _, ok_Rule_on F43 er C_on_rounds, b43, ⟨a43, beq_iff_eq.mpr u43, k43⟩⟩⟩
  have C_Either_size : CalM l.prog w K mg base CX0 1 c_Either "size" ["self"] (spSizeM K c_Rule [c_All, c_No, c_Each, c_Either, c_Upon, c_Until, c_Near, c_Till, c_Kth, c_Every]) := ⟨⟨f44, _, ok_Rule_size F44 er, b44, ⟨a44, beq_iff_eq.mpr u44, k44⟩⟩⟩
  have C_Either_turn : CalM l.prog w K mg base CX0 1 c_Either "turn" ["self"] (spTurnM K c_Rule [c_All, c_No, c_Each, c_Either, c_Upon, c_Until, c_Near, c_Till, c_Kth, c_Every]) := ⟨⟨f45, _, ok_Rule_turn F45 er, b45, ⟨a45, beq_iff_eq.mpr u45, k45⟩⟩⟩
  have C_Upon_on : CalM l.prog w K mg base CX0 2 c_Upon "on" ["self", "day"] (spOnM K c_Rule [c_All, c_No, c_Each, c_Either, c_Upon, c_Until, c_Near, c_Till, c_Kth, c_Every]) := ⟨⟨f46, _, ok_Rule_on F46 er C_on_rounds, b46, ⟨a46, beq_iff_eq.mpr u46, k46⟩⟩⟩
  have C_Upon_size : CalM l.prog w K mg base CX0 1 c_Upon "size" ["self"] (spSizeM K c_Rule [c_All, c_No, c_Each, c_Either, c_Upon, c_Until, c_Near, c_Till, c_Kth, c_Every]) := ⟨⟨f47, _, ok_Rule_size F47 er, b47, ⟨a47, beq_iff_eq.mpr u47, k47⟩⟩⟩
  have C_Upon_turn : CalM l.prog w K mg base CX0 1 c_Upon "turn" ["self"] (spTurnM K c_Rule [c_All, c_No, c_Each, c_Either, c_Upon, c_Until, c_Near, c_Till, c_Kth, c_Every]) := ⟨⟨f48, _, ok_Rule_turn F48 er, b48, ⟨a48, beq_iff_eq.mpr u48, k48⟩⟩⟩
  have C_Until_on : CalM l.prog w K mg base CX0 2 c_Until "on" ["self", "day"] (spOnM K c_Rule [c_All, c_No, c_Each, c_Either, c_Upon, c_Until, c_Near, c_Till, c_Kth, c_Every]) := ⟨⟨f49, _, ok_Rule_on F49 er C_on_rounds, b49, ⟨a49, beq_iff_eq.mpr u49, k49⟩⟩⟩
  have C_Until_size : CalM l.prog w K mg base CX0 1 c_Until "size" ["self"] (spSizeM K c_Rule [c_All, c_No, c_Each, c_Either, c_Upon, c_Until, c_Near, c_Till, c_Kth, c_Every]) := ⟨⟨f50, _, ok_Rule_size F50 er, b50, ⟨a50, beq_iff_eq.mpr u50, k50⟩⟩⟩
  have C_Until_turn : CalM l.prog w K mg base CX0 1 c_Until "turn" ["self"] (spTurnM K c_Rule [c_All, c_No, c_Each, c_Either, c_Upon, c_Until, c_Near, c_Till, c_Kth, c_Every]) := ⟨⟨f51, _, ok_Rule_turn F51 er, b51, ⟨a51, beq_iff_eq.mpr u51, k51⟩⟩⟩
  have C_Near_on : CalM l.prog w K mg base CX0 2 c_Near "on" ["self", "day"] (spOnM K c_Rule [c_All, c_No, c_Each, c_Either, c_Upon, c_Until, c_Near, c_Till, c_Kth, c_Every]) := ⟨⟨f52, _, ok_Rule_on F52 er C_on_rounds, b52, ⟨a52, beq_iff_eq.mpr u52, k52⟩⟩⟩
  have C_Near_size : CalM l.prog w K mg base CX0 1 c_Near "size" ["self"] (spSizeM K c_Rule [c_All, c_No, c_Each, c_Either, c_Upon, c_Until, c_Near, c_Till, c_Kth, c_Every]) := ⟨⟨f53, _, ok_Rule_size F53 er, b53, ⟨a53, beq_iff_eq.mpr u53, k53⟩⟩⟩
  have C_Near_turn : CalM l.prog w K mg base CX0 1 c_Near "turn" ["self"] (spTurnM K c_Rule [c_All, c_No, c_Each, c_Either, c_Upon, c_Until, c_Near, c_Till, c_Kth, c_Every]) := ⟨⟨f54, _, ok_Rule_turn F54 er, b54, ⟨a54, beq_iff_eq.mpr u54, k54⟩⟩⟩
  have C_Till_on : CalM l.prog w K mg base CX0 2 c_Till "on" ["self", "day"] (spOnM K c_Rule [c_All, c_No, c_Each, c_Either, c_Upon, c_Until, c_Near, c_Till, c_Kth, c_Every]) := ⟨⟨f55, _, ok_Rule_on F55 er C_on_rounds, b55, ⟨a55, beq_iff_eq.mpr u55, k55⟩⟩⟩
  have C_Till_size : CalM l.prog w K mg base CX0 1 c_Till "size" ["self"] (spSizeM K c_Rule [c_All, c_No, c_Each, c_Either, c_Upon, c_Until, c_Near, c_Till, c_Kth, c_Every]) := ⟨⟨f56, _, ok_Rule_size F56 er, b56, ⟨a56, beq_iff_eq.mpr u56, k56⟩⟩⟩
  have C_Till_turn : CalM l.prog w K mg base CX0 1 c_Till "turn" ["self"] (spTurnM K c_Rule [c_All, c_No, c_Each, c_Either, c_Upon, c_Until, c_Near, c_Till, c_Kth, c_Every]) := ⟨⟨f57, _, ok_Rule_turn F57 er, b57, ⟨a57, beq_iff_eq.mpr u57, k57⟩⟩⟩
  have C_Kth_on : CalM l.prog w K mg base CX0 2 c_Kth "on" ["self", "day"] (spOnM K c_Rule [c_All, c_No, c_Each, c_Either, c_Upon, c_Until, c_Near, c_Till, c_Kth, c_Every]) := ⟨⟨f58, _, ok_Rule_on F58 er C_on_rounds, b58, ⟨a58, beq_iff_eq.mpr u58, k58⟩⟩⟩
  have C_Kth_size : CalM l.prog w K mg base CX0 1 c_Kth "size" ["self"] (spSizeM K c_Rule [c_All, c_No, c_Each, c_Either, c_Upon, c_Until, c_Near, c_Till, c_Kth, c_Every]) := ⟨⟨f59, _, ok_Rule_size F59 er, b59, ⟨a59, beq_iff_eq.mpr u59, k59⟩⟩⟩
  have C_Kth_turn : CalM l.prog w K mg base CX0 1 c_Kth "turn" ["self"] (spTurnM K c_Rule [c_All, c_No, c_Each, c_Either, c_Upon, c_Until, c_Near, c_Till, c_Kth, c_Every]) := ⟨⟨f60, _, ok_Rule_turn F60 er, b60, ⟨a60, beq_iff_eq.mpr u60, k60⟩⟩⟩
  have C_Every_on : CalM l.prog w K mg base CX0 2 c_Every "on" ["self", "day"] (spOnM K c_Rule [c_All, c_No, c_Each, c_Either, c_Upon, c_Until, c_Near, c_Till, c_Kth, c_Every]) := ⟨⟨f61, _, ok_Rule_on F61 er C_on_rounds, b61, ⟨a61, beq_iff_eq.mpr u61, k61⟩⟩⟩
  have C_Every_size : CalM l.prog w K mg base CX0 1 c_Every "size" ["self"] (spSizeM K c_Rule [c_All, c_No, c_Each, c_Either, c_Upon, c_Until, c_Near, c_Till, c_Kth, c_Every]) := ⟨⟨f62, _, ok_Rule_size F62 er, b62, ⟨a62, beq_iff_eq.mpr u62, k62⟩⟩⟩
  have C_Every_turn : CalM l.prog w K mg base CX0 1 c_Every "turn" ["self"] (spTurnM K c_Rule [c_All, c_No, c_Each, c_Either, c_Upon, c_Until, c_Near, c_Till, c_Kth, c_Every]) := ⟨⟨f63, _, ok_Rule_turn F63 er, b63, ⟨a63, beq_iff_eq.mpr u63, k63⟩⟩⟩
  have C_All___init__ : CalI l.prog w K mg base CX0 3 "All" c_All ["self"] (spI0 K c_Rule [c_All, c_No, c_Each, c_Either, c_Upon, c_Until, c_Near, c_Till, c_Kth, c_Every] c_All 1) := ⟨⟨f64, _, ok_All___init__ F64 er C_Rule___init__, b64, ⟨mk_All, a64, beq_iff_eq.mpr u64, kp_All⟩, PySem.W.mg_of X G n_All⟩⟩
  have C_No___init__ : CalI l.prog w K mg base CX0 3 "No" c_No ["self"] (spI0 K c_Rule [c_All, c_No, c_Each, c_Either, c_Upon, c_Until, c_Near, c_Till, c_Kth, c_Every] c_No 0) := ⟨⟨f65, _, ok_No___init__ F65 er C_Rule___init__, b65, ⟨mk_No, a65, beq_iff_eq.mpr u65, kp_No⟩, PySem.W.mg_of X G n_No⟩⟩
  have C_each_text : Cal l.prog w K mg base 1 "each_text" ["step", "rest"] spEachT := ⟨⟨f66, _, ok_each_text F66, b66, k66, PySem.W.mg_of X G a66⟩⟩
  have C_Each___init__ : CalI l.prog w K mg base CX0 3 "Each" c_Each ["self", "size", "rest"] (spIEach K c_Rule [c_All, c_No, c_Each, c_Either, c_Upon, c_Until, c_Near, c_Till, c_Kth, c_Every] c_Each) := ⟨⟨f67, _, ok_Each___init__ F67 er C_round_by C_Rule___init__ C_each_text, b67, ⟨mk_Each, a67, beq_iff_eq.mpr u67, kp_Each⟩, PySem.W.mg_of X G n_Each⟩⟩
  have C_Either___init__ : CalI l.prog w K mg base CX0 6 "Either" c_Either ["self", "R", "S"] (spITwo K c_Rule [c_All, c_No, c_Each, c_Either, c_Upon, c_Until, c_Near, c_Till, c_Kth, c_Every] c_Either or) := ⟨⟨f68, _, ok_Either___init__ F68 er C_Rule___init__ C_either C_All_turn C_No_turn C_Each_turn C_Either_turn C_Upon_turn C_Until_turn C_Near_turn C_Till_turn C_Kth_turn C_Every_turn, b68, ⟨mk_Either, a68, beq_iff_eq.mpr u68, kp_Either⟩, PySem.W.mg_of X G n_Either⟩⟩
  have C_Upon___init__ : CalI l.prog w K mg base CX0 8 "Upon" c_Upon ["self", "R", "S"] (spIW K c_Rule [c_All, c_No, c_Each, c_Either, c_Upon, c_Until, c_Near, c_Till, c_Kth, c_Every] c_Upon UponR) := ⟨⟨f69, _, ok_Upon___init__ F69 er C_Rule___init__ C_upon C_All_turn C_No_turn C_Each_turn C_Either_turn C_Upon_turn C_Until_turn C_Near_turn C_Till_turn C_Kth_turn C_Every_turn, b69, ⟨mk_Upon, a69, beq_iff_eq.mpr u69, kp_Upon⟩, PySem.W.mg_of X G n_Upon⟩⟩
  have C_Until___init__ : CalI l.prog w K mg base CX0 8 "Until" c_Until ["self", "R", "S"] (spIW K c_Rule [c_All, c_No, c_Each, c_Either, c_Upon, c_Until, c_Near, c_Till, c_Kth, c_Every] c_Until UntilR) := ⟨⟨f70, _, ok_Until___init__ F70 er C_Rule___init__ C_until C_All_turn C_No_turn C_Each_turn C_Either_turn C_Upon_turn C_Until_turn C_Near_turn C_Till_turn C_Kth_turn C_Every_turn, b70, ⟨mk_Until, a70, beq_iff_eq.mpr u70, kp_Until⟩, PySem.W.mg_of X G n_Until⟩⟩
  have C_Near___init__ : CalI l.prog w K mg base CX0 10 "Near" c_Near ["self", "R", "S"] (spIW K c_Rule [c_All, c_No, c_Each, c_Either, c_Upon, c_Until, c_Near, c_Till, c_Kth, c_Every] c_Near NearR) := ⟨⟨f71, _, ok_Near___init__ F71 er C_Rule___init__ C_near C_All_turn C_No_turn C_Each_turn C_Either_turn C_Upon_turn C_Until_turn C_Near_turn C_Till_turn C_Kth_turn C_Every_turn, b71, ⟨mk_Near, a71, beq_iff_eq.mpr u71, kp_Near⟩, PySem.W.mg_of X G n_Near⟩⟩
  have C_Till___init__ : CalI l.prog w K mg base CX0 8 "Till" c_Till ["self", "R", "S"] (spIW K c_Rule [c_All, c_No, c_Each, c_Either, c_Upon, c_Until, c_Near, c_Till, c_Kth, c_Every] c_Till TillR) := ⟨⟨f72, _, ok_Till___init__ F72 er C_Rule___init__ C_till C_All_turn C_No_turn C_Each_turn C_Either_turn C_Upon_turn C_Until_turn C_Near_turn C_Till_turn C_Kth_turn C_Every_turn, b72, ⟨mk_Till, a72, beq_iff_eq.mpr u72, kp_Till⟩, PySem.W.mg_of X G n_Till⟩⟩
  have C_Kth___init__ : CalI l.prog w K mg base CX0 9 "Kth" c_Kth ["self", "number", "R", "S"] (spIKth K c_Rule [c_All, c_No, c_Each, c_Either, c_Upon, c_Until, c_Near, c_Till, c_Kth, c_Every] c_Kth) := ⟨⟨f73, _, ok_Kth___init__ F73 er C_kth C_All_turn C_No_turn C_Each_turn C_Either_turn C_Upon_turn C_Until_turn C_Near_turn C_Till_turn C_Kth_turn C_Every_turn C_Rule___init__, b73, ⟨mk_Kth, a73, beq_iff_eq.mpr u73, kp_Kth⟩, PySem.W.mg_of X G n_Kth⟩⟩
  have C_Every___init__ : CalI l.prog w K mg base CX0 7 "Every" c_Every ["self", "number", "R", "day"] (spIEvery K c_Rule [c_All, c_No, c_Each, c_Either, c_Upon, c_Until, c_Near, c_Till, c_Kth, c_Every] c_Every) := ⟨⟨f74, _, ok_Every___init__ F74 er C_every C_All_turn C_No_turn C_Each_turn C_Either_turn C_Upon_turn C_Until_turn C_Near_turn C_Till_turn C_Kth_turn C_Every_turn C_Rule___init__, b74, ⟨mk_Every, a74, beq_iff_eq.mpr u74, kp_Every⟩, PySem.W.mg_of X G n_Every⟩⟩
  have C_law_cell_at : Cal l.prog w K mg base 1 "_law_cell_at" ["_law_script", "_law_k"] (spCell K) := ⟨⟨f75, _, ok_law_cell_at F75 y_len, b75, k75, PySem.W.mg_of X G a75⟩⟩
  have C_law_part : Cal l.prog w K mg base 5 "_law_part" ["_law_cell"] (spPart63 K c_Rule [c_All, c_No, c_Each, c_Either, c_Upon, c_Until, c_Near, c_Till, c_Kth, c_Every]) := ⟨⟨f76, _, ok_law_part F76 er C_All___init__ C_No___init__ C_Each___init__, b76, k76, PySem.W.mg_of X G a76⟩⟩
  have C_law_parts : Cal l.prog w K mg base 8 "_law_parts" ["_law_script", "_law_start"] (spParts63 K c_Rule [c_All, c_No, c_Each, c_Either, c_Upon, c_Until, c_Near, c_Till, c_Kth, c_Every]) := ⟨⟨f77, _, ok_law_parts F77 er C_law_part C_law_cell_at C_Either___init__, b77, k77, PySem.W.mg_of X G a77⟩⟩
  have C_law_right : Cal l.prog w K mg base 3 "_law_right" ["_law_rule", "_law_turn", "_law_day"] (spRight63 K c_Rule [c_All, c_No, c_Each, c_Either, c_Upon, c_Until, c_Near, c_Till, c_Kth, c_Every]) := ⟨⟨f78, _, ok_law_right F78 er C_All_turn C_No_turn C_Each_turn C_Either_turn C_Upon_turn C_Until_turn C_Near_turn C_Till_turn C_Kth_turn C_Every_turn C_All_size C_No_size C_Each_size C_Either_size C_Upon_size C_Until_size C_Near_size C_Till_size C_Kth_size C_Every_size C_All_on C_No_on C_Each_on C_Either_on C_Upon_on C_Until_on C_Near_on C_Till_on C_Kth_on C_Every_on y_isinstance y_range y_bool, b78, k78, PySem.W.mg_of X G a78⟩⟩
  exact ok_law F79 er C_law_parts C_law_cell_at C_All_turn C_No_turn C_Each_turn C_Either_turn C_Upon_turn C_Until_turn C_Near_turn C_Till_turn C_Kth_turn C_Every_turn C_Upon___init__ C_Until___init__ C_Near___init__ C_Till___init__ C_upon C_until C_near C_till C_law_right C_Kth___init__ C_kth C_Every___init__ C_every y_range
end Fw
def PySem.W.Fast.tw7270833078922663680 : Unit := ()
def PySem.W.Fast.tw7893947204246509071 : Unit := ()
def PySem.W.Fast.tw1655135622559028731 : Unit := ()
def PySem.W.Fast.tw3612348644219274027 : Unit := ()
def PySem.W.Fast.tw6020625292871012543 : Unit := ()
def PySem.W.Fast.tw8884385477050030422 : Unit := ()
def PySem.W.Fast.tw1912029700003495322 : Unit := ()
def PySem.W.Fast.tw12541951826853155026 : Unit := ()
def PySem.W.Fast.tw18000866356184371236 : Unit := ()
def PySem.W.Fast.tw13778965890552651536 : Unit := ()
def PySem.W.Fast.tw514214396158704475 : Unit := ()
def PySem.W.Fast.tw15029228171367209409 : Unit := ()
def PySem.W.Fast.tw13968661050303787029 : Unit := ()
def PySem.W.Fast.tw1064447691529633649 : Unit := ()
def PySem.W.Fast.tw11795469321871420748 : Unit := ()
def PySem.W.Fast.tw2622106564912437823 : Unit := ()
def PySem.W.Fast.tw10792733873539456137 : Unit := ()
def PySem.W.Fast.tw2696910980963684334 : Unit := ()
def PySem.W.Fast.tw18275458504782504461 : Unit := ()
open PySem PySem.W PyProof.Rows
set_option maxRecDepth 100000 in
set_option maxHeartbeats 0 in
theorem PySem.Challenge.cw_feastwheel_k63_rules_as_wheels_holds : PySem.Challenge.rw_feastwheel_k63_rules_as_wheels.Holds := by
  w_on; o_law; k_head; (case hw => w_witness2)
  k_fill
  refine L2.walk_ofB (l := PySem.Challenge.rw_feastwheel_k63_rules_as_wheels) (k := 12) rfl rfl ⟨rfl, by decide, by decide, rfl⟩ (fun w h Y => PySem.W.kIn_of Y) ?F
  case F =>
    intro w mg fa h KX G hmg
    refine' Fw.all_mk KX G hmg ?n_FeastError ?n_NoNumber ?n_TooLong ?n_Rule ?n_All ?pg_All ?k_All ?po_All ?sa_All ?mk_All ?kp_All ?na_All_kept ?na_All_made_of ?na_All_words ?ca_All ?ob_All ?i_All_Rule ?n_No ?pg_No ?k_No ?po_No ?sa_No ?mk_No ?kp_No ?na_No_kept ?na_No_made_of ?na_No_words ?ca_No ?ob_No ?i_No_Rule ?n_Each ?pg_Each ?k_Each ?po_Each ?sa_Each ?mk_Each ?kp_Each ?na_Each_kept ?na_Each_made_of ?na_Each_words ?ca_Each ?ob_Each ?i_Each_Rule ?n_Either ?pg_Either ?k_Either ?po_Either ?sa_Either ?mk_Either ?kp_Either ?na_Either_kept ?na_Either_made_of ?na_Either_words ?ca_Either ?ob_Either ?i_Either_Rule ?n_Upon ?pg_Upon ?k_Upon ?po_Upon ?sa_Upon ?mk_Upon ?kp_Upon ?na_Upon_kept ?na_Upon_made_of ?na_Upon_words ?ca_Upon ?ob_Upon ?i_Upon_Rule ?n_Until ?pg_Until ?k_Until ?po_Until ?sa_Until ?mk_Until ?kp_Until ?na_Until_kept ?na_Until_made_of ?na_Until_words ?ca_Until ?ob_Until ?i_Until_Rule ?n_Near ?pg_Near ?k_Near ?po_Near ?sa_Near ?mk_Near ?kp_Near ?na_Near_kept ?na_Near_made_of ?na_Near_words ?ca_Near ?ob_Near ?i_Near_Rule ?n_Till ?pg_Till ?k_Till ?po_Till ?sa_Till ?mk_Till ?kp_Till ?na_Till_kept ?na_Till_made_of ?na_Till_words ?ca_Till ?ob_Till ?i_Till_Rule ?n_Kth ?pg_Kth ?k_Kth ?po_Kth ?sa_Kth ?mk_Kth ?kp_Kth ?na_Kth_kept ?na_Kth_made_of ?na_Kth_words ?ca_Kth ?ob_Kth ?i_Kth_Rule ?n_Every ?pg_Every ?k_Every ?po_Every ?sa_Every ?mk_Every ?kp_Every ?na_Every_kept ?na_Every_made_of ?na_Every_words ?ca_Every ?ob_Every ?i_Every_Rule ?bsp_Rule ?brd_Rule ?xsp ?xtk ?a0 ?l0 ?c0 ?k0 ?a1 ?l1 ?c1 ?k1 ?a2 ?l2 ?c2 ?k2 ?a3 ?l3 ?c3 ?k3 ?a4 ?l4 ?c4 ?k4 ?a5 ?l5 ?c5 ?k5 ?a6 ?l6 ?c6 ?k6 ?a7 ?l7 ?c7 ?k7 ?a8 ?l8 ?c8 ?k8 ?a9 ?l9 ?c9 ?k9 ?a10 ?l10 ?c10 ?k10 ?a11 ?l11 ?c11 ?k11 ?a12 ?l12 ?c12 ?k12 ?a13 ?l13 ?c13 ?k13 ?a14 ?l14 ?c14 ?k14 ?a15 ?l15 ?c15 ?k15 ?a16 ?l16 ?c16 ?k16 ?a17 ?l17 ?c17 ?k17 ?a18 ?l18 ?c18 ?k18 ?a19 ?l19 ?c19 ?k19 ?a20 ?l20 ?c20 ?k20 ?a21 ?l21 ?c21 ?k21 ?a22 ?l22 ?c22 ?k22 ?a23 ?l23 ?c23 ?k23 ?a24 ?l24 ?c24 ?k24 ?a25 ?l25 ?c25 ?k25 ?a26 ?l26 ?c26 ?k26 ?a27 ?l27 ?c27 ?k27 ?a28 ?l28 ?c28 ?k28 ?a29 ?l29 ?c29 ?k29 ?a30 ?l30 ?c30 ?k30 ?t30 ?bfc30 ?a31 ?l31 ?c31 ?k31 ?u31 ?a32 ?l32 ?c32 ?k32 ?u32 ?a33 ?l33 ?c33 ?k33 ?u33 ?a34 ?l34 ?c34 ?k34 ?u34 ?a35 ?l35 ?c35 ?k35 ?u35 ?a36 ?l36 ?c36 ?k36 ?u36 ?a37 ?l37 ?c37 ?k37 ?u37 ?a38 ?l38 ?c38 ?k38 ?u38 ?a39 ?l39 ?c39 ?k39 ?u39 ?a40 ?l40 ?c40 ?k40 ?u40 ?a41 ?l41 ?c41 ?k41 ?u41 ?a42 ?l42 ?c42 ?k42 ?u42 ?a43 ?l43 ?c43 ?k43 ?u43 ?a44 ?l44 ?c44 ?k44 ?u44 ?a45 ?l45 ?c45 ?k45 ?u45 ?a46 ?l46 ?c46 ?k46 ?u46 ?a47 ?l47 ?c47 ?k47 ?u47 ?a48 ?l48 ?c48 ?k48 ?u48 ?a49 ?l49 ?c49 ?k49 ?u49 ?a50 ?l50 ?c50 ?k50 ?u50 ?a51 ?l51 ?c51 ?k51 ?u51 ?a52 ?l52 ?c52 ?k52 ?u52 ?a53 ?l53 ?c53 ?k53 ?u53 ?a54 ?l54 ?c54 ?k54 ?u54 ?a55 ?l55 ?c55 ?k55 ?u55 ?a56 ?l56 ?c56 ?k56 ?u56 ?a57 ?l57 ?c57 ?k57 ?u57 ?a58 ?l58 ?c58 ?k58 ?u58 ?a59 ?l59 ?c59 ?k59 ?u59 ?a60 ?l60 ?c60 ?k60 ?u60 ?a61 ?l61 ?c61 ?k61 ?u61 ?a62 ?l62 ?c62 ?k62 ?u62 ?a63 ?l63 ?c63 ?k63 ?u63 ?a64 ?l64 ?c64 ?k64 ?u64 ?a65 ?l65 ?c65 ?k65 ?u65 ?a66 ?l66 ?c66 ?k66 ?a67 ?l67 ?c67 ?k67 ?u67 ?a68 ?l68 ?c68 ?k68 ?u68 ?a69 ?l69 ?c69 ?k69 ?u69 ?a70 ?l70 ?c70 ?k70 ?u70 ?a71 ?l71 ?c71 ?k71 ?u71 ?a72 ?l72 ?c72 ?k72 ?u72 ?a73 ?l73 ?c73 ?k73 ?u73 ?a74 ?l74 ?c74 ?k74 ?u74 ?a75 ?l75 ?c75 ?k75 ?a76 ?l76 ?c76 ?k76 ?a77 ?l77 ?c77 ?k77 ?a78 ?l78 ?c78 ?k78 ?a79 ?l79 ?c79 ?k79 ?z_range ?z_len ?z_abs ?z_zip ?z_list ?z_isinstance ?z_bool ?m_LONGEST ?m_PIECE
    (case n_FeastError => k_is)
    (case n_NoNumber => k_is)
    (case n_TooLong => k_is)
    (case n_Rule => k_is)
    (case n_All => k_is)
    (case pg_All => k_is)
    (case k_All => k_is)
    (case po_All => k_is)
    (case sa_All => k_is)
    (case mk_All => k_is)
    (case kp_All => k_is)
    (case na_All_kept => k_is)
    (case na_All_made_of => k_is)
    (case na_All_words => k_is)
    (case ca_All => k_is)
    (case ob_All => k_is)
    (case i_All_Rule => kit_is)
    (case n_No => k_is)
    (case pg_No => k_is)
    (case k_No => k_is)
    (case po_No => k_is)
    (case sa_No => k_is)
    (case mk_No => k_is)
    (case kp_No => k_is)
    (case na_No_kept => k_is)
    (case na_No_made_of => k_is)
    (case na_No_words => k_is)
    (case ca_No => k_is)
    (case ob_No => k_is)
    (case i_No_Rule => kit_is)
    (case n_Each => k_is)
    (case pg_Each => k_is)
    (case k_Each => k_is)
    (case po_Each => k_is)
    (case sa_Each => k_is)
    (case mk_Each => k_is)
    (case kp_Each => k_is)
    (case na_Each_kept => k_is)
    (case na_Each_made_of => k_is)
    (case na_Each_words => k_is)
    (case ca_Each => k_is)
    (case ob_Each => k_is)
    (case i_Each_Rule => kit_is)
    (case n_Either => k_is)
    (case pg_Either => k_is)
    (case k_Either => k_is)
    (case po_Either => k_is)
    (case sa_Either => k_is)
    (case mk_Either => k_is)
    (case kp_Either => k_is)
    (case na_Either_kept => k_is)
    (case na_Either_made_of => k_is)
    (case na_Either_words => k_is)
    (case ca_Either => k_is)
    (case ob_Either => k_is)
    (case i_Either_Rule => kit_is)
    (case n_Upon => k_is)
    (case pg_Upon => k_is)
    (case k_Upon => k_is)
    (case po_Upon => k_is)
    (case sa_Upon => k_is)
    (case mk_Upon => k_is)
    (case kp_Upon => k_is)
    (case na_Upon_kept => k_is)
    (case na_Upon_made_of => k_is)
    (case na_Upon_words => k_is)
    (case ca_Upon => k_is)
    (case ob_Upon => k_is)
    (case i_Upon_Rule => kit_is)
    (case n_Until => k_is)
    (case pg_Until => k_is)
    (case k_Until => k_is)
    (case po_Until => k_is)
    (case sa_Until => k_is)
    (case mk_Until => k_is)
    (case kp_Until => k_is)
    (case na_Until_kept => k_is)
    (case na_Until_made_of => k_is)
    (case na_Until_words => k_is)
    (case ca_Until => k_is)
    (case ob_Until => k_is)
    (case i_Until_Rule => kit_is)
    (case n_Near => k_is)
    (case pg_Near => k_is)
    (case k_Near => k_is)
    (case po_Near => k_is)
    (case sa_Near => k_is)
    (case mk_Near => k_is)
    (case kp_Near => k_is)
    (case na_Near_kept => k_is)
    (case na_Near_made_of => k_is)
    (case na_Near_words => k_is)
    (case ca_Near => k_is)
    (case ob_Near => k_is)
    (case i_Near_Rule => kit_is)
    (case n_Till => k_is)
    (case pg_Till => k_is)
    (case k_Till => k_is)
    (case po_Till => k_is)
    (case sa_Till => k_is)
    (case mk_Till => k_is)
    (case kp_Till => k_is)
    (case na_Till_kept => k_is)
    (case na_Till_made_of => k_is)
    (case na_Till_words => k_is)
    (case ca_Till => k_is)
    (case ob_Till => k_is)
    (case i_Till_Rule => kit_is)
    (case n_Kth => k_is)
    (case pg_Kth => k_is)
    (case k_Kth => k_is)
    (case po_Kth => k_is)
    (case sa_Kth => k_is)
    (case mk_Kth => k_is)
    (case kp_Kth => k_is)
    (case na_Kth_kept => k_is)
    (case na_Kth_made_of => k_is)
    (case na_Kth_words => k_is)
    (case ca_Kth => k_is)
    (case ob_Kth => k_is)
    (case i_Kth_Rule => kit_is)
    (case n_Every => k_is)
    (case pg_Every => k_is)
    (case k_Every => k_is)
    (case po_Every => k_is)
    (case sa_Every => k_is)
    (case mk_Every => k_is)
    (case kp_Every => k_is)
    (case na_Every_kept => k_is)
    (case na_Every_made_of => k_is)
    (case na_Every_words => k_is)
    (case ca_Every => k_is)
    (case ob_Every => k_is)
    (case i_Every_Rule => kit_is)
    (case bsp_Rule => k_is)
    (case brd_Rule => k_is)
    (case xsp => k_is)
    (case xtk => k_is)
    (case a0 => k_is)
    (case l0 => k_is)
    (case c0 => k_is)
    (case k0 => k_is)
    (case a1 => k_is)
    (case l1 => k_is)
    (case c1 => k_is)
    (case k1 => k_is)
    (case a2 => k_is)
    (case l2 => k_is)
    (case c2 => k_is)
    (case k2 => k_is)
    (case a3 => k_is)
    (case l3 => k_is)
    (case c3 => k_is)
    (case k3 => k_is)
    (case a4 => k_is)
    (case l4 => k_is)
    (case c4 => k_is)
    (case k4 => k_is)
    (case a5 => k_is)
    (case l5 => k_is)
    (case c5 => k_is)
    (case k5 => k_is)
    (case a6 => k_is)
    (case l6 => k_is)
    (case c6 => k_is)
    (case k6 => k_is)
    (case a7 => k_is)
    (case l7 => k_is)
    (case c7 => k_is)
    (case k7 => k_is)
    (case a8 => k_is)
    (case l8 => k_is)
    (case c8 => k_is)
    (case k8 => k_is)
    (case a9 => k_is)
    (case l9 => k_is)
    (case c9 => k_is)
    (case k9 => k_is)
    (case a10 => k_is)
    (case l10 => k_is)
    (case c10 => k_is)
    (case k10 => k_is)
    (case a11 => k_is)
    (case l11 => k_is)
    (case c11 => k_is)
    (case k11 => k_is)
    (case a12 => k_is)
    (case l12 => k_is)
    (case c12 => k_is)
    (case k12 => k_is)
    (case a13 => k_is)
    (case l13 => k_is)
    (case c13 => k_is)
    (case k13 => k_is)
    (case a14 => k_is)
    (case l14 => k_is)
    (case c14 => k_is)
    (case k14 => k_is)
    (case a15 => k_is)
    (case l15 => k_is)
    (case c15 => k_is)
    (case k15 => k_is)
    (case a16 => k_is)
    (case l16 => k_is)
    (case c16 => k_is)
    (case k16 => k_is)
    (case a17 => k_is)
    (case l17 => k_is)
    (case c17 => k_is)
    (case k17 => k_is)
    (case a18 => k_is)
    (case l18 => k_is)
    (case c18 => k_is)
    (case k18 => k_is)
    (case a19 => k_is)
    (case l19 => k_is)
    (case c19 => k_is)
    (case k19 => k_is)
    (case a20 => k_is)
    (case l20 => k_is)
    (case c20 => k_is)
    (case k20 => k_is)
    (case a21 => k_is)
    (case l21 => k_is)
    (case c21 => k_is)
    (case k21 => k_is)
    (case a22 => k_is)
    (case l22 => k_is)
    (case c22 => k_is)
    (case k22 => k_is)
    (case a23 => k_is)
    (case l23 => k_is)
    (case c23 => k_is)
    (case k23 => k_is)
    (case a24 => k_is)
    (case l24 => k_is)
    (case c24 => k_is)
    (case k24 => k_is)
    (case a25 => k_is)
    (case l25 => k_is)
    (case c25 => k_is)
    (case k25 => k_is)
    (case a26 => k_is)
    (case l26 => k_is)
    (case c26 => k_is)
    (case k26 => k_is)
    (case a27 => k_is)
    (case l27 => k_is)
    (case c27 => k_is)
    (case k27 => k_is)
    (case a28 => k_is)
    (case l28 => k_is)
    (case c28 => k_is)
    (case k28 => k_is)
    (case a29 => k_is)
    (case l29 => k_is)
    (case c29 => k_is)
    (case k29 => k_is)
    (case a30 => k_is)
    (case l30 => k_is)
    (case c30 => k_is)
    (case k30 => k_is)
    (case t30 => k_is)
    (case bfc30 => k_is)
    (case a31 => k_is)
    (case l31 => k_is)
    (case c31 => k_is)
    (case k31 => k_is)
    (case u31 => k_is)
    (case a32 => k_is)
    (case l32 => k_is)
    (case c32 => k_is)
    (case k32 => k_is)
    (case u32 => k_is)
    (case a33 => k_is)
    (case l33 => k_is)
    (case c33 => k_is)
    (case k33 => k_is)
    (case u33 => k_is)
    (case a34 => k_is)
    (case l34 => k_is)
    (case c34 => k_is)
    (case k34 => k_is)
    (case u34 => k_is)
    (case a35 => k_is)
    (case l35 => k_is)
    (case c35 => k_is)
    (case k35 => k_is)
    (case u35 => k_is)
    (case a36 => k_is)
    (case l36 => k_is)
    (case c36 => k_is)
    (case k36 => k_is)
    (case u36 => k_is)
    (case a37 => k_is)
    (case l37 => k_is)
    (case c37 => k_is)
    (case k37 => k_is)
    (case u37 => k_is)
    (case a38 => k_is)
    (case l38 => k_is)
    (case c38 => k_is)
    (case k38 => k_is)
    (case u38 => k_is)
    (case a39 => k_is)
    (case l39 => k_is)
    (case c39 => k_is)
    (case k39 => k_is)
    (case u39 => k_is)
    (case a40 => k_is)
    (case l40 => k_is)
    (case c40 => k_is)
    (case k40 => k_is)
    (case u40 => k_is)
    (case a41 => k_is)
    (case l41 => k_is)
    (case c41 => k_is)
    (case k41 => k_is)
    (case u41 => k_is)
    (case a42 => k_is)
    (case l42 => k_is)
    (case c42 => k_is)
    (case k42 => k_is)
    (case u42 => k_is)
    (case a43 => k_is)
    (case l43 => k_is)
    (case c43 => k_is)
    (case k43 => k_is)
    (case u43 => k_is)
    (case a44 => k_is)
    (case l44 => k_is)
    (case c44 => k_is)
    (case k44 => k_is)
    (case u44 => k_is)
    (case a45 => k_is)
    (case l45 => k_is)
    (case c45 => k_is)
    (case k45 => k_is)
    (case u45 => k_is)
    (case a46 => k_is)
    (case l46 => k_is)
    (case c46 => k_is)
    (case k46 => k_is)
    (case u46 => k_is)
    (case a47 => k_is)
    (case l47 => k_is)
    (case c47 => k_is)
    (case k47 => k_is)
    (case u47 => k_is)
    (case a48 => k_is)
    (case l48 => k_is)
    (case c48 => k_is)
    (case k48 => k_is)
    (case u48 => k_is)
    (case a49 => k_is)
    (case l49 => k_is)
    (case c49 => k_is)
    (case k49 => k_is)
    (case u49 => k_is)
    (case a50 => k_is)
    (case l50 => k_is)
    (case c50 => k_is)
    (case k50 => k_is)
    (case u50 => k_is)
    (case a51 => k_is)
    (case l51 => k_is)
    (case c51 => k_is)
    (case k51 => k_is)
    (case u51 => k_is)
    (case a52 => k_is)
    (case l52 => k_is)
    (case c52 => k_is)
    (case k52 => k_is)
    (case u52 => k_is)
    (case a53 => k_is)
    (case l53 => k_is)
    (case c53 => k_is)
    (case k53 => k_is)
    (case u53 => k_is)
    (case a54 => k_is)
    (case l54 => k_is)
    (case c54 => k_is)
    (case k54 => k_is)
    (case u54 => k_is)
    (case a55 => k_is)
    (case l55 => k_is)
    (case c55 => k_is)
    (case k55 => k_is)
    (case u55 => k_is)
    (case a56 => k_is)
    (case l56 => k_is)
    (case c56 => k_is)
    (case k56 => k_is)
    (case u56 => k_is)
    (case a57 => k_is)
    (case l57 => k_is)
    (case c57 => k_is)
    (case k57 => k_is)
    (case u57 => k_is)
    (case a58 => k_is)
    (case l58 => k_is)
    (case c58 => k_is)
    (case k58 => k_is)
    (case u58 => k_is)
    (case a59 => k_is)
    (case l59 => k_is)
    (case c59 => k_is)
    (case k59 => k_is)
    (case u59 => k_is)
    (case a60 => k_is)
    (case l60 => k_is)
    (case c60 => k_is)
    (case k60 => k_is)
    (case u60 => k_is)
    (case a61 => k_is)
    (case l61 => k_is)
    (case c61 => k_is)
    (case k61 => k_is)
    (case u61 => k_is)
    (case a62 => k_is)
    (case l62 => k_is)
    (case c62 => k_is)
    (case k62 => k_is)
    (case u62 => k_is)
    (case a63 => k_is)
    (case l63 => k_is)
    (case c63 => k_is)
    (case k63 => k_is)
    (case u63 => k_is)
    (case a64 => k_is)
    (case l64 => k_is)
    (case c64 => k_is)
    (case k64 => k_is)
    (case u64 => k_is)
    (case a65 => k_is)
    (case l65 => k_is)
    (case c65 => k_is)
    (case k65 => k_is)
    (case u65 => k_is)
    (case a66 => k_is)
    (case l66 => k_is)
    (case c66 => k_is)
    (case k66 => k_is)
    (case a67 => k_is)
    (case l67 => k_is)
    (case c67 => k_is)
    (case k67 => k_is)
    (case u67 => k_is)
    (case a68 => k_is)
    (case l68 => k_is)
    (case c68 => k_is)
    (case k68 => k_is)
    (case u68 => k_is)
    (case a69 => k_is)
    (case l69 => k_is)
    (case c69 => k_is)
    (case k69 => k_is)
    (case u69 => k_is)
    (case a70 => k_is)
    (case l70 => k_is)
    (case c70 => k_is)
    (case k70 => k_is)
    (case u70 => k_is)
    (case a71 => k_is)
    (case l71 => k_is)
    (case c71 => k_is)
    (case k71 => k_is)
    (case u71 => k_is)
    (case a72 => k_is)
    (case l72 => k_is)
    (case c72 => k_is)
    (case k72 => k_is)
    (case u72 => k_is)
    (case a73 => k_is)
    (case l73 => k_is)
    (case c73 => k_is)
    (case k73 => k_is)
    (case u73 => k_is)
    (case a74 => k_is)
    (case l74 => k_is)
    (case c74 => k_is)
    (case k74 => k_is)
    (case u74 => k_is)
    (case a75 => k_is)
    (case l75 => k_is)
    (case c75 => k_is)
    (case k75 => k_is)
    (case a76 => k_is)
    (case l76 => k_is)
    (case c76 => k_is)
    (case k76 => k_is)
    (case a77 => k_is)
    (case l77 => k_is)
    (case c77 => k_is)
    (case k77 => k_is)
    (case a78 => k_is)
    (case l78 => k_is)
    (case c78 => k_is)
    (case k78 => k_is)
    (case a79 => k_is)
    (case l79 => k_is)
    (case c79 => k_is)
    (case k79 => k_is)
    (case z_range => k_is)
    (case z_len => k_is)
    (case z_abs => k_is)
    (case z_zip => k_is)
    (case z_list => k_is)
    (case z_isinstance => k_is)
    (case z_bool => k_is)
    (case m_LONGEST => k_is)
    (case m_PIECE => k_is)
#print axioms PySem.Challenge.cw_feastwheel_k63_rules_as_wheels_holds


