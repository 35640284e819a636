import PyProof.Rows.All
import Wide.All
import OpenK.AllK
import Wide.FinOn
import Lean
import PyProof.EqAt
import PyProof.EqKinds
import PyProof.TupleCall
import PySem.Challenge.RW_feastwheel_k40_days_by_date
set_option Elab.async false
set_option linter.all false
set_option maxRecDepth 100000
namespace L2
open PySem PySem.Spec PyProof.Rows

/-- a key: an int or a str -/
abbrev Key := Sum Int Str
def keyIs : Key → Value → Bool
  | .inl k, v => Value.isInt k v
  | .inr x, v => Value.isStrOf x v
def keyH (w : World) : Key → Int
  | .inl k => hashInt k
  | .inr x => hashStr w x
theorem keyIs_shape : ∀ {k : Key} {v : Value}, keyIs k v = true → (∃ i t, k = Sum.inl i ∧ v = Value.int i t) ∨ (∃ x t, k = Sum.inr x ∧ v = Value.str x t)
  | .inl i, v, h => by
    obtain ⟨t, e⟩ := Value.isInt_shape (k := i) (v := v) h
    exact .inl ⟨i, t, rfl, e⟩
  | .inr x, v, h => by
    obtain ⟨t, e⟩ := Value.isStrOf_shape (x := x) (v := v) h
    exact .inr ⟨x, t, rfl, e⟩
theorem key_ll (a b : Int) : decide ((Sum.inl a : Key) = Sum.inl b) = (a == b) := by
  by_cases e : a = b
  · subst e; simp
  · have h : ¬ (Sum.inl a : Key) = Sum.inl b := fun q => e (Sum.inl.inj q)
    rw [decide_eq_false h]
    exact (beq_eq_false_iff_ne.mpr e).symm
theorem key_rr (a b : Str) : decide ((Sum.inr a : Key) = Sum.inr b) = decide (a = b) := by
  by_cases e : a = b
  · subst e; simp
  · have h : ¬ (Sum.inr a : Key) = Sum.inr b := fun q => e (Sum.inr.inj q)
    rw [decide_eq_false h, decide_eq_false e]
theorem key_lr (a : Int) (b : Str) : decide ((Sum.inl a : Key) = Sum.inr b) = false := decide_eq_false (fun q => nomatch q)
theorem key_rl (a : Str) (b : Int) : decide ((Sum.inr a : Key) = Sum.inl b) = false := decide_eq_false (fun q => nomatch q)

def mixKind (prog : Program) (w : World) : PySem.KeyKind prog w Key where
  is := keyIs
  hash := keyH w
  inj := fun v a b ha hb => by
    rcases keyIs_shape ha with ⟨i, t, rfl, rfl⟩ | ⟨x, t, rfl, rfl⟩
    · rcases keyIs_shape hb with ⟨j, u, rfl, e⟩ | ⟨y, u, rfl, e⟩
      · injection e with e1 _; rw [e1]
      · exact nomatch e
    · rcases keyIs_shape hb with ⟨j, u, rfl, e⟩ | ⟨y, u, rfl, e⟩
      · exact nomatch e
      · injection e with e1 _; rw [e1]
  byValue := fun k v h => by
    rcases keyIs_shape h with ⟨i, t, rfl, rfl⟩ | ⟨x, t, rfl, rfl⟩ <;> rfl
  pyHash := fun hv h => by
    rcases keyIs_shape hv with ⟨i, t, rfl, rfl⟩ | ⟨x, t, rfl, rfl⟩
    · exact wpAny_pyHash_int h
    · exact wpAny_pyHash_str h
  eqBool := fun hu hv h => by
    rcases keyIs_shape hu with ⟨i, t, rfl, rfl⟩ | ⟨x, t, rfl, rfl⟩
    · rcases keyIs_shape hv with ⟨j, u, rfl, rfl⟩ | ⟨y, u, rfl, rfl⟩
      · rw [key_ll] at h; exact wpAny_eqBool_int h
      · rw [key_lr] at h; exact SeqAt.EqAt.int_str i t y u _ _ _ _ h
    · rcases keyIs_shape hv with ⟨j, u, rfl, rfl⟩ | ⟨y, u, rfl, rfl⟩
      · rw [key_rl] at h; exact SeqAt.EqAt.str_int x t j u _ _ _ _ h
      · rw [key_rr] at h; exact wpAny_eqBool_str h
  «strs» := fun k x t v h => by
    rcases keyIs_shape h with ⟨i, u, rfl, e⟩ | ⟨y, u, rfl, e⟩
    · exact nomatch e
    · injection e with e1 _
      subst e1
      cases v <;> rfl

end L2

namespace L2
open PySem PySem.Spec PyProof.Rows

/-- a value, without the heap -/
inductive V where
  | non | bl (b : Bool) | int (i : Int) | str (x : Str) | byt (b : Array UInt8) | flt (b : UInt64) | ref (a : Addr) | ty (n : String)
  deriving DecidableEq

def RelV : V → Value → Prop
  | .non, u => u = Value.none
  | .bl b, u => u = Value.bool b
  | .int i, u => ∃ t, u = Value.int i t
  | .str x, u => ∃ t, u = Value.str x t
  | .byt b, u => ∃ t, u = Value.bytes b t
  | .flt b, u => ∃ t, u = Value.float b t
  | .ref a, u => u = Value.ref a
  | .ty n, u => u = Value.type n

abbrev Vals : List V → List Value → Prop := Paired RelV
theorem Vals.length {xs : List V} {us : List Value} (r : Vals xs us) : xs.length = us.length := Paired.length r
theorem Vals.get : ∀ {xs : List V} {us : List Value} {i : Nat} {x : V}, Vals xs us → xs[i]? = some x → ∃ u, us[i]? = some u ∧ RelV x u
  | _, _, _, _, .nil, e => by simp at e
  | _, _, 0, _, .cons r _, e => by simp at e; subst e; exact ⟨_, rfl, r⟩
  | _, _, i + 1, x, .cons _ t, e => by
    obtain ⟨u, h1, h2⟩ := Vals.get (i := i) (x := x) t (by simpa using e)
    exact ⟨u, by simpa using h1, h2⟩
theorem Vals.set {x : V} {u : Value} (r : RelV x u) : ∀ {xs : List V} {us : List Value} (i : Nat), Vals xs us → Vals (xs.set i x) (us.set i u)
  | _, _, _, .nil => .nil
  | _, _, 0, .cons _ t => .cons r t
  | _, _, i + 1, .cons q t => .cons q (Vals.set r i t)
theorem Vals.append : ∀ {xs ys : List V} {us ws : List Value}, Vals xs us → Vals ys ws → Vals (xs ++ ys) (us ++ ws)
  | _, _, _, _, .nil, s => s
  | _, _, _, _, .cons r t, s => .cons r (Vals.append t s)
theorem Vals.take : ∀ {xs : List V} {us : List Value} (n : Nat), Vals xs us → Vals (xs.take n) (us.take n)
  | _, _, 0, _ => .nil
  | _, _, _ + 1, .nil => .nil
  | _, _, n + 1, .cons r t => .cons r (Vals.take n t)
theorem Vals.drop : ∀ {xs : List V} {us : List Value} (n : Nat), Vals xs us → Vals (xs.drop n) (us.drop n)
  | _, _, 0, r => r
  | _, _, _ + 1, .nil => .nil
  | _, _, n + 1, .cons _ t => Vals.drop n t
theorem Vals.none_of : ∀ {xs : List V} {us : List Value} {i : Nat}, Vals xs us → xs[i]? = none → us[i]? = none := fun {xs us i} r e => by
  have h1 := r.length
  have h2 : xs.length ≤ i := List.getElem?_eq_none_iff.mp e
  exact List.getElem?_eq_none_iff.mpr (by omega)

def RelO : Option V → Option Value → Prop
  | some v, some u => RelV v u
  | none, none => True
  | _, _ => False
def KV {κ : Type} : List (κ × V) → List (κ × Value) → Prop := Paired fun (p : κ × V) (q : κ × Value) => p.1 = q.1 ∧ RelV p.2 q.2

/-- a key of a dict (00_mix): an int or a text -/
def kV : Key → V
  | .inl i => .int i
  | .inr x => .str x

/-- what stands at a tracked address -/
inductive HO where
  /-- a list -/
  | lst (xs : List V)
  /-- a tuple (never changes) -/
  | tup (xs : List V)
  /-- a dict whose keys are ints and texts; one whose keys are tuples of ints and texts (the empty one is both) -/
  | dK (kvs : List (Key × V)) | dT (kvs : List (List Key × V))
  /-- a set of ints: its members, its size -/
  | set (S : Int → Bool) (n : Nat)
  /-- an instance of the class at C, its dict at dx, its attributes -/
  | ins (C dx : Addr) (fs : List (Str × V))
  /-- the dict of the instance at x -/
  | own (x : Addr)
  /-- the dict of an exception -/
  | xd (fs : List (Str × V))
  /-- a bound method, f of x -/
  | met (f x : Addr)
  /-- a range object lo, lo + 1, .. below hi -/
  | rng (lo hi : Int)
  /-- a thing that is known to the object (the script; a dict while a loop walks it): read, never written while it is so -/
  | frz (o : Obj) (u : HO)
  /-- a code object's table -/
  | tbl (ps : Array Value)
  /-- any other thing, by what is true of its one object (a def of one's own: SetO a S n := HO.ext fun h => ..) -/
  | ext (φ : Heap → Prop)

abbrev Hp := Addr → Option HO
def upd (H : Hp) (a : Addr) (o : HO) : Hp := fun b => if b = a then some o else H b
theorem upd_same {H : Hp} {a : Addr} {o : HO} : upd H a o a = some o := by unfold upd; rw [if_pos rfl]
theorem upd_ne {H : Hp} {a b : Addr} {o : HO} (h : b ≠ a) : upd H a o b = H b := by unfold upd; rw [if_neg h]
theorem upd_upd {H : Hp} {a : Addr} {o u : HO} : upd (upd H a o) a u = upd H a u := by
  funext b; unfold upd; split <;> rfl
/-- two objects of different content stand apart -/
theorem ne_of {H : Hp} {a b : Addr} {o u : HO} (h : H a = some o) (h' : H b = some u) (d : o ≠ u) : a ≠ b := by
  intro e; subst e; rw [h] at h'; exact d (Option.some.inj h')
theorem ne_of_none {H : Hp} {a b : Addr} {o : HO} (h : H a = some o) (h' : H b = none) : a ≠ b := by
  intro e; subst e; rw [h] at h'; cases h'

section
variable (P : Program) (w : World)
def ObjOk (H : Hp) (h : Heap) (a : Addr) : HO → Prop
  | .lst xs => xs.length ≤ sizeLine ∧ ∃ (its : List Value) (n : Nat), Vals xs its ∧ h.get? a = some { cls := .type "list", data := .seq its.toArray n }
  | .tup xs => xs.length ≤ sizeLine ∧ ∃ its : List Value, Vals xs its ∧ IsTup h a its.toArray
  | .dK kvs => kvs.length ≤ sizeLine ∧ (a == sysModules) = false ∧ ∃ vs, KV kvs vs ∧ h.DictOf (mixKind P w) a vs
  | .dT kvs => kvs.length ≤ sizeLine ∧ (a == sysModules) = false ∧ ∃ xs : List (List Key × Addr × Value),
      Paired (fun (p : List Key × V) (q : List Key × Addr × Value) => p.1 = q.1 ∧ H q.2.1 = some (.tup (p.1.map kV)) ∧ RelV p.2 q.2.2) kvs xs ∧
      ∃ o es ep, h.get? a = some o ∧ o.ExactDict ∧ o.data = .dict es ep ∧ es.toList = xs.map (entryOfKey (tupleKind (mixKind P w))) ∧ (xs.map (·.1)).Nodup
  | .set S n => h.SetOf (intKind P w) a S n
  | .ins C dx fs => H dx = some (.own a) ∧ fs.length ≤ 1000 ∧ dx ≠ a ∧ h.get? a = some (PySem.W.instObj C dx) ∧
      ∃ mA, h.Ns1 dx mA ∧ (∀ f, RelO (fs.lookup f) (mA f)) ∧ PySem.Within mA (fs.map (·.1))
  | .own _ => ∃ o, h.get? a = some o
  | .xd fs => ∃ mA, h.Ns1 a mA ∧ ∀ f, RelO (fs.lookup f) (mA f)
  | .rng lo hi => ∃ t u v, h.get? a = some { cls := .type "range", data := .fields #[.int lo t, .int hi u, .int 1 v] }
  | .frz o u => h.get? a = some o ∧ ObjOk H h a u
  | .tbl ps => h.get? a = some { cls := .none, data := .fields ps }
  | .met f x => h.get? a = some (PySem.W.methodObj (.ref f) (.ref x))
  | .ext φ => φ h ∧ (∃ o, h.get? a = some o) ∧ ∀ h1 h2 : Heap, φ h1 → (∀ o, h1.get? a = some o → h2.get? a = some o) → φ h2
/-- the abstract heap is held -/
def HOk (H : Hp) (h : Heap) : Prop := ∀ a o, H a = some o → ObjOk P w H h a o
end

section
variable {P : Program} {w : World} {H H' : Hp} {h h' : Heap} {a : Addr} {o : HO}
theorem ObjOk.lt (x : ObjOk P w H h a o) : a < h.objs.size := by
  cases o with
  | lst xs => obtain ⟨_, _, _, _, e⟩ := x; exact Heap.lt_size e
  | tup xs => obtain ⟨_, _, _, p⟩ := x; exact p.lt
  | dK kvs => obtain ⟨_, _, _, _, o, _, _, e, _⟩ := x; exact Heap.lt_size e
  | dT kvs => obtain ⟨_, _, _, _, o, _, _, e, _⟩ := x; exact Heap.lt_size e
  | set S n => obtain ⟨o, _, _, _, e, _⟩ := x; exact Heap.lt_size e
  | ins C dx fs => obtain ⟨_, _, _, e, _⟩ := x; exact Heap.lt_size e
  | own y => obtain ⟨_, e⟩ := x; exact Heap.lt_size e
  | xd fs => obtain ⟨_, ⟨_, _, _, e, _⟩, _⟩ := x; exact Heap.lt_size e
  | rng lo hi => obtain ⟨_, _, _, e⟩ := x; exact Heap.lt_size e
  | frz ob u => obtain ⟨e, _⟩ := x; exact Heap.lt_size e
  | tbl ps => exact Heap.lt_size (show h.get? a = some _ from x)
  | met f y => exact Heap.lt_size (show h.get? a = some _ from x)
  | ext φ => obtain ⟨_, ⟨_, e⟩, _⟩ := x; exact Heap.lt_size e
theorem Paired.mapP {α β : Type} {F G : α → β → Prop} : ∀ {l₁ : List α} {l₂ : List β}, Paired F l₁ l₂ → (∀ a b, F a b → G a b) → Paired G l₁ l₂
  | _, _, .nil, _ => .nil
  | _, _, .cons r t, f => .cons (f _ _ r) (Paired.mapP t f)
/-- what an object's description leans on: its own object, its own dict, the tuples -/
theorem ObjOk.stay (x : ObjOk P w H h a o) (k : ∀ b u, (b = a ∨ H b = some (.own a)) → h.get? b = some u → h'.get? b = some u)
    (ho : ∀ b, H b = some (.own a) → H' b = some (.own a)) (ht : ∀ b xs, H b = some (.tup xs) → H' b = some (.tup xs)) : ObjOk P w H' h' a o := by
  induction o with
  | lst xs => obtain ⟨z, its, n, r, e⟩ := x; exact ⟨z, its, n, r, k _ _ (.inl rfl) e⟩
  | tup xs => obtain ⟨z, its, r, ob, e, c⟩ := x; exact ⟨z, its, r, ob, k _ _ (.inl rfl) e, c⟩
  | dK kvs => obtain ⟨z, y, vs, r, ob, es, ep, e, c⟩ := x; exact ⟨z, y, vs, r, ob, es, ep, k _ _ (.inl rfl) e, c⟩
  | dT kvs =>
    obtain ⟨z, y, xs, r, ob, es, ep, e, c⟩ := x
    exact ⟨z, y, xs, Paired.mapP r fun p q z => ⟨z.1, ht _ _ z.2.1, z.2.2⟩, ob, es, ep, k _ _ (.inl rfl) e, c⟩
  | set S n => obtain ⟨ob, es, ep, t, e, c⟩ := x; exact ⟨ob, es, ep, t, k _ _ (.inl rfl) e, c⟩
  | ins C dx fs =>
    obtain ⟨d, z, ne, e, mA, ⟨od, es, ep, e2, c⟩, r⟩ := x
    exact ⟨ho _ d, z, ne, k _ _ (.inl rfl) e, mA, ⟨od, es, ep, k _ _ (.inr d) e2, c⟩, r⟩
  | own y => obtain ⟨ob, e⟩ := x; exact ⟨ob, k _ _ (.inl rfl) e⟩
  | xd fs => obtain ⟨mA, ⟨od, es, ep, e, c⟩, r⟩ := x; exact ⟨mA, ⟨od, es, ep, k _ _ (.inl rfl) e, c⟩, r⟩
  | rng lo hi => obtain ⟨t, u, v, e⟩ := x; exact ⟨t, u, v, k _ _ (.inl rfl) e⟩
  | frz ob u ih => obtain ⟨e, q⟩ := x; exact ⟨k _ _ (.inl rfl) e, ih q⟩
  | tbl ps =>
    have e : h.get? a = some { cls := .none, data := .fields ps } := x
    show h'.get? a = some { cls := .none, data := .fields ps }
    exact k a _ (.inl rfl) e
  | met f y =>
    have e : h.get? a = some (PySem.W.methodObj (.ref f) (.ref y)) := x
    show h'.get? a = some (PySem.W.methodObj (.ref f) (.ref y))
    exact k a _ (.inl rfl) e
  | ext φ => obtain ⟨p, ⟨o, e⟩, st⟩ := x; exact ⟨st _ _ p fun o q => k _ _ (.inl rfl) q, ⟨o, k _ _ (.inl rfl) e⟩, st⟩
theorem HOk.lt (x : HOk P w H h) (e : H a = some o) : a < h.objs.size := (x a o e).lt
theorem HOk.fresh (x : HOk P w H h) (e : h.objs.size ≤ a) : H a = none := by
  cases q : H a with
  | none => rfl
  | some u => exact absurd (Nat.lt_of_lt_of_le (x.lt q) e) (Nat.lt_irrefl _)
/-- every object of the heap is kept -/
theorem HOk.kept (x : HOk P w H h) (k : ∀ b u, h.get? b = some u → h'.get? b = some u) : HOk P w H h' := fun a o e =>
  (x a o e).stay (fun b u _ q => k b u q) (fun _ q => q) fun _ _ q => q
/-- a new object is laid and tracked -/
theorem HOk.laid (x : HOk P w H h) (k : ∀ b u, h.get? b = some u → h'.get? b = some u) (hp : h.objs.size ≤ a) (new : ObjOk P w (upd H a o) h' a o) : HOk P w (upd H a o) h' := fun b u e => by
  have hn := x.fresh hp
  by_cases hb : b = a
  · subst hb; rw [upd_same] at e; cases e; exact new
  · rw [upd_ne hb] at e
    exact (x b u e).stay (fun c v _ q => k c v q) (fun c q => by rw [upd_ne (ne_of_none q hn)]; exact q) fun c xs q => by rw [upd_ne (ne_of_none q hn)]; exact q
end

/-- what may be read as u: it is u, or a known u -/
def Rd (H : Hp) (a : Addr) (u : HO) : Prop := H a = some u ∨ ∃ o, H a = some (.frz o u)
theorem Rd.of {H : Hp} {a : Addr} {u : HO} (h : H a = some u) : Rd H a u := .inl h
theorem Rd.ok {P : Program} {w : World} {H : Hp} {h : Heap} {a : Addr} {u : HO} (r : Rd H a u) (x : HOk P w H h) : ObjOk P w H h a u := by
  rcases r with r | ⟨o, r⟩
  · exact x a u r
  · obtain ⟨_, q⟩ := x a _ r
    exact q
/-- what may be written -/
def Mut : Option HO → Prop
  | some (.lst _) => True
  | some (.dK _) => True
  | some (.dT _) => True
  | some (.set _ _) => True
  | some (.ins _ _ _) => True
  | some (.ext _) => True
  | _ => False
section
variable {P : Program} {w : World} {H : Hp} {h h' : Heap} {x e : Addr} {o' : HO}
/-- the object at e is changed: x itself, or the dict of the instance x -/
theorem HOk.write (ok : HOk P w H h) (mu : Mut (H x)) (he : e = x ∨ H e = some (.own x)) (k : ∀ b u, b ≠ e → h.get? b = some u → h'.get? b = some u) (heo : ∃ u, h'.get? e = some u)
    (new : ObjOk P w (upd H x o') h' x o') : HOk P w (upd H x o') h' := fun b u q => by
  have nown : ∀ c y, H c = some (.own y) → c ≠ x := fun c y r z => by subst z; rw [r] at mu; exact mu
  have ntup : ∀ c xs, H c = some (.tup xs) → c ≠ x := fun c xs r z => by subst z; rw [r] at mu; exact mu
  by_cases hb : b = x
  · subst hb; rw [upd_same] at q; cases q; exact new
  · rw [upd_ne hb] at q
    by_cases hbe : b = e
    · have q' : H b = some (.own x) := by
        rcases he with z | z
        · exact absurd (hbe.trans z) hb
        · rw [hbe]; exact z
      rw [q] at q'; cases q'
      obtain ⟨v, hv⟩ := heo
      exact ⟨v, by rw [hbe]; exact hv⟩
    · refine (ok b u q).stay (fun c v hc r => k c v ?_ r) (fun c r => by rw [upd_ne (nown c b r)]; exact r) fun c xs r => by rw [upd_ne (ntup c xs r)]; exact r
      rcases hc with rfl | hc
      · exact hbe
      · rintro rfl
        rcases he with z | z
        · exact nown c b hc z
        · rw [hc] at z; cases z; exact hb rfl
end

structure Un (fs ex : List Addr) (H H' : Hp) (h h' : Heap) : Prop where
  keep : ∀ b o, h.get? b = some o → H b = none → b ∉ fs → b ∉ ex → h'.get? b = some o
  slot : ∀ b o, h.get? b = some o → H b = none → b ∈ fs → b ∉ ex → ∃ sl, h'.get? b = some { o with slots := sl }
  free : ∀ b o, h.get? b = some o → H b = none → b ∉ ex → H' b = none
  there : ∀ b o, h.get? b = some o → b ∉ ex → ∃ o', h'.get? b = some o'
  tups : ∀ b xs, H b = some (.tup xs) → H' b = some (.tup xs)
  frzs : ∀ b o u, H b = some (.frz o u) → H' b = some (.frz o u)
  tbls : ∀ b ps, H b = some (.tbl ps) → ∃ more, H' b = some (.tbl (ps ++ more))
section
variable {fs fs' ex ex' : List Addr} {H H1 H2 : Hp} {h h1 h2 h' : Heap} {a x e : Addr} {o : HO}
theorem Un.any (u : Un fs ex H H1 h h1) {b : Addr} {ob : Obj} (q : h.get? b = some ob) (n : H b = none) (hx : b ∉ ex) : ∃ sl, h1.get? b = some { ob with slots := sl } := by
  by_cases hb : b ∈ fs
  · exact u.slot b ob q n hb hx
  · exact ⟨ob.slots, u.keep b ob q n hb hx⟩
theorem Un.trans (a : Un fs ex H H1 h h1) (b : Un fs ex H1 H2 h1 h2) : Un fs ex H H2 h h2 where
  keep := fun c ob q n hc hx => b.keep c ob (a.keep c ob q n hc hx) (a.free c ob q n hx) hc hx
  slot := fun c ob q n hc hx => by
    obtain ⟨sl, e1⟩ := a.slot c ob q n hc hx
    obtain ⟨sl', e2⟩ := b.slot c _ e1 (a.free c ob q n hx) hc hx
    exact ⟨sl', e2⟩
  free := fun c ob q n hx => by
    obtain ⟨o', e1⟩ := a.there c ob q hx
    exact b.free c o' e1 (a.free c ob q n hx) hx
  there := fun c ob q hx => by
    obtain ⟨o', e1⟩ := a.there c ob q hx
    exact b.there c o' e1 hx
  tups := fun c xs q => b.tups c xs (a.tups c xs q)
  frzs := fun c ob xs q => b.frzs c ob xs (a.frzs c ob xs q)
  tbls := fun c ps q => by
    obtain ⟨m1, e1⟩ := a.tbls c ps q
    obtain ⟨m2, e2⟩ := b.tbls c _ e1
    exact ⟨m1 ++ m2, by rw [e2, Array.append_assoc]⟩
theorem Un.kept (k : ∀ b u, h.get? b = some u → h'.get? b = some u) : Un fs ex H H h h' :=
  ⟨fun b ob q _ _ _ => k b ob q, fun b ob q _ _ _ => ⟨ob.slots, k b ob q⟩, fun _ _ _ n _ => n, fun b ob q _ => ⟨ob, k b ob q⟩, fun _ _ q => q, fun _ _ _ q => q, fun _ ps q => ⟨#[], by rw [q]; simp⟩⟩
theorem Un.refl : Un fs ex H H h h := Un.kept fun _ _ q => q
theorem Un.laid (k : ∀ b u, h.get? b = some u → h'.get? b = some u) (hp : h.objs.size ≤ a) (hn : H a = none) : Un fs ex H (upd H a o) h h' where
  keep := fun b u q _ _ _ => k b u q
  slot := fun b u q _ _ _ => ⟨u.slots, k b u q⟩
  free := fun b u q n _ => by rw [upd_ne (Nat.ne_of_lt (Nat.lt_of_lt_of_le (Heap.lt_size q) hp))]; exact n
  there := fun b u q _ => ⟨u, k b u q⟩
  tups := fun b xs q => by rw [upd_ne (ne_of_none q hn)]; exact q
  frzs := fun b u xs q => by rw [upd_ne (ne_of_none q hn)]; exact q
  tbls := fun b ps q => ⟨#[], by rw [upd_ne (ne_of_none q hn), q]; simp⟩
theorem Un.write (mu : Mut (H x)) (he : e = x ∨ H e = some (.own x)) (k : ∀ b u, b ≠ e → h.get? b = some u → h'.get? b = some u) (heo : ∃ u, h'.get? e = some u) : Un fs ex H (upd H x o) h h' := by
  have hx : ∀ b, H b = none → b ≠ x := fun b n z => by subst z; rw [n] at mu; exact mu
  have hb : ∀ b, H b = none → b ≠ e := fun b n z => by
    subst z
    rcases he with r | r
    · exact hx b n r
    · rw [n] at r; cases r
  have hm : ∀ b u, H b = some u → ¬ Mut (some u) → b ≠ x := fun b u q nm z => by subst z; rw [q] at mu; exact nm mu
  refine ⟨fun b u q n _ _ => k b u (hb b n) q, fun b u q n _ _ => ⟨u.slots, k b u (hb b n) q⟩, fun b u q n _ => by rw [upd_ne (hx b n)]; exact n, fun b u q _ => ?_,
    fun b xs q => by rw [upd_ne (hm b _ q fun z => z)]; exact q, fun b u xs q => by rw [upd_ne (hm b _ q fun z => z)]; exact q, fun b ps q => ⟨#[], by rw [upd_ne (hm b _ q fun z => z), q]; simp⟩⟩
  by_cases hbe : b = e
  · subst hbe; exact heo
  · exact ⟨u, k b u hbe q⟩
theorem Un.mono (u : Un fs ex H H1 h h1) (hs : ∀ b ∈ fs, b ∈ fs') (hx : ∀ b ∈ ex, b ∈ ex') : Un fs' ex' H H1 h h1 :=
  ⟨fun b ob q n hb he => u.keep b ob q n (fun z => hb (hs b z)) fun z => he (hx b z), fun _ _ q n _ he => u.any q n fun z => he (hx _ z), fun b ob q n he => u.free b ob q n fun z => he (hx b z), fun b ob q he => u.there b ob q fun z => he (hx b z), u.tups, u.frzs, u.tbls⟩
end

def trk (h : Heap) (H : Hp) : List Addr := (List.range h.objs.size).filter fun a => (H a).isSome
def hidT (h : Heap) (H : Hp) : Heap := PySem.W.hideAll h (trk h H)
theorem hidT_size (h : Heap) (H : Hp) : (hidT h H).objs.size = h.objs.size := PySem.W.hideAll_size _ _
theorem hidT_get {h : Heap} {H : Hp} {b : Addr} {o : Obj} (e : h.get? b = some o) (n : H b = none) : (hidT h H).get? b = some o :=
  PySem.W.hideAll_get _ e fun hm => by
    have q : (H b).isSome = true := (List.mem_filter.mp hm).2
    rw [n] at q; simp at q
theorem of_hidT {h : Heap} {H : Hp} {b : Addr} {o : Obj} (e : (hidT h H).get? b = some o) : h.get? b = some o ∧ H b = none := by
  have e' : h.get? b = some o := PySem.W.of_hideAll (trk h H) e
  refine ⟨e', ?_⟩
  cases q : H b with
  | none => rfl
  | some x =>
    have hm : b ∈ trk h H := List.mem_filter.mpr ⟨List.mem_range.mpr (Heap.lt_size e'), by simp [q]⟩
    have z : (hidT h H).get? b = none := PySem.W.hideAll_none (trk h H) hm
    rw [z] at e; cases e

def allNews (g h : Heap) (L : Addr) : List (Addr × Obj) := (List.range h.objs.size).filterMap fun a => if a = L ∨ (g.get? a).isSome = true then none else (h.get? a).map fun o => (a, o)
def rest (g h : Heap) (L d : Addr) : List (Addr × Obj) := (allNews g h L).filter fun p => decide (p.1 ≠ d)
end L2

namespace L2
open PySem PySem.Spec PyProof.Rows

/-- the module's facts, over the base: the heap at the law's entry without what is tracked there -/
structure Mod (K : PySem.W.Frag) (mg : Str → Option Value) (base : Heap) : Prop where
  kin : K.In base
  glob : base.Ns mainGlobals mg
  blt : ∃ mb, base.Ns builtinsNs mb ∧ ∀ x : Str, x ≠ "__name__" → mb x = bootBuiltins x
  nolimit : base.NoLimit

/-- the context: a def's body (or a comprehension's block) running. base: fixed through the whole law; s₀, H₀: the entry; outer: the frames whose slots others may change (a def's callers); stack: all frames that run;
   ex: iterators that were made ahead of the entry and are walked here (a comprehension's); fn: the names whose cells were made at the entry (a def: all; a comprehension's block: its own); calm: not within an except suite; pn: pins that every state bears; xe: what is wanted of an exception that leaves the code -/
structure Cx where
  prog : Program
  w : World
  K : PySem.W.Frag
  mg : Str → Option Value
  base : Heap
  A : Around
  N : List Str
  s₀ : Shared
  H₀ : Hp
  env : Env
  outer : List Env
  stack : List Env
  ex : List Addr
  fn : Str → Bool
  calm : Bool
  pn : List (Addr × Obj)
  xe : Value → Shared → Prop
/-- the callers' frames -/
def frs (l : List Env) : List Addr := l.filterMap (·.frame)
abbrev Cx.fs (X : Cx) : List Addr := frs X.outer

def Vis (sc : Scope) (x : Str) : Prop := sc.names.lookup x = some .local ∨ sc.names.lookup x = some .cell ∨ sc.names.lookup x = some .free
def Loc (sc : Scope) (x : Str) : Prop := sc.names.lookup x = some .local ∨ sc.names.lookup x = some .cell
def Look (env : Env) (h : Heap) (m : Str → Option Value) (x : Str) (u : Value) : Prop :=
  (env.kindOf x = some .local ∧ m x = some u) ∨ ((env.kindOf x = some .cell ∨ env.kindOf x = some .free) ∧ ∃ c, env.cells.lookup x = some c ∧ h.IsCell c (some u))

structure Cx.Ok (X : Cx) : Prop where
  mod : Mod X.K X.mg X.base
  kind : X.env.scope.kind = .function
  glob : X.env.globals = mainGlobals
  blt : X.env.builtins = builtinsNs
  above : X.s₀.heap.objs.size ≤ X.env.locals
  inj : ∀ x y c, X.env.cells.lookup x = some c → X.env.cells.lookup y = some c → x = y
  has : ∀ x, (X.env.kindOf x = some .cell ∨ X.env.kindOf x = some .free) → ∃ c, X.env.cells.lookup x = some c
  cab : ∀ x c, X.fn x = true → X.env.cells.lookup x = some c → X.s₀.heap.objs.size ≤ c
  hd : X.calm = true → X.A.handled = none
  frames : X.A.frames = some X.stack
  stk : X.stack = X.outer ∨ (X.stack = X.env :: X.outer ∧ X.env.frame = some X.env.locals)
  exf : ∀ b ∈ X.ex, b ≠ X.env.locals ∧ ∀ x c, X.env.cells.lookup x = some c → c ≠ b
  bs : ∀ b o, X.base.get? b = some o → X.s₀.heap.get? b = some o ∧ X.H₀ b = none
  bsz : X.base.objs.size ≤ X.s₀.heap.objs.size
  noex : ∀ b o, X.base.get? b = some o → b ∉ X.ex
  exfs : ∀ b ∈ X.ex, b ∉ X.fs
  funs : X.s₀.heap.FunFrames X.base X.outer
  frf : ∀ b ∈ X.fs, X.H₀ b = none

structure Inv (X : Cx) (pins : List (Addr × Obj)) (σ : List (Option V)) (H : Hp) (s : Shared) : Prop where
  ok : X.Ok
  os : s.os = X.s₀.os
  bare : AllBare s.gens
  base : Un X.fs X.ex X.H₀ H X.s₀.heap s.heap
  loc : ∃ m, s.heap.Ns X.env.locals m ∧ ∀ (i : Nat) (x : Str) (v : V), X.N[i]? = some x → σ[i]? = some (some v) → Vis X.env.scope x → ∃ u, RelV v u ∧ Look X.env s.heap m x u
  cell : ∀ x c, X.env.cells.lookup x = some c → ∃ v, s.heap.IsCell c v
  free : H X.env.locals = none
  freeC : ∀ x c, X.env.cells.lookup x = some c → H c = none
  pin : ∀ p ∈ X.pn ++ pins, s.heap.get? p.1 = some p.2 ∧ H p.1 = none ∧ p.1 ≠ X.env.locals ∧ p.1 ∉ X.fs ∧ ∀ v, p.2.data ≠ .cell v
  hok : HOk X.prog X.w H s.heap
  len : σ.length = X.N.length

section
variable {X : Cx} {pins : List (Addr × Obj)} {σ : List (Option V)} {H H' : Hp} {s : Shared} {h' : Heap}

theorem Cx.Ok.nofr (ok : X.Ok) {b : Addr} {o : Obj} (e : X.base.get? b = some o) : b ∉ X.fs := fun hb => by
  have := (ok.funs.mem hb).1
  rw [e] at this; cases this
theorem Inv.bs (I : Inv X pins σ H s) : ∀ b o, X.base.get? b = some o → s.heap.get? b = some o ∧ H b = none := fun b o e =>
  ⟨I.base.keep b o (I.ok.bs b o e).1 (I.ok.bs b o e).2 (I.ok.nofr e) (I.ok.noex b o e), I.base.free b o (I.ok.bs b o e).1 (I.ok.bs b o e).2 (I.ok.noex b o e)⟩
theorem Inv.bk (I : Inv X pins σ H s) : ∀ b o, X.base.get? b = some o → s.heap.get? b = some o := fun b o e => (I.bs b o e).1
theorem Inv.mod (I : Inv X pins σ H s) : Mod X.K X.mg X.base := I.ok.mod
theorem Inv.kIn (I : Inv X pins σ H s) : X.K.In s.heap := I.ok.mod.kin.keeps I.bk
theorem Inv.nolimit (I : Inv X pins σ H s) : s.heap.NoLimit := I.ok.mod.nolimit.keeps I.bk
/-- the frame over the base: for OpenK's rules (K.In X.base is I.mod.kin) -/
theorem Inv.fr (I : Inv X pins σ H s) : ∃ m, Fr X.base X.env.locals s.heap m :=
  let ⟨m, hn, _⟩ := I.loc
  ⟨m, hn, I.bk, Nat.le_trans I.ok.bsz I.ok.above⟩
theorem Inv.lt (I : Inv X pins σ H s) : X.env.locals < s.heap.objs.size := let ⟨_, hn, _⟩ := I.loc; hn.lt
theorem Inv.sz (I : Inv X pins σ H s) : X.s₀.heap.objs.size ≤ s.heap.objs.size := Nat.le_trans I.ok.above (Nat.le_of_lt I.lt)
theorem Inv.nofs (I : Inv X pins σ H s) {a : Addr} (h : s.heap.objs.size ≤ a) : a ∉ X.fs := fun hb => by
  obtain ⟨_, o, ho, _⟩ := I.ok.funs.mem hb
  exact absurd (Nat.lt_of_lt_of_le (Heap.lt_size ho) (Nat.le_trans I.sz h)) (Nat.lt_irrefl _)
theorem Inv.cne (I : Inv X pins σ H s) : ∀ x c, X.env.cells.lookup x = some c → c ≠ X.env.locals := fun x c e z => by
  obtain ⟨v, o, ho, hd⟩ := I.cell x c e
  obtain ⟨m, ⟨o', es, ep, ho', hd', _⟩, _⟩ := I.loc
  rw [z, ho'] at ho; cases ho; rw [hd'] at hd; cases hd
theorem Inv.funs (I : Inv X pins σ H s) : s.heap.FunFrames X.base X.outer := by
  have all : ∀ (l : List Env), (∀ b ∈ frs l, b ∈ X.fs) → X.s₀.heap.FunFrames X.base l → s.heap.FunFrames X.base l := by
    intro l
    induction l with
    | nil => intro _ _; trivial
    | cons env r ih =>
      intro hs hl
      obtain ⟨hk, ⟨L, o, hf, hn, ho, hd⟩, hr⟩ := hl
      have hL : L ∈ X.fs := hs L (by unfold frs; rw [List.filterMap_cons, hf]; exact List.mem_cons_self)
      obtain ⟨sl, e⟩ := I.base.slot L o ho (I.ok.frf L hL) hL fun z => I.ok.exfs L z hL
      exact ⟨hk, ⟨L, _, hf, hn, e, hd⟩, ih (fun b hb => hs b (by unfold frs; rw [List.filterMap_cons, hf]; exact List.mem_cons_of_mem _ hb)) hr⟩
  exact all X.outer (fun _ hb => hb) I.ok.funs

/-- the frames that run, for a call -/
theorem Inv.stack (I : Inv X pins σ H s) : s.heap.FunFrames X.base X.stack := by
  rcases I.ok.stk with e | ⟨e, hf⟩
  · rw [e]; exact I.funs
  · rw [e]
    obtain ⟨m, hn, _⟩ := I.loc
    refine .cons (by rw [I.ok.kind]; decide) hf hn ?_ I.funs
    exact Heap.get?_none_of_le (Nat.le_trans I.ok.bsz I.ok.above)
theorem Inv.stkSub (I : Inv X pins σ H s) : ∀ b ∈ frs X.stack, b ∈ X.env.locals :: X.fs := fun b hb => by
  rcases I.ok.stk with e | ⟨e, hf⟩
  · rw [e] at hb; exact List.mem_cons_of_mem _ hb
  · rw [e] at hb
    unfold frs at hb
    rw [List.filterMap_cons, hf] at hb
    exact hb
theorem Inv.stkFree (I : Inv X pins σ H s) : ∀ b ∈ frs X.stack, H b = none := fun b hb => by
  rcases List.mem_cons.mp (I.stkSub b hb) with e | hb
  · rw [e]; exact I.free
  · obtain ⟨_, o, ho, _⟩ := I.ok.funs.mem hb
    exact I.base.free b o ho (I.ok.frf b hb) fun z => I.ok.exfs b z hb

/-- THE STEP: the untracked objects but the frame and the records at ch are kept (the callers' frames up to slots), the frame's map is kept, the new abstract heap is held -/
theorem Inv.step {g' : Array GenState} {t' : Nat} {d' : Drawn} {ch : List Addr} (I : Inv X pins σ H s)
    (hch : ∀ b ∈ ch, (b ∈ X.ex ∨ X.s₀.heap.objs.size ≤ b) ∧ b ≠ X.env.locals ∧ (∀ x c, X.env.cells.lookup x = some c → c ≠ b) ∧ ∀ p ∈ X.pn ++ pins, p.1 ≠ b)
    (keep : ∀ b o, b ≠ X.env.locals → b ∉ X.fs → b ∉ ch → s.heap.get? b = some o → H b = none → h'.get? b = some o)
    (slot : ∀ b o, b ≠ X.env.locals → b ∈ X.fs → b ∉ ch → s.heap.get? b = some o → H b = none → ∃ sl, h'.get? b = some { o with slots := sl }) (free : ∀ b o, b ∉ ch → s.heap.get? b = some o → H b = none → H' b = none)
    (there : ∀ b o, b ∉ ch → s.heap.get? b = some o → ∃ o', h'.get? b = some o')
    (tups : ∀ b xs, H b = some (.tup xs) → H' b = some (.tup xs)) (frzs : ∀ b o u, H b = some (.frz o u) → H' b = some (.frz o u)) (tbls : ∀ b ps, H b = some (.tbl ps) → ∃ more, H' b = some (.tbl (ps ++ more)))
    (ns : ∀ m, s.heap.Ns X.env.locals m → h'.Ns X.env.locals m) (hok : HOk X.prog X.w H' h') (hg : AllBare g') :
    Inv X pins σ H' { s with heap := h', gens := g', drawn := d', toks := t' } := by
  have neL : ∀ b o, X.s₀.heap.get? b = some o → b ≠ X.env.locals := fun b o e => Nat.ne_of_lt (Nat.lt_of_lt_of_le (Heap.lt_size e) I.ok.above)
  have neC : ∀ b o, X.s₀.heap.get? b = some o → b ∉ X.ex → b ∉ ch := fun b o e hx hb => by
    rcases (hch b hb).1 with z | z
    · exact hx z
    · exact absurd (Nat.lt_of_lt_of_le (Heap.lt_size e) z) (Nat.lt_irrefl _)
  have cellK : ∀ x c, X.env.cells.lookup x = some c → ∀ v, s.heap.IsCell c v → h'.IsCell c v := fun x c e v ⟨o, ho, hd⟩ => by
    have nch : c ∉ ch := fun z => (hch c z).2.2.1 x c e rfl
    by_cases hc : c ∈ X.fs
    · obtain ⟨sl, q⟩ := slot c o (I.cne x c e) hc nch ho (I.freeC x c e)
      exact ⟨_, q, hd⟩
    · exact ⟨o, keep c o (I.cne x c e) hc nch ho (I.freeC x c e), hd⟩
  refine ⟨I.ok, I.os, hg, ⟨fun b o e n hb hx => ?_, fun b o e n hb hx => ?_, fun b o e n hx => ?_, fun b o e hx => ?_, fun b xs e => tups b xs (I.base.tups b xs e), fun b o xs e => frzs b o xs (I.base.frzs b o xs e), fun b ps e => ?_⟩, ?_, fun x c e => ?_, ?_, fun x c e => ?_, fun p hp => ?_, hok, I.len⟩
  · exact keep b o (neL b o e) hb (neC b o e hx) (I.base.keep b o e n hb hx) (I.base.free b o e n hx)
  · obtain ⟨sl, e1⟩ := I.base.slot b o e n hb hx
    obtain ⟨sl', e2⟩ := slot b _ (neL b o e) hb (neC b o e hx) e1 (I.base.free b o e n hx)
    exact ⟨sl', e2⟩
  · obtain ⟨o', e1⟩ := I.base.there b o e hx
    exact free b o' (neC b o e hx) e1 (I.base.free b o e n hx)
  · obtain ⟨o', e1⟩ := I.base.there b o e hx
    exact there b o' (neC b o e hx) e1
  · obtain ⟨m1, e1⟩ := I.base.tbls b ps e
    obtain ⟨m2, e2⟩ := tbls b _ e1
    exact ⟨m1 ++ m2, by rw [e2, Array.append_assoc]⟩
  · obtain ⟨m, hn, hl⟩ := I.loc
    refine ⟨m, ns m hn, fun i x v e1 e2 e3 => ?_⟩
    obtain ⟨u, r, l⟩ := hl i x v e1 e2 e3
    refine ⟨u, r, ?_⟩
    rcases l with l | ⟨k, c, e, z⟩
    · exact .inl l
    · exact .inr ⟨k, c, e, cellK x c e _ z⟩
  · obtain ⟨v, z⟩ := I.cell x c e
    exact ⟨v, cellK x c e v z⟩
  · obtain ⟨m, ⟨o, _, _, ho, _⟩, _⟩ := I.loc
    exact free _ o (fun z => (hch _ z).2.1 rfl) ho I.free
  · obtain ⟨v, o, ho, hd⟩ := I.cell x c e
    exact free c o (fun z => (hch c z).2.2.1 x c e rfl) ho (I.freeC x c e)
  · obtain ⟨e, n, ne, nf, d⟩ := I.pin p hp
    have nch : p.1 ∉ ch := fun z => (hch p.1 z).2.2.2 p hp rfl
    exact ⟨keep p.1 p.2 ne nf nch e n, free p.1 p.2 nch e n, ne, nf, d⟩
/-- .. where the frame's own object is kept too -/
theorem Inv.un {t' : Nat} (I : Inv X pins σ H s) (u : Un X.fs [] H H' s.heap h') (hok : HOk X.prog X.w H' h') : Inv X pins σ H' { s with heap := h', toks := t' } := by
  obtain ⟨m, ⟨o, es, ep, ho, r⟩, _⟩ := id I.loc
  obtain ⟨sl, hL⟩ := u.any ho I.free (by simp)
  exact I.step (g' := s.gens) (d' := s.drawn) (ch := []) (fun _ z => nomatch z) (fun b o _ hb _ e n => u.keep b o e n hb (by simp)) (fun b o _ hb _ e n => u.slot b o e n hb (by simp)) (fun b o _ e n => u.free b o e n (by simp)) (fun b o _ e => u.there b o e (by simp)) u.tups u.frzs u.tbls (fun m' hm => by
    obtain ⟨o', es', ep', ho', r'⟩ := hm
    rw [ho] at ho'; cases ho'
    exact ⟨_, es', ep', hL, r'⟩) hok I.bare
/-- behind a call (or a comprehension's block): the slots of this frame may have changed too, the records at ch may have turned -/
theorem Inv.call {g' : Array GenState} {t' : Nat} {d' : Drawn} {ch : List Addr} (I : Inv X pins σ H s) (u : Un (frs X.stack) ch H H' s.heap h') (hok : HOk X.prog X.w H' h') (hg : AllBare g')
    (hch : ∀ b ∈ ch, (b ∈ X.ex ∨ X.s₀.heap.objs.size ≤ b) ∧ b ≠ X.env.locals ∧ (∀ x c, X.env.cells.lookup x = some c → c ≠ b) ∧ ∀ p ∈ X.pn ++ pins, p.1 ≠ b) :
    Inv X pins σ H' { s with heap := h', gens := g', drawn := d', toks := t' } := by
  obtain ⟨m, ⟨o, es, ep, ho, r⟩, _⟩ := id I.loc
  obtain ⟨sl, hL⟩ := u.any ho I.free fun z => (hch _ z).2.1 rfl
  exact I.step (ch := ch) hch (fun b o hL hb hc e n => u.keep b o e n (fun z => (List.mem_cons.mp (I.stkSub b z)).elim hL hb) hc) (fun b o _ _ hc e n => u.any e n hc) (fun b o hc e n => u.free b o e n hc) (fun b o hc e => u.there b o e hc) u.tups u.frzs u.tbls (fun m' hm => by
    obtain ⟨o', es', ep', ho', r'⟩ := hm
    rw [ho] at ho'; cases ho'
    exact ⟨_, es', ep', hL, r'⟩) hok hg
/-- an untracked record of ours (an iterator) has turned -/
theorem Inv.turned {t' : Nat} {it : Addr} (I : Inv X pins σ H s) (k : ∀ b o, b ≠ it → s.heap.get? b = some o → h'.get? b = some o) (hn : H it = none) (hL : it ≠ X.env.locals)
    (h1 : it ∈ X.ex ∨ X.s₀.heap.objs.size ≤ it) (h2 : ∀ x c, X.env.cells.lookup x = some c → c ≠ it) (h3 : ∀ p ∈ X.pn ++ pins, p.1 ≠ it) : Inv X pins σ H { s with heap := h', toks := t' } := by
  have nit : ∀ b u, H b = some u → b ≠ it := fun b u e z => by rw [z, hn] at e; cases e
  refine I.step (g' := s.gens) (d' := s.drawn) (ch := [it]) (fun b hb => ?_) (fun b o _ _ hc e _ => k b o (fun z => hc (by simp [z])) e) (fun b o _ _ hc e _ => ⟨o.slots, k b o (fun z => hc (by simp [z])) e⟩) (fun _ _ _ _ n => n)
    (fun b o hc e => ⟨o, k b o (fun z => hc (by simp [z])) e⟩) (fun _ _ e => e) (fun _ _ _ e => e) (fun b ps e => ⟨#[], by rw [e]; simp⟩) (fun m hm => ?_) (fun b u e => ?_) I.bare
  · have e : b = it := by simpa using hb
    subst e
    exact ⟨h1, hL, h2, h3⟩
  · obtain ⟨o, es, ep, ho, r⟩ := hm
    exact ⟨o, es, ep, k _ o (Ne.symm hL) ho, r⟩
  · refine (I.hok b u e).stay (fun c v hc q => k c v ?_ q) (fun _ q => q) fun _ _ q => q
    rcases hc with z | z
    · rw [z]; exact nit b u e
    · exact nit c _ z
theorem Inv.tok (I : Inv X pins σ H s) (t : Nat) : Inv X pins σ H { s with toks := t } := I.un (h' := s.heap) (t' := t) Un.refl I.hok
/-- all objects kept -/
theorem Inv.kept {t' : Nat} (I : Inv X pins σ H s) (k : ∀ b u, s.heap.get? b = some u → h'.get? b = some u) : Inv X pins σ H { s with heap := h', toks := t' } := I.un (Un.kept k) (I.hok.kept k)
/-- a new object laid and tracked -/
theorem Inv.laid {a : Addr} {o : HO} {t' : Nat} (I : Inv X pins σ H s) (k : ∀ b u, s.heap.get? b = some u → h'.get? b = some u) (hp : s.heap.objs.size ≤ a) (new : ObjOk X.prog X.w (upd H a o) h' a o) :
    Inv X pins σ (upd H a o) { s with heap := h', toks := t' } := I.un (Un.laid k hp (I.hok.fresh hp)) (I.hok.laid k hp new)
/-- an object written -/
theorem Inv.write {x e : Addr} {o : HO} {t' : Nat} (I : Inv X pins σ H s) (mu : Mut (H x)) (he : e = x ∨ H e = some (.own x)) (k : ∀ b u, b ≠ e → s.heap.get? b = some u → h'.get? b = some u) (heo : ∃ u, h'.get? e = some u)
    (new : ObjOk X.prog X.w (upd H x o) h' x o) : Inv X pins σ (upd H x o) { s with heap := h', toks := t' } := I.un (Un.write mu he k heo) (I.hok.write mu he k heo new)
theorem Inv.pins_of {pins' : List (Addr × Obj)} (I : Inv X pins σ H s) (h : ∀ p ∈ pins', s.heap.get? p.1 = some p.2 ∧ H p.1 = none ∧ p.1 ≠ X.env.locals ∧ p.1 ∉ X.fs ∧ ∀ v, p.2.data ≠ .cell v) : Inv X pins' σ H s :=
  ⟨I.ok, I.os, I.bare, I.base, I.loc, I.cell, I.free, I.freeC, fun p hp => (List.mem_append.mp hp).elim (fun z => I.pin p (List.mem_append_left _ z)) (h p), I.hok, I.len⟩

theorem nodup_ix {N : List Str} (hN : N.Nodup) {i j : Nat} {x : Str} (a : N[i]? = some x) (b : N[j]? = some x) : i = j := by
  obtain ⟨h1, e1⟩ := List.getElem?_eq_some_iff.mp a
  obtain ⟨h2, e2⟩ := List.getElem?_eq_some_iff.mp b
  exact (List.getElem_inj hN).mp (e1.trans e2.symm)

/-- a name is stored; what changed -/
theorem store_ok2 {M : Model} {A : Around} {E : Value → Shared → Prop} {i : Nat} {x : Str} {v : V} {u : Value} {Q : Unit → Shared → Prop} (I : Inv X pins σ H s) (hN : X.N.Nodup) (hi : X.N[i]? = some x) (hx : Loc X.env.scope x) (r : RelV v u)
    (h : ∀ s', Inv X pins (σ.set i (some v)) H s' → (∃ a, Heap.SameBut a s.heap s'.heap ∧ (a = X.env.locals ∨ X.env.cells.lookup x = some a)) → Q () s') (hf : X.fn x = true ∨ X.env.scope.names.lookup x = some .local := by first | exact .inl rfl | exact .inr rfl | assumption) : wpAny M A (storeName X.env x u) Q E s := by
  obtain ⟨m, hn, hl⟩ := id I.loc
  have hcls : (X.env.scope.kind == .class || (X.env.scope.kind == .module && X.env.locals != X.env.globals)) = false := by rw [I.ok.kind]; rfl
  have hiσ : i < σ.length := by rw [I.len]; exact (List.getElem?_eq_some_iff.mp hi).1
  have cne := I.cne
  have tracked : ∀ {a : Addr} {h' : Heap}, (∃ o, s.heap.get? a = some o ∧ H a = none) → Heap.SameBut a s.heap h' → HOk X.prog X.w H h' := fun {a h'} ha hs b ob e => by
    obtain ⟨_, _, hfree⟩ := ha
    refine (I.hok b ob e).stay (fun c w' hc q => (hs.2 c ?_).trans q) (fun _ q => q) fun _ _ q => q
    rintro rfl
    rcases hc with rfl | hc
    · rw [hfree] at e; cases e
    · rw [hfree] at hc; cases hc
  rcases hx with hk | hk
  · refine wpAny_storeName_local hk hn (fun h' hn' hs => ?_) hcls
    obtain ⟨oL, _, _, hoL, _⟩ := id hn
    refine h _ ⟨I.ok, I.os, I.bare, ⟨fun b o e n hb hx => ?_, fun b o e n hb hx => ?_, I.base.free, fun b o e hx => ?_, I.base.tups, I.base.frzs, I.base.tbls⟩, ⟨_, hn', fun j y v' e1 e2 e3 => ?_⟩, fun y c e => ?_, I.free, I.freeC, fun p hp => ?_, tracked ⟨oL, hoL, I.free⟩ hs, by simpa using I.len⟩ ⟨_, hs, .inl rfl⟩
    · exact (hs.2 b (Nat.ne_of_lt (Nat.lt_of_lt_of_le (Heap.lt_size e) I.ok.above))).trans (I.base.keep b o e n hb hx)
    · obtain ⟨sl, e1⟩ := I.base.slot b o e n hb hx
      exact ⟨sl, (hs.2 b (Nat.ne_of_lt (Nat.lt_of_lt_of_le (Heap.lt_size e) I.ok.above))).trans e1⟩
    · obtain ⟨o', e1⟩ := I.base.there b o e hx
      exact ⟨o', (hs.2 b (Nat.ne_of_lt (Nat.lt_of_lt_of_le (Heap.lt_size e) I.ok.above))).trans e1⟩
    · by_cases hj : j = i
      · subst hj
        rw [hi] at e1; cases e1
        rw [List.getElem?_set_self hiσ] at e2
        cases e2
        exact ⟨u, r, .inl ⟨hk, by simp⟩⟩
      · rw [List.getElem?_set_ne (Ne.symm hj)] at e2
        obtain ⟨u', r', q⟩ := hl j y v' e1 e2 e3
        refine ⟨u', r', ?_⟩
        rcases q with ⟨k, e⟩ | ⟨k, c, e, z⟩
        · refine .inl ⟨k, ?_⟩
          have : y ≠ x := fun e => hj (nodup_ix hN e1 (e ▸ hi))
          simp [this, e]
        · exact .inr ⟨k, c, e, z.sameBut hs (cne y c e)⟩
    · obtain ⟨w', z⟩ := I.cell y c e
      exact ⟨w', z.sameBut hs (cne y c e)⟩
    · obtain ⟨e, n, ne, nf, d⟩ := I.pin p hp
      exact ⟨(hs.2 p.1 ne).trans e, n, ne, nf, d⟩
  · have hfn : X.fn x = true := by
      rcases hf with z | z
      · exact z
      · rw [z] at hk; cases hk
    obtain ⟨c, hc⟩ := I.ok.has x (.inl hk)
    obtain ⟨w', z⟩ := I.cell x c hc
    refine wpAny_storeName_cell I.ok.kind hk hc z (fun h' hc' hs => ?_)
    obtain ⟨oc, hoc, hocd⟩ := id z
    refine h { s with heap := h' } ⟨I.ok, I.os, I.bare, ⟨fun b o e n hb hx => ?_, fun b o e n hb hx => ?_, I.base.free, fun b o e hx => ?_, I.base.tups, I.base.frzs, I.base.tbls⟩, ⟨m, hn.sameBut hs (Ne.symm (cne x c hc)), fun j y v' e1 e2 e3 => ?_⟩, fun y c' e => ?_, I.free, I.freeC, fun p hp => ?_, tracked ⟨oc, hoc, I.freeC x c hc⟩ hs, by simpa using I.len⟩ ⟨c, hs, .inr hc⟩
    · exact (hs.2 b (Nat.ne_of_lt (Nat.lt_of_lt_of_le (Heap.lt_size e) (I.ok.cab x c hfn hc)))).trans (I.base.keep b o e n hb hx)
    · obtain ⟨sl, e1⟩ := I.base.slot b o e n hb hx
      exact ⟨sl, (hs.2 b (Nat.ne_of_lt (Nat.lt_of_lt_of_le (Heap.lt_size e) (I.ok.cab x c hfn hc)))).trans e1⟩
    · obtain ⟨o', e1⟩ := I.base.there b o e hx
      exact ⟨o', (hs.2 b (Nat.ne_of_lt (Nat.lt_of_lt_of_le (Heap.lt_size e) (I.ok.cab x c hfn hc)))).trans e1⟩
    · by_cases hj : j = i
      · subst hj
        rw [hi] at e1; cases e1
        rw [List.getElem?_set_self hiσ] at e2
        cases e2
        exact ⟨u, r, .inr ⟨.inl hk, c, hc, hc'⟩⟩
      · rw [List.getElem?_set_ne (Ne.symm hj)] at e2
        obtain ⟨u', r', q⟩ := hl j y v' e1 e2 e3
        refine ⟨u', r', ?_⟩
        rcases q with q | ⟨k, c', e, z'⟩
        · exact .inl q
        · refine .inr ⟨k, c', e, z'.sameBut hs ?_⟩
          rintro rfl
          exact hj (nodup_ix hN e1 (I.ok.inj _ _ _ e hc ▸ hi))
    · by_cases hcc : c' = c
      · subst hcc; exact ⟨_, hc'⟩
      · obtain ⟨w2, z2⟩ := I.cell y c' e
        exact ⟨w2, z2.sameBut hs hcc⟩
    · obtain ⟨e, n, ne, nf, d⟩ := I.pin p hp
      refine ⟨(hs.2 p.1 ?_).trans e, n, ne, nf, d⟩
      intro q
      rw [q, hoc] at e
      have q' : oc = p.2 := Option.some.inj e
      exact d w' (by rw [← q']; exact hocd)
theorem store_ok {M : Model} {A : Around} {E : Value → Shared → Prop} {i : Nat} {x : Str} {v : V} {u : Value} {Q : Unit → Shared → Prop} (I : Inv X pins σ H s) (hN : X.N.Nodup) (hi : X.N[i]? = some x) (hx : Loc X.env.scope x) (r : RelV v u)
    (h : ∀ s', Inv X pins (σ.set i (some v)) H s' → Q () s') (hf : X.fn x = true ∨ X.env.scope.names.lookup x = some .local := by first | exact .inl rfl | exact .inr rfl | assumption) : wpAny M A (storeName X.env x u) Q E s :=
  store_ok2 I hN hi hx r (fun s' I' _ => h s' I') hf
/-- behind a call or a block, the state as it is -/
theorem Inv.call' {s' : Shared} {ch : List Addr} (I : Inv X pins σ H s) (ho : s'.os = s.os) (u : Un (frs X.stack) ch H H' s.heap s'.heap) (hok : HOk X.prog X.w H' s'.heap) (hg : AllBare s'.gens)
    (hch : ∀ b ∈ ch, (b ∈ X.ex ∨ X.s₀.heap.objs.size ≤ b) ∧ b ≠ X.env.locals ∧ (∀ x c, X.env.cells.lookup x = some c → c ≠ b) ∧ ∀ p ∈ X.pn ++ pins, p.1 ≠ b) : Inv X pins σ H' s' := by
  obtain ⟨h', g', d', t', o'⟩ := s'
  have e : o' = s.os := ho
  subst e
  exact I.call (g' := g') (t' := t') (d' := d') u hok hg hch
end

/-- an exception: its class, its own dict's address (where it has one), the abstract heap behind it -/
abbrev XK := Value → Option Addr → Hp → Prop
abbrev St := List (Option V)
abbrev VK := V → Hp → Prop
/-- an expression's reading; a test's; an argument list's -/
abbrev TE := St → Hp → VK → Prop
abbrev TT := St → Hp → (Bool → Hp → Prop) → Prop
abbrev TA := St → Hp → (List V → Hp → Prop) → Prop
/-- what is wanted behind a statement -/
structure Ends where
  nx : St → Hp → Prop
  rt : VK
  bk : St → Hp → Prop := fun _ _ => False
  ct : St → Hp → Prop := fun _ _ => False
abbrev TS := Ends → St → Hp → Prop

def EP (X : Cx) (pins : List (Addr × Obj)) (σ : St) (Q : VK) (u : Value) (s' : Shared) : Prop := ∃ v H', Inv X pins σ H' s' ∧ RelV v u ∧ Q v H'
def TP (X : Cx) (pins : List (Addr × Obj)) (σ : St) (Q : Bool → Hp → Prop) (b : Bool) (s' : Shared) : Prop := ∃ H', Inv X pins σ H' s' ∧ Q b H'
def AP (X : Cx) (pins : List (Addr × Obj)) (σ : St) (Q : List V → Hp → Prop) (us : List Value) (s' : Shared) : Prop := ∃ vs H', Inv X pins σ H' s' ∧ Vals vs us ∧ Q vs H'
def SP (X : Cx) (pins : List (Addr × Obj)) (D : Ends) (f : Flow) (s' : Shared) : Prop :=
  match f with
  | .next => ∃ σ' H', Inv X pins σ' H' s' ∧ D.nx σ' H'
  | .brk => ∃ σ' H', Inv X pins σ' H' s' ∧ D.bk σ' H'
  | .cont => ∃ σ' H', Inv X pins σ' H' s' ∧ D.ct σ' H'
  | .ret u => ∃ v σ' H', Inv X pins σ' H' s' ∧ RelV v u ∧ D.rt v H'

def PE (X : Cx) (e : Expr) (t : TE) : Prop :=
  ∀ (pins : List (Addr × Obj)) (s : Shared) (σ : St) (H : Hp) (Q : VK), Inv X pins σ H s → t σ H Q → wpAny (model X.prog X.w) X.A (eval e X.env) (EP X pins σ Q) X.xe s
def PT (X : Cx) (e : Expr) (t : TT) : Prop :=
  ∀ (pins : List (Addr × Obj)) (s : Shared) (σ : St) (H : Hp) (Q : Bool → Hp → Prop), Inv X pins σ H s → t σ H Q → wpAny (model X.prog X.w) X.A (isTrue e X.env (eval e X.env)) (TP X pins σ Q) X.xe s
/-- a test whatever its 'whole' is (and, or) -/
def PW (X : Cx) (e : Expr) (t : TT) : Prop :=
  ∀ (whole : Sem Value) (pins : List (Addr × Obj)) (s : Shared) (σ : St) (H : Hp) (Q : Bool → Hp → Prop), Inv X pins σ H s → t σ H Q → wpAny (model X.prog X.w) X.A (isTrue e X.env whole) (TP X pins σ Q) X.xe s
theorem PW.pt {X : Cx} {e : Expr} {t : TT} (h : PW X e t) : PT X e t := h _
/-- an argument list (no star), from the left -/
def PA (X : Cx) (es : List Expr) (t : TA) : Prop :=
  ∀ (pos : Pos) (pins : List (Addr × Obj)) (s : Shared) (σ : St) (H : Hp) (Q : List V → Hp → Prop), Inv X pins σ H s → t σ H Q → wpAny (model X.prog X.w) X.A (spliced (backTo pos (starEach es X.env))) (AP X pins σ Q) X.xe s
def PS (X : Cx) (st : Stmt) (t : TS) : Prop :=
  ∀ (pins : List (Addr × Obj)) (s : Shared) (σ : St) (H : Hp) (D : Ends), Inv X pins σ H s → t D σ H → wpAny (model X.prog X.w) X.A (exec st X.env) (SP X pins D) X.xe s
def PSs (X : Cx) (st : List Stmt) (t : TS) : Prop :=
  ∀ (pins : List (Addr × Obj)) (s : Shared) (σ : St) (H : Hp) (D : Ends), Inv X pins σ H s → t D σ H → wpAny (model X.prog X.w) X.A (execs st X.env) (SP X pins D) X.xe s
/-- weaken the end -/
theorem thn {α : Type} {t : Sem α} {Q Q' : α → Shared → Prop} {M : Model} {A : Around} {E : Value → Shared → Prop} {s : Shared} (h : wpAny M A t Q E s) (hQ : ∀ a s, Q a s → Q' a s) : wpAny M A t Q' E s := wpAny_mono h hQ fun _ _ x => x
end L2

namespace L2
open PySem PySem.Spec PyProof.Rows
section
variable {X : Cx}

/-- two expressions in a row -/
theorem bin {a b : Expr} {ta tb : TE} (ha : PE X a ta) (hb : PE X b tb) {pins : List (Addr × Obj)} {s : Shared} {σ : St} {H : Hp} {R : V → V → Hp → Prop} (I : Inv X pins σ H s) (h : ta σ H fun x H1 => tb σ H1 fun y H2 => R x y H2)
    {α : Type} {Q : α → Shared → Prop} {f : Value → Value → Sem α}
    (hf : ∀ v u s2 x y H2, Inv X pins σ H2 s2 → RelV x v → RelV y u → R x y H2 → wpAny (model X.prog X.w) X.A (f v u) Q X.xe s2) :
    wpAny (model X.prog X.w) X.A (eval a X.env) (fun v s₁ => wpAny (model X.prog X.w) X.A (eval b X.env) (fun u s₂ => wpAny (model X.prog X.w) X.A (f v u) Q X.xe s₂) X.xe s₁) X.xe s := by
  refine thn (ha pins s σ H _ I h) fun v s1 ⟨x, H1, I1, r1, q1⟩ => ?_
  refine thn (hb pins s1 σ H1 _ I1 q1) fun u s2 ⟨y, H2, I2, r2, q2⟩ => ?_
  exact hf v u s2 x y H2 I2 r1 r2 q2

def tVar (i : Nat) : TE := fun σ H Q => ∃ v, σ[i]? = some (some v) ∧ Q v H
def tC (v : V) : TE := fun _ H Q => Q v H
theorem pe_var {i : Nat} {x : Str} {pos : Pos} (hN : X.N[i]? = some x) (hv : Vis X.env.scope x) (hd : (x == ("__debug__" : Str)) = false := by decide) (hcd : (x == ("__classdict__" : Str)) = false := by decide) : PE X (.Name x pos) (tVar i) := by
  intro pins s σ H Q I h
  obtain ⟨v, e, h⟩ := h
  obtain ⟨m, hn, hl⟩ := I.loc
  obtain ⟨u, r, l⟩ := hl i x v hN e hv
  have fin : EP X pins σ Q u s := ⟨v, H, I, r, h⟩
  rcases l with ⟨hk, hm⟩ | ⟨hk, c, hc, hcell⟩
  · exact wpAny_Name (wpAny_loadName_local I.ok.kind hk hn hm fin) hd
  · rcases hk with hk | hk
    · exact wpAny_Name (wpAny_loadName_cell I.ok.kind hk hc hcell fin) hd
    · exact wpAny_Name (wpAny_loadName_free I.ok.kind hk hc hcell fin hcd) hd
theorem pe_int {i j pos} : PE X (.Constant (.int i) j pos) (tC (.int i)) := fun _ _ _ H _ I h => wpAny_Constant_int ⟨.int i, H, I.tok _, ⟨_, rfl⟩, h⟩
theorem pe_bl {b j pos} : PE X (.Constant (.bool b) j pos) (tC (.bl b)) := fun _ _ _ H _ I h => Constant_bool ⟨.bl b, H, I, rfl, h⟩
theorem pe_non {j pos} : PE X (.Constant .none j pos) (tC .non) := fun _ _ _ H _ I h => Constant_none ⟨.non, H, I, rfl, h⟩
theorem pe_str {x j pos} : PE X (.Constant (.str x) j pos) (tC (.str x)) := fun _ _ _ H _ I h => Calls.Constant_str ⟨.str x, H, I.tok _, ⟨_, rfl⟩, h⟩

/-- a global name of the def -/
def Gl (X : Cx) (x : Str) : Prop := X.env.kindOf x = some .globalImplicit
theorem ld_glob {E : Value → Shared → Prop} {pins : List (Addr × Obj)} {s : Shared} {σ : St} {H : Hp} {x : Str} {u : Value} {pos : Pos} {Q : Value → Shared → Prop} (I : Inv X pins σ H s) (hg : Gl X x) (hm : X.mg x = some u) (h : Q u s)
    (hd : (x == ("__debug__" : Str)) = false := by decide) : wpAny (model X.prog X.w) X.A (eval (.Name x pos) X.env) Q E s :=
  Calls.Name_function_global I.ok.kind hg (Calls.loadGlobal_global (by rw [I.ok.glob]; exact I.mod.glob.keeps I.bk) hm h) hd
theorem ld_blt {E : Value → Shared → Prop} {pins : List (Addr × Obj)} {s : Shared} {σ : St} {H : Hp} {x : Str} {u : Value} {pos : Pos} {Q : Value → Shared → Prop} (I : Inv X pins σ H s) (hg : Gl X x) (hm : X.mg x = none) (hv : bootBuiltins x = some u) (h : Q u s)
    (hn : x ≠ "__name__" := by decide) (hd : (x == ("__debug__" : Str)) = false := by decide) : wpAny (model X.prog X.w) X.A (eval (.Name x pos) X.env) Q E s := by
  obtain ⟨mb, h1, h2⟩ := I.mod.blt
  exact Calls.Name_function_global I.ok.kind hg (Calls.loadGlobal_builtin (by rw [I.ok.glob]; exact I.mod.glob.keeps I.bk) hm (by rw [I.ok.blt]; exact h1.keeps I.bk) ((h2 x hn).trans hv) h) hd
/-- a module's constant, a class, a function, as a value -/
theorem pe_glob {x : Str} {v : V} {u : Value} {pos : Pos} (hg : Gl X x) (hm : X.mg x = some u) (r : RelV v u) (hd : (x == ("__debug__" : Str)) = false := by decide) : PE X (.Name x pos) (tC v) :=
  fun _ _ _ H _ I h => ld_glob I hg hm ⟨v, H, I, r, h⟩ hd
theorem pe_bltn {x : Str} {v : V} {u : Value} {pos : Pos} (hg : Gl X x) (hm : X.mg x = none) (hv : bootBuiltins x = some u) (r : RelV v u) (hn : x ≠ "__name__" := by decide) (hd : (x == ("__debug__" : Str)) = false := by decide) : PE X (.Name x pos) (tC v) :=
  fun _ _ _ H _ I h => ld_blt I hg hm hv ⟨v, H, I, r, h⟩ hn hd

/-- two ints -/
def t2I (ta tb : TE) (k : Int → Int → Hp → Prop) : St → Hp → Prop := fun σ H => ta σ H fun x H1 => tb σ H1 fun y H2 => ∃ i j, x = .int i ∧ y = .int j ∧ k i j H2
variable {a b : Expr} {ta tb : TE} {pos : Pos}
def PC (X : Cx) (op : CmpOp) (a b : Expr) (t : TE) : Prop :=
  ∀ (pins : List (Addr × Obj)) (s : Shared) (σ : St) (H : Hp) (Q : VK), Inv X pins σ H s → t σ H Q →
    wpAny (model X.prog X.w) X.A (eval a X.env) (fun v s₁ => wpAny (model X.prog X.w) X.A (eval b X.env) (fun u s₂ => wpAny (model X.prog X.w) X.A (compareOp op v u) (EP X pins σ Q) X.xe s₂) X.xe s₁) X.xe s
def tCmp (p : Int → Int → Bool) (ta tb : TE) : TE := fun σ H Q => t2I ta tb (fun i j H2 => Q (.bl (p i j)) H2) σ H
abbrev tLt : TE → TE → TE := tCmp fun i j => decide (i < j)
/-- a comparison of two ints, by its rule -/
theorem pc_int {op : CmpOp} {p : Int → Int → Bool} (ha : PE X a ta) (hb : PE X b tb)
    (rule : ∀ (i j : Int) (t u : Tok) (Q : Value → Shared → Prop) (s : Shared), Q (.bool (p i j)) s → wpAny (model X.prog X.w) X.A (compareOp op (.int i t) (.int j u)) Q X.xe s) : PC X op a b (tCmp p ta tb) := by
  intro pins s σ H Q I h
  refine bin ha hb I h fun v u s2 x y H2 I2 rx ry q => ?_
  obtain ⟨i, j, rfl, rfl, q⟩ := q
  obtain ⟨t, rfl⟩ := rx
  obtain ⟨t', rfl⟩ := ry
  exact rule i j t t' _ s2 ⟨.bl _, H2, I2, rfl, q⟩
theorem pc_lt (ha : PE X a ta) (hb : PE X b tb) : PC X .Lt a b (tLt ta tb) := pc_int ha hb fun _ _ _ _ _ _ h => lt_int h
/-- a comparison as a value, as a test -/
def tB (t : TE) : TT := fun σ H Q => t σ H fun x H1 => ∃ c, x = .bl c ∧ Q c H1
/-- an expression whose value is a bool, as a test -/
theorem pt_val {e : Expr} {t : TE} (h : PE X e t) (he : ∀ whole, isTrue e X.env whole = (do let v ← whole; standAt e.pos; holding [v] (truthy v)) := by intro _; rfl) : PT X e (tB t) := by
  intro pins s σ H Q I hw
  refine isTrue_plain (thn (h pins s σ H _ I hw) fun v s1 ⟨x, H1, I1, r1, q1⟩ => ?_) (he _)
  obtain ⟨d, rfl, q⟩ := q1
  cases r1
  exact wpAny_truthy_bool ⟨H1, I1, q⟩

variable {tA tB' : TT} {rest : List Expr}
def tAnd (t u : TT) : TT := fun σ H Q => t σ H fun c H1 => if c = true then u σ H1 Q else Q false H1
def tOr (t u : TT) : TT := fun σ H Q => t σ H fun c H1 => if c = true then Q true H1 else u σ H1 Q
def tNot (t : TT) : TT := fun σ H Q => t σ H fun c H1 => Q (!c) H1
theorem pw_and1 (ha : PT X a tA) : PW X (.BoolOp .And [a] pos) tA := by
  intro wh pins s σ H Q I h
  refine isTrue_and (thn (ha pins s σ H Q I h) fun c s1 e => ?_)
  cases c with
  | true => exact isTrue_and_nil e
  | false => exact e
theorem pw_or1 (ha : PT X a tA) : PW X (.BoolOp .Or [a] pos) tA := by
  intro wh pins s σ H Q I h
  refine isTrue_or (thn (ha pins s σ H Q I h) fun c s1 e => ?_)
  cases c with
  | false => exact isTrue_or_nil e
  | true => exact e
theorem pw_and (ha : PT X a tA) (hb : PW X (.BoolOp .And (b :: rest) pos) tB') : PW X (.BoolOp .And (a :: b :: rest) pos) (tAnd tA tB') := by
  intro wh pins s σ H Q I h
  refine isTrue_and (thn (ha pins s σ H _ I h) fun c s1 ⟨H1, I1, q1⟩ => ?_)
  cases c with
  | true => exact hb wh pins s1 σ H1 Q I1 q1
  | false => exact ⟨H1, I1, q1⟩
theorem pw_or (ha : PT X a tA) (hb : PW X (.BoolOp .Or (b :: rest) pos) tB') : PW X (.BoolOp .Or (a :: b :: rest) pos) (tOr tA tB') := by
  intro wh pins s σ H Q I h
  refine isTrue_or (thn (ha pins s σ H _ I h) fun c s1 ⟨H1, I1, q1⟩ => ?_)
  cases c with
  | true => exact ⟨H1, I1, q1⟩
  | false => exact hb wh pins s1 σ H1 Q I1 q1
theorem pt_not (ha : PT X a tA) : PT X (.UnaryOp .Not a pos) (tNot tA) := by
  intro pins s σ H Q I h
  exact isTrue_not (ha pins s σ H (fun c H1 => Q (!c) H1) I h)
/-- .. as values (bools) -/
def tAndV (ta tb : TE) : TE := fun σ H Q => ta σ H fun x H1 => ∃ c, x = .bl c ∧ if c = true then tb σ H1 Q else Q (.bl false) H1
def tOrV (ta tb : TE) : TE := fun σ H Q => ta σ H fun x H1 => ∃ c, x = .bl c ∧ if c = true then Q (.bl true) H1 else tb σ H1 Q
def tNotV (ta : TE) : TE := fun σ H Q => ta σ H fun x H1 => ∃ c, x = .bl c ∧ Q (.bl (!c)) H1
theorem pe_one {op} {t : TE} (h : PE X a t) : PE X (.BoolOp op [a] pos) t := fun pins s σ H Q I hw => BoolOp_one (h pins s σ H Q I hw)
theorem pe_and (ha : PE X a ta) (hb : PE X (.BoolOp .And (b :: rest) pos) tb) : PE X (.BoolOp .And (a :: b :: rest) pos) (tAndV ta tb) := by
  intro pins s σ H Q I h
  refine BoolOp_and (thn (ha pins s σ H _ I h) fun v s1 ⟨x, H1, I1, r1, q1⟩ => ?_)
  obtain ⟨c, rfl, q1⟩ := q1
  cases r1
  refine wpAny_truthy_bool ?_
  cases c with
  | true => exact hb pins s1 σ H1 Q I1 q1
  | false => exact ⟨.bl false, H1, I1, rfl, q1⟩
theorem pe_or (ha : PE X a ta) (hb : PE X (.BoolOp .Or (b :: rest) pos) tb) : PE X (.BoolOp .Or (a :: b :: rest) pos) (tOrV ta tb) := by
  intro pins s σ H Q I h
  refine BoolOp_or (thn (ha pins s σ H _ I h) fun v s1 ⟨x, H1, I1, r1, q1⟩ => ?_)
  obtain ⟨c, rfl, q1⟩ := q1
  cases r1
  refine wpAny_truthy_bool ?_
  cases c with
  | false => exact hb pins s1 σ H1 Q I1 q1
  | true => exact ⟨.bl true, H1, I1, rfl, q1⟩
theorem pe_not (ha : PE X a ta) : PE X (.UnaryOp .Not a pos) (tNotV ta) := by
  intro pins s σ H Q I h
  refine UnaryOp_ (thn (ha pins s σ H _ I h) fun v s1 ⟨x, H1, I1, r1, q1⟩ => ?_)
  obtain ⟨c, rfl, q1⟩ := q1
  cases r1
  exact not_of (wpAny_truthy_bool ⟨.bl (!c), H1, I1, rfl, q1⟩)
/-- a if t else b -/
def tIf (t : TT) (ta tb : TE) : TE := fun σ H Q => t σ H fun c H1 => if c = true then ta σ H1 Q else tb σ H1 Q
theorem pe_ifExp {c : Expr} (hc : PT X c tA) (ha : PE X a ta) (hb : PE X b tb) : PE X (.IfExp c a b pos) (tIf tA ta tb) := by
  intro pins s σ H Q I h
  refine wpAny_IfExp (thn (hc pins s σ H _ I h) fun d s1 ⟨H1, I1, q1⟩ => ?_)
  cases d with
  | true => exact ha pins s1 σ H1 Q I1 q1
  | false => exact hb pins s1 σ H1 Q I1 q1
end
end L2

namespace L2
open PySem PySem.Spec PyProof.Rows

def SqL (K : PySem.W.Frag) (H : Hp) (a : Addr) (xs : List V) : Prop :=
  Rd H a (.lst xs) ∨
    ∃ (o : Obj) (its : Array Value) (n : Nat), K.lookup a = some o ∧ o.cls = .type "list" ∧ o.dict = none ∧ o.data = .seq its n ∧ its.size ≤ sizeLine ∧ Vals xs its.toList
def SqT (K : PySem.W.Frag) (H : Hp) (a : Addr) (xs : List V) : Prop :=
  Rd H a (.tup xs) ∨
    ∃ (o : Obj) (its : Array Value) (n : Nat), K.lookup a = some o ∧ o.cls = .type "tuple" ∧ o.data = .seq its n ∧ its.size ≤ sizeLine ∧ Vals xs its.toList
def absV : Value → Option V
  | .none => some .non
  | .bool b => some (.bl b)
  | .int i _ => some (.int i)
  | .str x _ => some (.str x)
  | .bytes b _ => some (.byt b)
  | .float b _ => some (.flt b)
  | .ref a => some (.ref a)
  | .type n => some (.ty n)
  | _ => none
theorem RelV.abs {x : V} {u : Value} (r : RelV x u) : absV u = some x := by
  cases x with
  | non => cases r; rfl
  | bl _ => cases r; rfl
  | int _ => obtain ⟨t, rfl⟩ := r; rfl
  | str _ => obtain ⟨t, rfl⟩ := r; rfl
  | byt _ => obtain ⟨t, rfl⟩ := r; rfl
  | flt _ => obtain ⟨t, rfl⟩ := r; rfl
  | ref _ => cases r; rfl
  | ty _ => cases r; rfl
theorem RelV.inj {x y : V} {u : Value} (r : RelV x u) (q : RelV y u) : x = y := Option.some.inj (r.abs.symm.trans q.abs)
theorem Vals.inj : ∀ {xs ys : List V} {us : List Value}, Vals xs us → Vals ys us → xs = ys
  | _, _, _, .nil, .nil => rfl
  | _, _, _, .cons r t, .cons r' t' => by rw [r.inj r', Vals.inj t t']
section
variable {X : Cx} {pins : List (Addr × Obj)} {σ : St} {H : Hp} {s : Shared} {a : Addr} {xs ys : List V}
theorem SqL.of {K : PySem.W.Frag} (h : H a = some (.lst xs)) : SqL K H a xs := .inl (.inl h)
theorem SqT.of {K : PySem.W.Frag} (h : H a = some (.tup xs)) : SqT K H a xs := .inl (.inl h)
theorem Inv.list (I : Inv X pins σ H s) (h : SqL X.K H a xs) : ∃ its : List Value, Vals xs its ∧ PlainL s.heap a its.toArray ∧ xs.length ≤ sizeLine := by
  rcases h with h | ⟨o, its, n, hk, hc, hd, hs, hz, r⟩
  · obtain ⟨z, its, n, r, e⟩ := h.ok I.hok
    exact ⟨its, r, ⟨_, n, e, rfl, rfl, rfl⟩, z⟩
  · refine ⟨its.toList, r, ⟨o, n, I.kIn a o hk, hc, hd, by simpa using hs⟩, ?_⟩
    have e := r.length
    simp only [Array.length_toList] at e
    omega
theorem Inv.tuple (I : Inv X pins σ H s) (h : SqT X.K H a xs) : ∃ its : List Value, Vals xs its ∧ IsTup s.heap a its.toArray ∧ xs.length ≤ sizeLine := by
  rcases h with h | ⟨o, its, n, hk, hc, hs, hz, r⟩
  · obtain ⟨z, its, r, p⟩ := h.ok I.hok
    exact ⟨its, r, p, z⟩
  · refine ⟨its.toList, r, ⟨o, I.kIn a o hk, hc, n, by simpa using hs⟩, ?_⟩
    have e := r.length
    simp only [Array.length_toList] at e
    omega
theorem Inv.list_inj (I : Inv X pins σ H s) (h : SqL X.K H a xs) (h' : SqL X.K H a ys) : xs = ys := by
  obtain ⟨its, r, ⟨o, n, e, _, _, d⟩, _⟩ := I.list h
  obtain ⟨its', r', ⟨o', n', e', _, _, d'⟩, _⟩ := I.list h'
  rw [e] at e'; cases e'
  rw [d] at d'
  injection d' with d1 _
  have : its = its' := by simpa using congrArg Array.toList d1
  subst this
  exact r.inj r'
theorem Inv.tuple_inj (I : Inv X pins σ H s) (h : SqT X.K H a xs) (h' : SqT X.K H a ys) : xs = ys := by
  obtain ⟨its, r, ⟨o, e, _, n, d⟩, _⟩ := I.tuple h
  obtain ⟨its', r', ⟨o', e', _, n', d'⟩, _⟩ := I.tuple h'
  rw [e] at e'; cases e'
  rw [d] at d'
  injection d' with d1 _
  have : its = its' := by simpa using congrArg Array.toList d1
  subst this
  exact r.inj r'
end

abbrev Cx.wish (X : Cx) (E : Value → Shared → Prop) : Cx := { X with xe := E }
/-- no exception leaves -/
abbrev Cx.nox (X : Cx) : Cx := X.wish fun _ _ => False
theorem Cx.Ok.wish {X : Cx} (ok : X.Ok) (E : Value → Shared → Prop) : (X.wish E).Ok :=
  ⟨ok.mod, ok.kind, ok.glob, ok.blt, ok.above, ok.inj, ok.has, ok.cab, ok.hd, ok.frames, ok.stk, ok.exf, ok.bs, ok.bsz, ok.noex, ok.exfs, ok.funs, ok.frf⟩
theorem Cx.Ok.unwish {X : Cx} {E : Value → Shared → Prop} (ok : (X.wish E).Ok) : X.Ok :=
  ⟨ok.mod, ok.kind, ok.glob, ok.blt, ok.above, ok.inj, ok.has, ok.cab, ok.hd, ok.frames, ok.stk, ok.exf, ok.bs, ok.bsz, ok.noex, ok.exfs, ok.funs, ok.frf⟩
section
variable {X : Cx} {pins : List (Addr × Obj)} {σ : St} {H : Hp} {s : Shared} {E : Value → Shared → Prop}
theorem Inv.wish (I : Inv X pins σ H s) (E : Value → Shared → Prop) : Inv (X.wish E) pins σ H s := ⟨I.ok.wish E, I.os, I.bare, I.base, I.loc, I.cell, I.free, I.freeC, I.pin, I.hok, I.len⟩
theorem Inv.unwish (I : Inv (X.wish E) pins σ H s) : Inv X pins σ H s := ⟨I.ok.unwish, I.os, I.bare, I.base, I.loc, I.cell, I.free, I.freeC, I.pin, I.hok, I.len⟩
theorem SP.unwish {D : Ends} {f : Flow} {s' : Shared} (h : SP (X.wish E) pins D f s') : SP X pins D f s' := by
  cases f with
  | next => obtain ⟨σ', H', I, q⟩ := h; exact ⟨σ', H', I.unwish, q⟩
  | brk => obtain ⟨σ', H', I, q⟩ := h; exact ⟨σ', H', I.unwish, q⟩
  | cont => obtain ⟨σ', H', I, q⟩ := h; exact ⟨σ', H', I.unwish, q⟩
  | ret u => obtain ⟨v, σ', H', I, r, q⟩ := h; exact ⟨v, σ', H', I.unwish, r, q⟩
theorem PE.nox {e : Expr} {t : TE} (h : PE X.nox e t) : PE X e t := fun pins s σ H Q I hw =>
  wpAny_mono (h pins s σ H Q (I.wish _) hw) (fun _ _ ⟨v, H', I', r, q⟩ => ⟨v, H', I'.unwish, r, q⟩) fun _ _ z => False.elim z
theorem PT.nox {e : Expr} {t : TT} (h : PT X.nox e t) : PT X e t := fun pins s σ H Q I hw =>
  wpAny_mono (h pins s σ H Q (I.wish _) hw) (fun _ _ ⟨H', I', q⟩ => ⟨H', I'.unwish, q⟩) fun _ _ z => False.elim z
theorem PSs.nox {st : List Stmt} {t : TS} (h : PSs X.nox st t) : PSs X st t := fun pins s σ H D I hw =>
  wpAny_mono (h pins s σ H D (I.wish _) hw) (fun _ _ q => q.unwish) fun _ _ z => False.elim z
end

section
variable {X : Cx} {st : Stmt} {rest : List Stmt} {t u : TS} {e : Expr} {te : TE} {pos : Pos}
def tNext : TS := fun D σ H => D.nx σ H
def tSeq (t u : TS) : TS := fun D σ H => t { D with nx := u D } σ H
theorem pss_nil : PSs X [] tNext := fun _ _ σ H _ I h => wpAny_execs_nil ⟨σ, H, I, h⟩
theorem pss_cons (h1 : PS X st t) (h2 : PSs X rest u) : PSs X (st :: rest) (tSeq t u) := by
  intro pins s σ H D I h
  refine wpAny_execs_cons (thn (h1 pins s σ H { D with nx := u D } I h) fun f s1 q => ?_)
  cases f with
  | next =>
    obtain ⟨σ', H', I', q⟩ := q
    exact h2 pins s1 σ' H' D I' q
  | ret v => exact q
  | brk => exact q
  | cont => exact q
theorem pss_one (h1 : PS X st t) : PSs X [st] t := by
  intro pins s σ H D I h
  refine wpAny_execs_cons (thn (h1 pins s σ H D I h) fun f s1 q => ?_)
  cases f with
  | next => exact wpAny_execs_nil q
  | ret v => exact q
  | brk => exact q
  | cont => exact q
def tBreak : TS := fun D σ H => D.bk σ H
theorem ps_break : PS X (.Break pos) tBreak := fun _ _ σ H _ I h => wpAny_Break ⟨σ, H, I, h⟩
/-- in a def's body nothing is shown -/
theorem Inv.quiet {pins : List (Addr × Obj)} {σ : St} {H : Hp} {s : Shared} (I : Inv X pins σ H s) : interactive X.env = false := by simp [interactive, I.ok.kind]
/-- an expression whose value is dropped -/
def tDrop (te : TE) : TS := fun D σ H => te σ H fun _ H1 => D.nx σ H1
theorem ps_expr (he : PE X e te) (hs : swapsWith e none pos.line X.env = pure false := by rfl) : PS X (.Expr e pos) (tDrop te) := by
  intro pins s σ H D I h
  exact wpAny_Expr_any (thn (he pins s σ H _ I h) fun v s1 ⟨x, H1, I1, r1, q1⟩ => ⟨σ, H1, I1, q1⟩) I.quiet hs
def tRet (te : TE) : TS := fun D σ H => te σ H D.rt
theorem ps_ret (he : PE X e te) : PS X (.Return (some e) pos) (tRet te) := by
  intro pins s σ H D I h
  exact wpAny_Return_some (thn (he pins s σ H _ I h) fun v s1 ⟨x, H1, I1, r1, q1⟩ => ⟨x, σ, H1, I1, r1, q1⟩)
def tIfS (c : TT) (t u : TS) : TS := fun D σ H => c σ H fun b H1 => if b = true then t D σ H1 else u D σ H1
theorem ps_if {c : Expr} {a b : List Stmt} {tc : TT} (hc : PT X c tc) (ha : PSs X a t) (hb : PSs X b u) : PS X (.If c a b pos) (tIfS tc t u) := by
  intro pins s σ H D I h
  refine wpAny_If (thn (hc pins s σ H _ I h) fun d s1 ⟨H1, I1, q1⟩ => ?_)
  cases d with
  | true => exact ha pins s1 σ H1 D I1 q1
  | false => exact hb pins s1 σ H1 D I1 q1
/-- code that the proof never comes to -/
def tNever : TS := fun _ _ _ => False
theorem ps_never : PS X st tNever := fun _ _ _ _ _ _ h => h.elim
end

abbrev TG := V → St → Hp → (St → Hp → Prop) → Prop
abbrev TGs := List V → St → Hp → (St → Hp → Prop) → Prop
def PG (X : Cx) (target : Expr) (t : TG) : Prop :=
  ∀ (pins : List (Addr × Obj)) (s : Shared) (σ : St) (H : Hp) (v : V) (u : Value) (Q : St → Hp → Prop), Inv X pins σ H s → RelV v u → t v σ H Q →
    wpAny (model X.prog X.w) X.A (assign target X.env u) (fun _ s' => ∃ σ' H', Inv X pins σ' H' s' ∧ Q σ' H') X.xe s
/-- several targets, one after another -/
def PGs (X : Cx) (ts : List Expr) (t : TGs) : Prop :=
  ∀ (pins : List (Addr × Obj)) (s : Shared) (σ : St) (H : Hp) (vs : List V) (us : List Value) (Q : St → Hp → Prop), Inv X pins σ H s → Vals vs us → t vs σ H Q →
    wpAny (model X.prog X.w) X.A (assignInOrder ((assignEach ts X.env).map (·.2)) us) (fun _ s' => ∃ σ' H', Inv X pins σ' H' s' ∧ Q σ' H') X.xe s
/-- o[i] = v, by values -/
abbrev TSet := V → V → V → Hp → (Hp → Prop) → Prop
def PSet (X : Cx) (t : TSet) : Prop :=
  ∀ (pins : List (Addr × Obj)) (s : Shared) (σ : St) (H : Hp) (o i v : V) (ov iv u : Value) (Q : Hp → Prop), Inv X pins σ H s → RelV o ov → RelV i iv → RelV v u → t o i v H Q →
    wpAny (model X.prog X.w) X.A (setItem ov iv u) (fun _ s' => ∃ H', Inv X pins σ H' s' ∧ Q H') X.xe s
section
variable {X : Cx} {pos : Pos}
def gName (i : Nat) : TG := fun v σ H Q => Q (σ.set i (some v)) H
theorem pg_name {i : Nat} {x : Str} (hN : X.N.Nodup) (hi : X.N[i]? = some x) (hx : Loc X.env.scope x) (hf : X.fn x = true ∨ X.env.scope.names.lookup x = some .local := by first | exact .inl rfl | exact .inr rfl | assumption) : PG X (.Name x pos) (gName i) := by
  intro pins s σ H v u Q I r h
  exact wpAny_assign_Name (store_ok I hN hi hx r (fun s' I' => ⟨_, H, I', h⟩) hf)
def gNil : TGs := fun vs σ H Q => vs = [] ∧ Q σ H
def gCons (t : TG) (u : TGs) : TGs := fun vs σ H Q => ∃ v r, vs = v :: r ∧ t v σ H fun σ' H' => u r σ' H' Q
theorem pgs_nil : PGs X [] gNil := by
  intro pins s σ H vs us Q I r h
  obtain ⟨e, h⟩ := h
  subst e
  cases r
  exact assignInOrder_nil ⟨σ, H, I, h⟩
theorem pgs_cons {e : Expr} {es : List Expr} {t : TG} {u : TGs} (h1 : PG X e t) (h2 : PGs X es u)
    (hs : (assignEach (e :: es) X.env).map (·.2) = assign e X.env :: (assignEach es X.env).map (·.2) := by rfl) : PGs X (e :: es) (gCons t u) := by
  intro pins s σ H vs us Q I r h
  obtain ⟨v, vr, e1, h⟩ := h
  subst e1
  cases r with
  | cons r rr =>
    rw [hs]
    refine assignInOrder_cons (thn (h1 pins s σ H _ _ _ I r h) fun _ s1 ⟨σ1, H1, I1, q1⟩ => ?_)
    exact h2 pins s1 σ1 H1 _ _ Q I1 rr q1
/-- (a, b, ..) = a tuple of that length -/
def gTup (K : PySem.W.Frag) (n : Nat) (t : TGs) : TG := fun v σ H Q => ∃ a xs, v = .ref a ∧ SqT K H a xs ∧ xs.length = n ∧ t xs σ H Q
theorem pg_tup {es : List Expr} {k : Nat} {t : TGs} {n : Nat} (hc : X.calm = true) (h : PGs X es t)
    (hn : (assignEach es X.env).length = n := by rfl) (hst : (assignEach es X.env).findIdx? (·.1) = none := by rfl) : PG X (.Tuple es k pos) (gTup X.K n t) := by
  intro pins s σ H v u Q I r hw
  obtain ⟨a, xs, e1, hq, hl, hw⟩ := hw
  subst e1
  cases r
  obtain ⟨its, rv, ht, hz⟩ := I.tuple hq
  refine assign_Tuple_tuple (I.ok.hd hc) ht (by simp [hn, ← hl, rv.length]) hst fun h' hx => ?_
  have I1 : Inv X pins σ H { s with heap := h' } := I.kept (t' := s.toks) fun b o e => hx b o (Nat.ne_of_lt (Heap.lt_size e)) e
  exact h pins _ σ H xs _ Q I1 (by simpa using rv) hw
/-- o[i] = .. -/
def gSub (to ti : TE) (t : TSet) : TG := fun v σ H Q => to σ H fun o H1 => ti σ H1 fun i H2 => t o i v H2 fun H3 => Q σ H3
theorem pg_sub {o i : Expr} {to ti : TE} {t : TSet} (ho : PE X o to) (hi : PE X i ti) (hs : PSet X t)
    (ha : ∀ v, assign (.Subscript o i pos) X.env v = (do
      let ov ← holding [v] (eval o X.env)
      let iv ← holding [v, ov] (eval i X.env)
      standAt pos
      holding [v, ov, iv] (setItem ov iv v)
      release [v, ov, iv] []) := by intro _; rfl) : PG X (.Subscript o i pos) (gSub to ti t) := by
  intro pins s σ H v u Q I r h
  rw [ha]
  refine wpAny_bind (wpAny_holding (thn (ho pins s σ H _ I h) fun ov s1 ⟨x, H1, I1, r1, q1⟩ => ?_))
  refine wpAny_bind (wpAny_holding (thn (hi pins s1 σ H1 _ I1 q1) fun iv s2 ⟨y, H2, I2, r2, q2⟩ => ?_))
  refine wpAny_bind (wpAny_standAt (wpAny_bind (wpAny_holding (thn (hs pins s2 σ H2 x y v ov iv u _ I2 r1 r2 r q2) fun _ s3 ⟨H3, I3, q3⟩ => ?_))))
  exact wpAny_release ⟨σ, H3, I3, q3⟩
/-- target = value -/
def tAsg (te : TE) (g : TG) : TS := fun D σ H => te σ H fun x H1 => g x σ H1 D.nx
theorem ps_asg {tg e : Expr} {te : TE} {g : TG} (he : PE X e te) (hg : PG X tg g) (hs : swapsWithSole [tg] e pos.line X.env = pure false := by rfl) (hw : swappedStores [tg] e X.env = pure none := by rfl)
    (h1 : (assignEach [tg] X.env).map (·.2) = [assign tg X.env] := by rfl) : PS X (.Assign [tg] e pos) (tAsg te g) := by
  intro pins s σ H D I h
  refine wpAny_Assign_stores (thn (he pins s σ H _ I h) fun v s1 ⟨x, H1, I1, r1, q1⟩ => ?_) hs hw
  rw [h1]
  exact thn (hg pins s1 σ H1 x v _ I1 r1 q1) fun _ s2 q => q
/-- name = value -/
theorem ps_set {i : Nat} {x : Str} {e : Expr} {te : TE} {pos' : Pos} (hN : X.N.Nodup) (hi : X.N[i]? = some x) (hx : Loc X.env.scope x) (he : PE X e te) (hs : swapsWith e (some (.Name x pos')) pos.line X.env = pure false := by rfl) (hf : X.fn x = true ∨ X.env.scope.names.lookup x = some .local := by first | exact .inl rfl | exact .inr rfl | assumption) :
    PS X (.Assign [.Name x pos'] e pos) (tAsg te (gName i)) := by
  intro pins s σ H D I h
  refine wpAny_Assign_Name (thn (he pins s σ H _ I h) fun v s1 ⟨y, H1, I1, r1, q1⟩ => ?_) hs
  exact store_ok I1 hN hi hx r1 (fun s2 I2 => ⟨_, H1, I2, q1⟩) hf
/-- a, b = x, y with plain local names: stored from the right; the pair itself is not tracked (the opening rows as in PyProof/Rows/TupAssign.lean:23) -/
def tPar (i j : Nat) (ta : TA) : TS := fun D σ H => ta σ H fun vs H1 => ∃ v w, vs = [v, w] ∧ D.nx ((σ.set i (some v)).set j (some w)) H1
end

section
variable {X : Cx} {pos : Pos}
/-- the invariant W with its measure -/
def tWhile (c : TT) (tb : TS) : TS := fun D σ H => ∃ W : Nat → St → Hp → Prop, (∃ m, W m σ H) ∧ ∀ m σ H, W m σ H →
  c σ H fun b H1 => if b = true then ∃ N : St → Hp → Prop, (∀ σ' H', N σ' H' → ∃ m', m' < m ∧ W m' σ' H') ∧ tb { D with nx := N, ct := N, bk := D.nx } σ H1 else D.nx σ H1
theorem ps_while {c : Expr} {body : List Stmt} {tc : TT} {tb : TS} (hp : PassesOwn (model X.prog X.w) X.A X.env X.xe) (hc : PT X c tc) (hb : PSs X body tb) : PS X (.While c body [] pos) (tWhile tc tb) := by
  intro pins s σ H D I h
  obtain ⟨W, ⟨m0, w0⟩, turn⟩ := h
  refine wpAny_While (codeAny_whileLoop (fun n s' => ∃ σ' H', Inv X pins σ' H' s' ∧ W n σ' H') ?_ m0 ⟨σ, H, I, w0⟩)
  rintro n s1 ⟨σ1, H1, I1, w1⟩
  refine wpAny_passesOwn hp (thn (hc pins s1 σ1 H1 _ I1 (turn n σ1 H1 w1)) fun b s2 ⟨H2, I2, q2⟩ => ?_)
  cases b with
  | true =>
    obtain ⟨N, hN, q2⟩ := q2
    rw [if_pos rfl]
    refine wpAny_passesOwn hp (thn (hb pins s2 σ1 H2 _ I2 q2) fun f s3 q3 => ?_)
    cases f with
    | next =>
      obtain ⟨σ3, H3, I3, n3⟩ := q3
      obtain ⟨m', hm, w3⟩ := hN σ3 H3 n3
      exact ⟨m', hm, σ3, H3, I3, w3⟩
    | cont =>
      obtain ⟨σ3, H3, I3, n3⟩ := q3
      obtain ⟨m', hm, w3⟩ := hN σ3 H3 n3
      exact ⟨m', hm, σ3, H3, I3, w3⟩
    | brk => exact q3
    | ret v => exact q3
  | false =>
    rw [if_neg Bool.false_ne_true]
    exact wpAny_execs_nil ⟨σ1, H2, I2, q2⟩
end

/-- at turn i: it yields x (the heap may grow), or it stops -/
structure It where
  go : Nat → Hp → Prop
  yld : Nat → Hp → V → Hp → Prop
  stop : Nat → Hp → Prop
/-- the iterator's own objects may turn: they are not the frame's, not pinned, younger than the entry (or a comprehension's own) -/
def FpOk (X : Cx) (pins : List (Addr × Obj)) (H : Hp) (b : Addr) : Prop :=
  H b = none ∧ b ≠ X.env.locals ∧ b ∉ X.fs ∧ (b ∈ X.ex ∨ X.s₀.heap.objs.size ≤ b) ∧ (∀ x c, X.env.cells.lookup x = some c → c ≠ b) ∧ ∀ p ∈ X.pn ++ pins, p.1 ≠ b
theorem Inv.fpOk {X : Cx} {pins : List (Addr × Obj)} {σ : St} {H H' : Hp} {s : Shared} {b : Addr} (I : Inv X pins σ H s) (hb : s.heap.objs.size ≤ b) (hn : H' b = none) : FpOk X pins H' b := by
  refine ⟨hn, Nat.ne_of_gt (Nat.lt_of_lt_of_le I.lt hb), I.nofs hb, .inr (Nat.le_trans I.sz hb), fun x c e z => ?_, fun p hp z => ?_⟩
  · obtain ⟨v, q⟩ := I.cell x c e
    exact absurd (Nat.lt_of_lt_of_le q.lt (by rw [z]; exact hb)) (Nat.lt_irrefl _)
  · exact absurd (Nat.lt_of_lt_of_le (Heap.lt_size (I.pin p hp).1) (by rw [z]; exact hb)) (Nat.lt_irrefl _)
structure Turn (P : Program) (w : World) (K : PySem.W.Frag) (tg : Expr) (J : It) (fp : List Addr) (it : Addr) (tn : Nat → Heap → Prop) : Prop where
  mem : it ∈ fp
  obj : ∀ i h, tn i h → ∀ b ∈ fp, ∃ o, h.get? b = some o ∧ ∀ v, o.data ≠ .cell v
  keep : ∀ i h h', tn i h → (∀ b ∈ fp, ∀ o, h.get? b = some o → h'.get? b = some o) → tn i h'
  item : ∀ (X : Cx), X.prog = P → X.w = w → X.K = K → X.calm = true → ∀ (i : Nat) (pins : List (Addr × Obj)) (s : Shared) (σ : St) (H : Hp) (E : Value → Shared → Prop), Inv X pins σ H s → (∀ b ∈ fp, FpOk X pins H b) → tn i s.heap → J.go i H →
    wpAny (model P w) X.A (pyNext (.ref it)) (fun r s1 => ∃ u, r = some u ∧
      wpAny (model P w) X.A (letOwnedTupleGo tg (.ref it) u) (fun _ s2 => ∃ x H', Inv X pins σ H' s2 ∧ RelV x u ∧ J.yld i H x H' ∧ tn (i + 1) s2.heap ∧ ∀ b ∈ fp, H' b = none) E s1) E s
  done : ∀ (X : Cx), X.prog = P → X.w = w → X.K = K → X.calm = true → ∀ (i : Nat) (pins : List (Addr × Obj)) (s : Shared) (σ : St) (H : Hp) (E : Value → Shared → Prop), Inv X pins σ H s → (∀ b ∈ fp, FpOk X pins H b) → tn i s.heap → J.stop i H →
    wpAny (model P w) X.A (pyNext (.ref it)) (fun r s1 => r = none ∧ Inv X pins σ H s1) E s
  self : ∀ (A : Around) (i : Nat) (s : Shared) (Q : Value → Shared → Prop) (E : Value → Shared → Prop), tn i s.heap → Q (.ref it) s → wpAny (model P w) A (pyIter (.ref it)) Q E s
abbrev TI := St → Hp → (It → Hp → Prop) → Prop
/-- an iterator has come -/
def PIE (X : Cx) (pins : List (Addr × Obj)) (σ : St) (tg : Expr) (R : It → Hp → Prop) (itv : Value) (s2 : Shared) : Prop :=
  ∃ (it : Addr) (fp : List Addr) (tn : Nat → Heap → Prop) (J : It) (H' : Hp), itv = .ref it ∧ Inv X pins σ H' s2 ∧ Turn X.prog X.w X.K tg J fp it tn ∧ tn 0 s2.heap ∧ (∀ b ∈ fp, FpOk X pins H' b) ∧ R J H'
def PI (X : Cx) (tg iter : Expr) (wi : TI) : Prop :=
  ∀ (pins : List (Addr × Obj)) (s : Shared) (σ : St) (H : Hp) (R : It → Hp → Prop), Inv X pins σ H s → wi σ H R →
    wpAny (model X.prog X.w) X.A (eval iter X.env) (fun v s1 => wpAny (model X.prog X.w) X.A (pyIter v) (PIE X pins σ tg R) X.xe s1) X.xe s

/-- the step ahead of the store is nothing for an iterator that keeps no tuple -/
theorem go_of {M : Model} {A : Around} {E : Value → Shared → Prop} {s : Shared} {tg : Expr} {it : Addr} {u : Value} {o : Obj} {n : String} {vs : Array Value} {Q : Unit → Shared → Prop} (ho : s.heap.get? it = some o) (hc : o.cls = .type n) (hd : o.data = .fields vs)
    (hn : ["enumerate", "zip", "dict_itemiterator", "dict_reverseitemiterator", "odict_iterator", "itertools.zip_longest", "itertools.pairwise"].contains n = false) (hQ : Q () s) : wpAny M A (letOwnedTupleGo tg (.ref it) u) Q E s := by
  unfold letOwnedTupleGo
  cases tg <;> first
    | exact wpAny_pure hQ
    | (cases u <;> first
        | exact wpAny_pure hQ
        | (refine wpAny_bind (wpAny_load ho ?_)
           rw [hc, hd]
           show wpAny M A (if (["enumerate", "zip", "dict_itemiterator", "dict_reverseitemiterator", "odict_iterator", "itertools.zip_longest", "itertools.pairwise"].contains n && vs[0]? == some (rawInt _)) = true then _ else _) Q E s
           rw [if_neg (by intro h; rw [hn, Bool.false_and] at h; cases h)]
           exact wpAny_pure hQ))

/-- the list at a, as it stands at each turn (a loop may append to it) -/
def Itl (K : PySem.W.Frag) (a : Addr) : It :=
  ⟨fun i H => ∃ xs x, SqL K H a xs ∧ xs[i]? = some x, fun i H x H' => H' = H ∧ ∀ xs, SqL K H a xs → xs[i]? = some x, fun i H => ∃ xs, SqL K H a xs ∧ xs.length ≤ i⟩
def Itt (K : PySem.W.Frag) (a : Addr) : It :=
  ⟨fun i H => ∃ xs x, SqT K H a xs ∧ xs[i]? = some x, fun i H x H' => H' = H ∧ ∀ xs, SqT K H a xs → xs[i]? = some x, fun i H => ∃ xs, SqT K H a xs ∧ xs.length ≤ i⟩
/-- lo, lo + 1, .. (n of them) -/
def Itr (lo : Int) (n : Nat) : It := ⟨fun i _ => i < n, fun i H x H' => H' = H ∧ x = .int (lo + i), fun i _ => n ≤ i⟩
theorem turn_list {P : Program} {w : World} {K : PySem.W.Frag} {tg : Expr} (a it : Addr) : Turn P w K tg (Itl K a) [it] it (fun i h => h.IsListIter it a i) where
  mem := by simp
  obj := fun i h st b hb => by
    have e : b = it := by simpa using hb
    subst e
    obtain ⟨o, e, c, d⟩ := st
    exact ⟨o, e, fun v z => by rw [d] at z; cases z⟩
  keep := fun i h h' st k => st.at fun o e => k it (by simp) o e
  item := by
    intro X hP hw hK hc i pins s σ H E I hf st hg
    subst hP hw hK
    obtain ⟨xs, x, hq, hx⟩ := hg
    obtain ⟨its, rv, p, hz⟩ := I.list hq
    obtain ⟨u, hu, ru⟩ := rv.get hx
    obtain ⟨f0, f1, f2, f3, f4, f5⟩ := hf it (by simp)
    refine wpAny_pyNext_list_item st p.isList (x := u) (by simpa using hu) fun h' st' sb => ?_
    have I1 : Inv X pins σ H { s with heap := h' } := I.turned (t' := s.toks) (fun b o hb e => (sb.2 b hb).trans e) f0 f1 f3 f4 f5
    obtain ⟨o, e, c, d⟩ := id st'
    exact ⟨u, rfl, go_of (s := { s with heap := h' }) e c d (by decide) ⟨x, H, I1, ru, ⟨rfl, fun ys hy => by rw [I.list_inj hy hq]; exact hx⟩, st', fun b hb => (hf b hb).1⟩⟩
  done := by
    intro X hP hw hK hc i pins s σ H E I hf st hg
    subst hP hw hK
    obtain ⟨xs, hq, hx⟩ := hg
    obtain ⟨its, rv, p, hz⟩ := I.list hq
    obtain ⟨f0, f1, f2, f3, f4, f5⟩ := hf it (by simp)
    have hl := rv.length
    exact wpAny_pyNext_list_end (I.ok.hd hc) st p.isList (by simp; omega) fun h' eb => ⟨rfl, I.turned (t' := s.toks) (fun b o hb e => eb b o hb e) f0 f1 f3 f4 f5⟩
  self := fun _ _ _ _ _ st h => wpAny_pyIter_listiter st h
theorem turn_tuple {P : Program} {w : World} {K : PySem.W.Frag} {tg : Expr} (a it : Addr) : Turn P w K tg (Itt K a) [it] it (fun i h => h.IsTupleIter it a i) where
  mem := by simp
  obj := fun i h st b hb => by
    have e : b = it := by simpa using hb
    subst e
    obtain ⟨o, e, c, d⟩ := st
    exact ⟨o, e, fun v z => by rw [d] at z; cases z⟩
  keep := fun i h h' st k => st.at fun o e => k it (by simp) o e
  item := by
    intro X hP hw hK hc i pins s σ H E I hf st hg
    subst hP hw hK
    obtain ⟨xs, x, hq, hx⟩ := hg
    obtain ⟨its, rv, p, hz⟩ := I.tuple hq
    obtain ⟨u, hu, ru⟩ := rv.get hx
    obtain ⟨f0, f1, f2, f3, f4, f5⟩ := hf it (by simp)
    refine wpAny_pyNext_tuple_item st (show s.heap.IsTuple a its.toArray from p) (x := u) (by simpa using hu) fun h' st' sb => ?_
    have I1 : Inv X pins σ H { s with heap := h' } := I.turned (t' := s.toks) (fun b o hb e => (sb.2 b hb).trans e) f0 f1 f3 f4 f5
    obtain ⟨o, e, c, d⟩ := id st'
    exact ⟨u, rfl, go_of (s := { s with heap := h' }) e c d (by decide) ⟨x, H, I1, ru, ⟨rfl, fun ys hy => by rw [I.tuple_inj hy hq]; exact hx⟩, st', fun b hb => (hf b hb).1⟩⟩
  done := by
    intro X hP hw hK hc i pins s σ H E I hf st hg
    subst hP hw hK
    obtain ⟨xs, hq, hx⟩ := hg
    obtain ⟨its, rv, p, hz⟩ := I.tuple hq
    obtain ⟨f0, f1, f2, f3, f4, f5⟩ := hf it (by simp)
    have hl := rv.length
    exact wpAny_pyNext_tuple_end (I.ok.hd hc) st (show s.heap.IsTuple a its.toArray from p) (by simp; omega) fun h' eb => ⟨rfl, I.turned (t' := s.toks) (fun b o hb e => eb b o hb e) f0 f1 f3 f4 f5⟩
  self := fun _ _ _ _ _ st h => wpAny_pyIter_tupleiter st h
theorem turn_range {P : Program} {w : World} {K : PySem.W.Frag} {tg : Expr} (it : Addr) (lo : Int) (n : Nat) : Turn P w K tg (Itr lo n) [it] it (fun i h => IsRangeIter h it (lo + (i : Nat) * 1) ((n : Int) - (i : Nat)) 1) where
  mem := by simp
  obj := fun i h st b hb => by
    have e : b = it := by simpa using hb
    subst e
    exact ⟨_, st, fun v z => by
      have z' : Data.fields _ = Data.cell v := z
      cases z'⟩
  keep := fun i h h' st k => k it (by simp) _ st
  item := by
    intro X hP hw hK hc i pins s σ H E I hf st hg
    subst hP hw hK
    obtain ⟨f0, f1, f2, f3, f4, f5⟩ := hf it (by simp)
    have W := Walks.range (prog := X.prog) (w := X.w) (I.ok.hd hc) it lo 1 n
    refine W.item i s _ _ hg st fun v h' tk hv st' kk => ?_
    obtain ⟨t, rfl⟩ := hv
    have I1 : Inv X pins σ H { s with heap := h', toks := tk } := I.turned (fun b o hb e => kk b o (by simpa using hb) e) f0 f1 f3 f4 f5
    refine ⟨_, rfl, go_of (s := { s with heap := h', toks := tk }) (n := "range_iterator") st' rfl rfl (by decide) ⟨.int (lo + i), H, I1, ⟨t, ?_⟩, ⟨rfl, rfl⟩, st', fun b hb => (hf b hb).1⟩⟩
    rw [Int.mul_one]
  done := by
    intro X hP hw hK hc i pins s σ H E I hf st hg
    subst hP hw hK
    obtain ⟨f0, f1, f2, f3, f4, f5⟩ := hf it (by simp)
    exact wpAny_pyNext_range_end (I.ok.hd hc) st (by have : n ≤ i := hg; omega) fun h' eb => ⟨rfl, I.turned (t' := s.toks) (fun b o hb e => eb b o hb e) f0 f1 f3 f4 f5⟩
  self := fun _ _ _ _ _ st h => wpAny_pyIter_rangeiter st h
end L2

namespace L2
open PySem PySem.Spec PyProof.Rows
section
variable {X : Cx} {tg : Expr}
def iList (K : PySem.W.Frag) (tl : TE) : TI := fun σ H R => tl σ H fun x H1 => ∃ a, x = .ref a ∧ (∃ xs, SqL K H1 a xs) ∧ R (Itl K a) H1
def iTup (K : PySem.W.Frag) (tl : TE) : TI := fun σ H R => tl σ H fun x H1 => ∃ a, x = .ref a ∧ (∃ xs, SqT K H1 a xs) ∧ R (Itt K a) H1
theorem pi_list {l : Expr} {tl : TE} (hl : PE X l tl) : PI X tg l (iList X.K tl) := by
  intro pins s σ H R I h
  refine thn (hl pins s σ H _ I h) fun v s1 ⟨x, H1, I1, r1, q1⟩ => ?_
  obtain ⟨a, e, ⟨xs, hq⟩, q⟩ := q1
  subst e
  cases r1
  obtain ⟨its, rv, p, hz⟩ := I1.list hq
  refine wpAny_pyIter_list p.isList ?_
  refine ⟨s1.heap.objs.size, [s1.heap.objs.size], _, _, H1, rfl, I1.kept (t' := s1.toks) fun b o e => Heap.get?_push_of_some _ e, turn_list a _, ⟨_, Heap.get?_push_size _ rfl, rfl, rfl⟩, fun b hb => ?_, q⟩
  have e : b = s1.heap.objs.size := by simpa using hb
  subst e
  exact I1.fpOk (Nat.le_refl _) (I1.hok.fresh (Nat.le_refl _))
theorem pi_tup {l : Expr} {tl : TE} (hl : PE X l tl) : PI X tg l (iTup X.K tl) := by
  intro pins s σ H R I h
  refine thn (hl pins s σ H _ I h) fun v s1 ⟨x, H1, I1, r1, q1⟩ => ?_
  obtain ⟨a, e, ⟨xs, hq⟩, q⟩ := q1
  subst e
  cases r1
  obtain ⟨its, rv, p, hz⟩ := I1.tuple hq
  refine wpAny_pyIter_tuple (show s1.heap.IsTuple a its.toArray from p) ?_
  refine ⟨s1.heap.objs.size, [s1.heap.objs.size], _, _, H1, rfl, I1.kept (t' := s1.toks) fun b o e => Heap.get?_push_of_some _ e, turn_tuple a _, ⟨_, Heap.get?_push_size _ rfl, rfl, rfl⟩, fun b hb => ?_, q⟩
  have e : b = s1.heap.objs.size := by simpa using hb
  subst e
  exact I1.fpOk (Nat.le_refl _) (I1.hok.fresh (Nat.le_refl _))
/-- a range object just made, walked -/
theorem range_it {pins : List (Addr × Obj)} {σ : St} {H : Hp} {s : Shared} {R : It → Hp → Prop} {E : Value → Shared → Prop} {lo hi : Int} {t u v : Tok} {tk : Nat} (I : Inv X pins σ H s) (h1 : -(2 ^ 62) ≤ lo) (h2 : lo < 2 ^ 62) (h3 : -(2 ^ 62) ≤ hi) (h4 : hi < 2 ^ 62)
    (q : R (Itr lo (hi - lo).toNat) H) : wpAny (model X.prog X.w) X.A (pyIter (.ref s.heap.objs.size)) (PIE X pins σ tg R) E { s with heap := s.heap.push { cls := .type "range", data := .fields #[.int lo t, .int hi u, .int 1 v] }, toks := tk } := by
  refine wpAny_pyIter_range (IsRange.new ..) (small_one h1 h2 h3 h4) ?_
  have I1 : Inv X pins σ H { s with heap := s.heap.push { cls := .type "range", data := .fields #[.int lo t, .int hi u, .int 1 v] }, toks := tk } := I.kept fun b o e => Heap.get?_push_of_some _ e
  refine ⟨(s.heap.push { cls := .type "range", data := .fields #[.int lo t, .int hi u, .int 1 v] }).objs.size, [(s.heap.push { cls := .type "range", data := .fields #[.int lo t, .int hi u, .int 1 v] }).objs.size], _, _, H, rfl,
    I1.kept (t' := tk) fun b o e => Heap.get?_push_of_some _ e, turn_range _ lo (hi - lo).toNat, ?_, fun b hb => ?_, q⟩
  · have e1 : lo + ((0 : Nat) : Int) * 1 = lo := by simp
    have e2 : (((hi - lo).toNat : Nat) : Int) - ((0 : Nat) : Int) = Builtin.Range.rangeSize lo hi 1 := by rw [rangeSize_one]; split <;> omega
    show IsRangeIter _ _ (lo + ((0 : Nat) : Int) * 1) ((((hi - lo).toNat : Nat) : Int) - ((0 : Nat) : Int)) 1
    rw [e1, e2]
    exact Heap.get?_push_size _ rfl
  · have e : b = (s.heap.push { cls := .type "range", data := .fields #[.int lo t, .int hi u, .int 1 v] }).objs.size := by simpa using hb
    subst e
    exact I1.fpOk (Nat.le_refl _) (I1.hok.fresh (Nat.le_refl _))
def iRng1 (ta : TA) : TI := fun σ H R => ta σ H fun vs H1 => ∃ j : Int, vs = [.int j] ∧ -(2 ^ 62) ≤ j ∧ j < 2 ^ 62 ∧ R (Itr 0 j.toNat) H1
def iRng2 (ta : TA) : TI := fun σ H R => ta σ H fun vs H1 => ∃ i j : Int, vs = [.int i, .int j] ∧ (-(2 ^ 62) ≤ i ∧ i < 2 ^ 62 ∧ -(2 ^ 62) ≤ j ∧ j < 2 ^ 62) ∧ R (Itr i (j - i).toNat) H1
theorem pi_range1 {a : Expr} {ta : TA} {p pos : Pos} (hg : Gl X "range") (hm : X.mg "range" = none) (ha : PA X [a] ta) (hs : starEach [a] X.env = [(false, eval a X.env)] := by rfl) : PI X tg (.Call (.Name "range" p) [a] [] pos) (iRng1 ta) := by
  intro pins s σ H R I h
  refine Call_ (ld_blt I hg hm boot_range (PyProof.Rows.callWith_type1 (thn (ha pos pins s σ H _ I h) fun us s1 ⟨vs, H1, I1, r1, q1⟩ => ?_) hs rfl))
  obtain ⟨j, e, q1, q2, q⟩ := q1
  subst e
  cases r1 with
  | cons r rr =>
    cases rr
    obtain ⟨t, rfl⟩ := r
    exact call_range_1 (range_it I1 (by omega) (by omega) q1 q2 (by simpa using q))
/-- W: the invariant by the turn and a measure; N: what the body is to reach -/
def tFor (wi : TI) (g : TG) (tb : TS) : TS := fun D σ H => wi σ H fun J H1 => ∃ W : Nat → Nat → St → Hp → Prop, (∃ m, W 0 m σ H1) ∧ ∀ i m σ H, W i m σ H →
  (J.stop i H ∧ D.nx σ H) ∨ (J.go i H ∧ ∃ N : St → Hp → Prop, (∀ σ' H', N σ' H' → ∃ m', m' < m ∧ W (i + 1) m' σ' H') ∧ ∀ x H', J.yld i H x H' → g x σ H' fun σ2 H2 => tb { D with nx := N, ct := N, bk := D.nx } σ2 H2)
/-- the records at fp as they stand -/
def pinsAt (fp : List Addr) (h : Heap) : List (Addr × Obj) := fp.filterMap fun b => (h.get? b).map fun o => (b, o)
theorem mem_pinsAt {fp : List Addr} {h : Heap} {b : Addr} {o : Obj} (hb : b ∈ fp) (e : h.get? b = some o) : (b, o) ∈ pinsAt fp h := List.mem_filterMap.mpr ⟨b, hb, by rw [e]; rfl⟩
theorem of_pinsAt {fp : List Addr} {h : Heap} {p : Addr × Obj} (hp : p ∈ pinsAt fp h) : p.1 ∈ fp ∧ h.get? p.1 = some p.2 := by
  obtain ⟨b, hb, e⟩ := List.mem_filterMap.mp hp
  cases q : h.get? b with
  | none => rw [q] at e; cases e
  | some o =>
    rw [q] at e
    have e' : (b, o) = p := Option.some.inj e
    subst e'
    exact ⟨hb, q⟩
theorem Inv.pinned {pins : List (Addr × Obj)} {σ : St} {H : Hp} {s : Shared} {fp : List Addr} (I : Inv X pins σ H s) (hf : ∀ b ∈ fp, FpOk X pins H b) (ho : ∀ b ∈ fp, ∃ o, s.heap.get? b = some o ∧ ∀ v, o.data ≠ .cell v) : Inv X (pins ++ pinsAt fp s.heap) σ H s :=
  I.pins_of fun p hp => (List.mem_append.mp hp).elim (fun z => I.pin p (List.mem_append_right _ z)) fun z => by
    obtain ⟨hb, e⟩ := of_pinsAt z
    obtain ⟨f0, f1, f2, _⟩ := hf p.1 hb
    obtain ⟨o, e', d⟩ := ho p.1 hb
    rw [e] at e'; cases e'
    exact ⟨e, f0, f1, f2, d⟩
theorem Inv.unpinned {pins pl : List (Addr × Obj)} {σ : St} {H : Hp} {s : Shared} (I : Inv X (pins ++ pl) σ H s) : Inv X pins σ H s := I.pins_of fun p hp => I.pin p (List.mem_append_right _ (List.mem_append_left _ hp))
theorem ps_for {iter : Expr} {body : List Stmt} {wi : TI} {g : TG} {tb : TS} {pos : Pos} (hp : PassesOwn (model X.prog X.w) X.A X.env X.xe) (hc : X.calm = true) (hi : PI X tg iter wi) (hg : PG X tg g) (hb : PSs X body tb)
    (hs : ∀ x, foldedSetIterable iter X.env x = pure x := by intro _; rfl) : PS X (.For tg iter body [] pos) (tFor wi g tb) := by
  intro pins s σ H D I h
  refine wpAny_For (thn (hi pins s σ H _ I h) fun v s1 h1 => thn h1 fun itv s2 h2 => ?_) hs
  obtain ⟨it, fp, tn, J, H2, e, I2, T, st2, f2, W, ⟨m0, w0⟩, turn⟩ := h2
  subst e
  -- what stays true of the iterator's objects through the loop
  have stat : ∀ {H' : Hp}, (∀ b ∈ fp, H' b = none) → ∀ b ∈ fp, FpOk X pins H' b := fun hn b hb => ⟨hn b hb, (f2 b hb).2⟩
  refine codeAny_forLoop_any (fun n s' => ∃ i σ' H', Inv X pins σ' H' s' ∧ tn i s'.heap ∧ (∀ b ∈ fp, H' b = none) ∧ W i n σ' H') ?_ m0 ⟨0, σ, H2, I2, st2, fun b hb => (f2 b hb).1, w0⟩
  rintro n s3 ⟨i, σ3, H3, I3, st3, fr3, w3⟩
  rcases turn i n σ3 H3 w3 with ⟨stop, qn⟩ | ⟨go, N, hN, step⟩
  · refine wpAny_passesOwn hp (thn (T.done X rfl rfl rfl hc i pins s3 σ3 H3 X.xe I3 (stat fr3) st3 stop) fun r s4 ⟨hr, I4⟩ => ?_)
    subst hr
    exact wpAny_execs_nil ⟨σ3, H3, I4, qn⟩
  · refine wpAny_passesOwn hp (thn (T.item X rfl rfl rfl hc i pins s3 σ3 H3 X.xe I3 (stat fr3) st3 go) fun r s4 ⟨u, hr, h4⟩ => ?_)
    subst hr
    refine wpAny_passesOwn hp (thn h4 fun _ s5 ⟨x, H5, I5, r5, y5, st5, fr5⟩ => ?_)
    have I5' := I5.pinned (stat fr5) (T.obj _ _ st5)
    refine wpAny_passesOwn hp (thn (hg _ s5 σ3 H5 x u _ I5' r5 (step x H5 y5)) fun _ s6 ⟨σ6, H6, I6, q6⟩ => ?_)
    refine wpAny_passesOwn hp (thn (hb _ s6 σ6 H6 _ I6 q6) fun f s7 q7 => ?_)
    have again : ∀ {σ7 : St} {H7 : Hp}, Inv X (pins ++ pinsAt fp s5.heap) σ7 H7 s7 → N σ7 H7 → ∃ m, m < n ∧ ∃ i σ' H', Inv X pins σ' H' s7 ∧ tn i s7.heap ∧ (∀ b ∈ fp, H' b = none) ∧ W i m σ' H' := fun {σ7 H7} I7 n7 => by
      obtain ⟨m', hm, w7⟩ := hN σ7 H7 n7
      refine ⟨m', hm, i + 1, σ7, H7, I7.unpinned, T.keep _ _ _ st5 fun b hb o e => (I7.pin (b, o) (List.mem_append_right _ (List.mem_append_right _ (mem_pinsAt hb e)))).1, fun b hb => ?_, w7⟩
      obtain ⟨o, e, d⟩ := T.obj _ _ st5 b hb
      exact (I7.pin (b, o) (List.mem_append_right _ (List.mem_append_right _ (mem_pinsAt hb e)))).2.1
    cases f with
    | next => obtain ⟨σ7, H7, I7, n7⟩ := q7; exact again I7 n7
    | cont => obtain ⟨σ7, H7, I7, n7⟩ := q7; exact again I7 n7
    | brk => obtain ⟨σ7, H7, I7, q7⟩ := q7; exact ⟨σ7, H7, I7.unpinned, q7⟩
    | ret v => obtain ⟨x7, σ7, H7, I7, r7, q7⟩ := q7; exact ⟨x7, σ7, H7, I7.unpinned, r7, q7⟩
end

/-- over a list that the body leaves as it is -/
theorem for_list {K : PySem.W.Frag} {a : Addr} {xs : List V} {g : TG} {tb : TS} {D : Ends} {σ : St} {H : Hp} (Pv : Nat → St → Hp → Prop) (h0 : Pv 0 σ H) (hl : ∀ i σ H, i ≤ xs.length → Pv i σ H → SqL K H a xs)
    (hs : ∀ i x σ H, xs[i]? = some x → Pv i σ H → g x σ H fun σ2 H2 => tb { D with nx := Pv (i + 1), ct := Pv (i + 1), bk := D.nx } σ2 H2) (hd : ∀ σ H, Pv xs.length σ H → D.nx σ H) :
    ∃ W : Nat → Nat → St → Hp → Prop, (∃ m, W 0 m σ H) ∧ ∀ i m σ H, W i m σ H →
      ((Itl K a).stop i H ∧ D.nx σ H) ∨ ((Itl K a).go i H ∧ ∃ N : St → Hp → Prop, (∀ σ' H', N σ' H' → ∃ m', m' < m ∧ W (i + 1) m' σ' H') ∧ ∀ x H', (Itl K a).yld i H x H' → g x σ H' fun σ2 H2 => tb { D with nx := N, ct := N, bk := D.nx } σ2 H2) := by
  refine ⟨fun i m σ H => m = xs.length - i ∧ i ≤ xs.length ∧ Pv i σ H, ⟨xs.length, by simp, Nat.zero_le _, h0⟩, ?_⟩
  rintro i m σ H ⟨rfl, hi, p⟩
  have q := hl i σ H hi p
  by_cases hlt : i < xs.length
  · refine .inr ⟨⟨xs, xs[i], q, by simp [hlt]⟩, Pv (i + 1), fun σ' H' p' => ⟨xs.length - (i + 1), by omega, rfl, hlt, p'⟩, fun x H' y => ?_⟩
    obtain ⟨e, y⟩ := y
    subst e
    exact hs i x σ _ (y xs q) p
  · have e : i = xs.length := by omega
    subst e
    exact .inl ⟨⟨xs, q, Nat.le_refl _⟩, hd σ H p⟩
theorem for_tup {K : PySem.W.Frag} {a : Addr} {xs : List V} {g : TG} {tb : TS} {D : Ends} {σ : St} {H : Hp} (Pv : Nat → St → Hp → Prop) (h0 : Pv 0 σ H) (hl : ∀ i σ H, i ≤ xs.length → Pv i σ H → SqT K H a xs)
    (hs : ∀ i x σ H, xs[i]? = some x → Pv i σ H → g x σ H fun σ2 H2 => tb { D with nx := Pv (i + 1), ct := Pv (i + 1), bk := D.nx } σ2 H2) (hd : ∀ σ H, Pv xs.length σ H → D.nx σ H) :
    ∃ W : Nat → Nat → St → Hp → Prop, (∃ m, W 0 m σ H) ∧ ∀ i m σ H, W i m σ H →
      ((Itt K a).stop i H ∧ D.nx σ H) ∨ ((Itt K a).go i H ∧ ∃ N : St → Hp → Prop, (∀ σ' H', N σ' H' → ∃ m', m' < m ∧ W (i + 1) m' σ' H') ∧ ∀ x H', (Itt K a).yld i H x H' → g x σ H' fun σ2 H2 => tb { D with nx := N, ct := N, bk := D.nx } σ2 H2) := by
  refine ⟨fun i m σ H => m = xs.length - i ∧ i ≤ xs.length ∧ Pv i σ H, ⟨xs.length, by simp, Nat.zero_le _, h0⟩, ?_⟩
  rintro i m σ H ⟨rfl, hi, p⟩
  have q := hl i σ H hi p
  by_cases hlt : i < xs.length
  · refine .inr ⟨⟨xs, xs[i], q, by simp [hlt]⟩, Pv (i + 1), fun σ' H' p' => ⟨xs.length - (i + 1), by omega, rfl, hlt, p'⟩, fun x H' y => ?_⟩
    obtain ⟨e, y⟩ := y
    subst e
    exact hs i x σ _ (y xs q) p
  · have e : i = xs.length := by omega
    subst e
    exact .inl ⟨⟨xs, q, Nat.le_refl _⟩, hd σ H p⟩
theorem for_range {lo : Int} {n : Nat} {g : TG} {tb : TS} {D : Ends} {σ : St} {H : Hp} (Pv : Nat → St → Hp → Prop) (h0 : Pv 0 σ H)
    (hs : ∀ i σ H, i < n → Pv i σ H → g (.int (lo + i)) σ H fun σ2 H2 => tb { D with nx := Pv (i + 1), ct := Pv (i + 1), bk := D.nx } σ2 H2) (hd : ∀ σ H, Pv n σ H → D.nx σ H) :
    ∃ W : Nat → Nat → St → Hp → Prop, (∃ m, W 0 m σ H) ∧ ∀ i m σ H, W i m σ H →
      ((Itr lo n).stop i H ∧ D.nx σ H) ∨ ((Itr lo n).go i H ∧ ∃ N : St → Hp → Prop, (∀ σ' H', N σ' H' → ∃ m', m' < m ∧ W (i + 1) m' σ' H') ∧ ∀ x H', (Itr lo n).yld i H x H' → g x σ H' fun σ2 H2 => tb { D with nx := N, ct := N, bk := D.nx } σ2 H2) := by
  refine ⟨fun i m σ H => m = n - i ∧ i ≤ n ∧ Pv i σ H, ⟨n, by simp, Nat.zero_le _, h0⟩, ?_⟩
  rintro i m σ H ⟨rfl, hi, p⟩
  by_cases hlt : i < n
  · refine .inr ⟨hlt, Pv (i + 1), fun σ' H' p' => ⟨n - (i + 1), by omega, rfl, hlt, p'⟩, fun x H' y => ?_⟩
    obtain ⟨e, y⟩ := y
    subst e y
    exact hs i σ _ hlt p
  · have e : i = n := by omega
    subst e
    exact .inl ⟨Nat.le_refl _, hd σ H p⟩
end L2

namespace L2
open PySem PySem.Spec PyProof.Rows

abbrev R2 := V → V → Hp → VK → Prop
/-- a two-place operation on values: f is binaryOp op, inplaceOp op or compareOp op -/
def OpR (X : Cx) (f : Value → Value → Sem Value) (r : R2) : Prop :=
  ∀ (pins : List (Addr × Obj)) (s : Shared) (σ : St) (H : Hp) (x y : V) (v u : Value) (Q : VK), Inv X pins σ H s → RelV x v → RelV y u → r x y H Q →
    wpAny (model X.prog X.w) X.A (f v u) (EP X pins σ Q) X.xe s
/-- a one-place operation -/
def UnR (X : Cx) (f : Value → Sem Value) (r : V → Hp → VK → Prop) : Prop :=
  ∀ (pins : List (Addr × Obj)) (s : Shared) (σ : St) (H : Hp) (x : V) (v : Value) (Q : VK), Inv X pins σ H s → RelV x v → r x H Q →
    wpAny (model X.prog X.w) X.A (f v) (EP X pins σ Q) X.xe s
/-- a call of a value that is known (a builtin, a type) with values -/
def CallR (X : Cx) (f : Value) (r : List V → Hp → VK → Prop) : Prop :=
  ∀ (pins : List (Addr × Obj)) (s : Shared) (σ : St) (H : Hp) (xs : List V) (us : List Value) (Q : VK), Inv X pins σ H s → Vals xs us → r xs H Q →
    wpAny (model X.prog X.w) X.A (call f us) (EP X pins σ Q) X.xe s
def tOp (r : R2) (ta tb : TE) : TE := fun σ H Q => ta σ H fun x H1 => tb σ H1 fun y H2 => r x y H2 Q
def tUn (r : V → Hp → VK → Prop) (ta : TE) : TE := fun σ H Q => ta σ H fun x H1 => r x H1 Q
/-- ints in, under C, and a value out -/
def rI (C : Int → Int → Prop) (g : Int → Int → V) : R2 := fun x y H Q => ∃ i j, x = .int i ∧ y = .int j ∧ C i j ∧ Q (g i j) H
def rI0 (g : Int → Int → V) : R2 := fun x y H Q => ∃ i j, x = .int i ∧ y = .int j ∧ Q (g i j) H
def rU (g : Int → V) : V → Hp → VK → Prop := fun x H Q => ∃ i, x = .int i ∧ Q (g i) H

section
variable {X : Cx} {a b c : Expr} {ta tb tc : TE} {pos : Pos}

theorem binT (ha : PE X a ta) (hb : PE X b tb) {pins : List (Addr × Obj)} {s : Shared} {σ : St} {H : Hp} {R : V → V → Hp → Prop} (I : Inv X pins σ H s)
    (h : ta σ H fun x H1 => tb σ H1 fun y H2 => R x y H2) {Q : Value → Shared → Prop} {f : Value → Value → Sem Value}
    (hf : ∀ v u s2 x y H2, Inv X pins σ H2 s2 → RelV x v → RelV y u → R x y H2 → wpAny (model X.prog X.w) X.A (f v u) Q X.xe s2) :
    wpAny (model X.prog X.w) X.A (eval a X.env) (fun v s₁ => wpAny (model X.prog X.w) X.A (eval b X.env) (fun u s₂ => wpAny (model X.prog X.w) X.A (f v u) Q X.xe s₂) X.xe s₁) X.xe s := by
  refine thn (ha pins s σ H _ I h) fun v s1 ⟨x, H1, I1, r1, q1⟩ => ?_
  refine thn (hb pins s1 σ H1 _ I1 q1) fun u s2 ⟨y, H2, I2, r2, q2⟩ => ?_
  exact hf v u s2 x y H2 I2 r1 r2 q2

theorem pe_op {op : Operator} {r : R2} (ho : OpR X (binaryOp op) r) (ha : PE X a ta) (hb : PE X b tb) : PE X (.BinOp a op b pos) (tOp r ta tb) := by
  intro pins s σ H Q I h
  exact wpAny_BinOp (binT ha hb I h fun v u s2 x y H2 I2 rx ry q => ho pins s2 σ H2 x y v u Q I2 rx ry q)
theorem pe_un {op : UnaryOp} {r : V → Hp → VK → Prop} (ho : UnR X (unaryOp op) r) (ha : PE X a ta) : PE X (.UnaryOp op a pos) (tUn r ta) := by
  intro pins s σ H Q I h
  exact UnaryOp_ (thn (ha pins s σ H _ I h) fun v s1 ⟨x, H1, I1, r1, q1⟩ => ho pins s1 σ H1 x v Q I1 r1 q1)
theorem opI {f : Value → Value → Sem Value} {C : Int → Int → Prop} {g : Int → Int → Int}
    (rule : ∀ (i j : Int) (t u : Tok) (s : Shared) (Q : Value → Shared → Prop) (E : Value → Shared → Prop), C i j → Q (.int (g i j) s.toks) { s with toks := s.toks + 1 } → wpAny (model X.prog X.w) X.A (f (.int i t) (.int j u)) Q E s) :
    OpR X f (rI C fun i j => .int (g i j)) := by
  intro pins s σ H x y v u Q I rx ry h
  obtain ⟨i, j, rfl, rfl, hc, q⟩ := h
  obtain ⟨t, rfl⟩ := rx
  obtain ⟨t', rfl⟩ := ry
  exact rule i j t t' s _ _ hc ⟨.int (g i j), H, I.tok _, ⟨_, rfl⟩, q⟩
theorem opI0 {f : Value → Value → Sem Value} {g : Int → Int → Int}
    (rule : ∀ (i j : Int) (t u : Tok) (s : Shared) (Q : Value → Shared → Prop) (E : Value → Shared → Prop), Q (.int (g i j) s.toks) { s with toks := s.toks + 1 } → wpAny (model X.prog X.w) X.A (f (.int i t) (.int j u)) Q E s) :
    OpR X f (rI0 fun i j => .int (g i j)) := by
  intro pins s σ H x y v u Q I rx ry h
  obtain ⟨i, j, rfl, rfl, q⟩ := h
  obtain ⟨t, rfl⟩ := rx
  obtain ⟨t', rfl⟩ := ry
  exact rule i j t t' s _ _ ⟨.int (g i j), H, I.tok _, ⟨_, rfl⟩, q⟩
theorem opB0 {f : Value → Value → Sem Value} {g : Int → Int → Bool}
    (rule : ∀ (i j : Int) (t u : Tok) (s : Shared) (Q : Value → Shared → Prop) (E : Value → Shared → Prop), Q (.bool (g i j)) s → wpAny (model X.prog X.w) X.A (f (.int i t) (.int j u)) Q E s) :
    OpR X f (rI0 fun i j => .bl (g i j)) := by
  intro pins s σ H x y v u Q I rx ry h
  obtain ⟨i, j, rfl, rfl, q⟩ := h
  obtain ⟨t, rfl⟩ := rx
  obtain ⟨t', rfl⟩ := ry
  exact rule i j t t' s _ _ ⟨.bl (g i j), H, I, rfl, q⟩

def CPow (i j : Int) : Prop := 0 ≤ j ∧ j ≤ 1000000 ∧ i.natAbs < 2 ^ 64
def CMul (i j : Int) : Prop := (-(2 ^ 64) < i ∧ i < 2 ^ 64) ∨ (-(2 ^ 64) < j ∧ j < 2 ^ 64)
theorem CMul.ok {i j : Int} (h : CMul i j) : IntMulOk i j := by
  rcases h with ⟨h1, h2⟩ | ⟨h1, h2⟩
  · exact .of_left (intBits_le_64 h1 h2)
  · exact .of_right (intBits_le_64 h1 h2)
theorem two_pow_nn (k : Nat) : (0 : Int) ≤ 2 ^ k := by
  rw [two_pow_cast]
  exact Int.natCast_nonneg _

theorem op_add : OpR X (binaryOp .Add) (rI0 fun i j => .int (i + j)) := opI0 fun _ _ _ _ _ _ _ q => add_int q
theorem op_sub : OpR X (binaryOp .Sub) (rI0 fun i j => .int (i - j)) := opI0 fun _ _ _ _ _ _ _ q => sub_int q
/-- % by a positive divisor of any size -/
theorem op_mod : OpR X (binaryOp .Mod) (rI (fun _ j => 0 < j) fun i j => .int (i % j)) := opI fun i j _ _ _ _ _ hc q => by
  have h1 : (0 : Int) < j := hc
  exact mod_int' (by omega) (by rw [Int.fmod_eq_emod_of_nonneg i (by omega)]; exact q)
theorem op_pow : OpR X (binaryOp .Pow) (rI CPow fun i j => .int (i ^ j.toNat)) := opI fun _ _ _ _ _ _ _ hc q => pow_int_small hc.1 hc.2.1 hc.2.2 q
theorem op_shr : OpR X (binaryOp .RShift) (rI (fun _ j => 0 ≤ j) fun i j => .int (i / 2 ^ j.toNat)) := opI fun i j _ _ _ _ _ hc q =>
  rshift_int hc (by rw [Int.fdiv_eq_ediv_of_nonneg i (two_pow_nn _)]; exact q)
theorem op_and : OpR X (binaryOp .BitAnd) (rI0 fun i j => .int (Builtin.bitAnd i j)) := opI0 fun _ _ _ _ _ _ _ q => and_int q
theorem op_or : OpR X (binaryOp .BitOr) (rI0 fun i j => .int (Builtin.bitOr i j)) := opI0 fun _ _ _ _ _ _ _ q => or_int q
theorem unI {f : Value → Sem Value} {g : Int → Int}
    (rule : ∀ (i : Int) (t : Tok) (s : Shared) (Q : Value → Shared → Prop) (E : Value → Shared → Prop), Q (.int (g i) s.toks) { s with toks := s.toks + 1 } → wpAny (model X.prog X.w) X.A (f (.int i t)) Q E s) :
    UnR X f (rU fun i => .int (g i)) := by
  intro pins s σ H x v Q I rx h
  obtain ⟨i, rfl, q⟩ := h
  obtain ⟨t, rfl⟩ := rx
  exact rule i t s _ _ ⟨.int (g i), H, I.tok _, ⟨_, rfl⟩, q⟩
theorem un_neg : UnR X (unaryOp .USub) (rU fun i => .int (-i)) := unI fun _ _ _ _ _ q => neg_int q
end

/-- the scalars that == tells apart as data does -/
def scal : V → V → Bool
  | .non, .non => true | .non, .int _ => true | .int _, .non => true | .non, .bl _ => true | .bl _, .non => true | .non, .str _ => true | .str _, .non => true
  | .int _, .int _ => true | .bl _, .bl _ => true | .str _, .str _ => true | .byt _, .byt _ => true
  | .int _, .str _ => true | .str _, .int _ => true | .bl _, .str _ => true | .str _, .bl _ => true
  | _, _ => false
def rEq : R2 := fun x y H Q => scal x y = true ∧ Q (.bl (decide (x = y))) H
def rNe : R2 := fun x y H Q => scal x y = true ∧ Q (.bl (!decide (x = y))) H

theorem dec_int {i j : Int} : decide (V.int i = V.int j) = (i == j) := by
  rw [Bool.eq_iff_iff]
  simp
theorem dec_bl {i j : Bool} : decide (V.bl i = V.bl j) = (i == j) := by
  rw [Bool.eq_iff_iff]
  simp
theorem dec_str {i j : Str} : decide (V.str i = V.str j) = (i == j) := by
  rw [Bool.eq_iff_iff]
  simp
theorem dec_byt {i j : Array UInt8} : decide (V.byt i = V.byt j) = (i.toList == j.toList) := by
  rw [Bool.eq_iff_iff]
  cases i
  cases j
  simp

section
variable {X : Cx} {a b c : Expr} {ta tb tc : TE} {pos : Pos}
theorem fin_bl {pins : List (Addr × Obj)} {σ : St} {H : Hp} {s : Shared} {Q : VK} {k k' : Bool} (I : Inv X pins σ H s) (q : Q (.bl k) H) (e : k = k') : EP X pins σ Q (.bool k') s := by
  subst e
  exact ⟨.bl k, H, I, rfl, q⟩
theorem op_eq : OpR X (compareOp .Eq) rEq := by
  intro pins s σ H x y v u Q I rx ry h
  obtain ⟨hs, q⟩ := h
  cases x with
  | non =>
    cases rx
    cases y with
    | non => cases ry; exact PySem.EqNone.eq_none_none (fin_bl I q (by simp))
    | bl j => cases ry; exact PySem.EqNone.eq_none_bool (fin_bl I q (by simp))
    | int j => obtain ⟨t', rfl⟩ := ry; exact PySem.EqNone.eq_none_int (fin_bl I q (by simp))
    | str j => obtain ⟨t', rfl⟩ := ry; exact PySem.EqNone.eq_none_str (fin_bl I q (by simp))
    | _ => exact absurd (show false = true from hs) Bool.false_ne_true
  | bl i =>
    cases rx
    cases y with
    | non => cases ry; exact PySem.EqNone.eq_bool_none (fin_bl I q (by simp))
    | bl j => cases ry; exact eq_bool (fin_bl I q dec_bl)
    | str j => obtain ⟨t', rfl⟩ := ry; exact PySem.EqMixed.eq_bool_str (fin_bl I q (by simp))
    | _ => exact absurd (show false = true from hs) Bool.false_ne_true
  | int i =>
    obtain ⟨t, rfl⟩ := rx
    cases y with
    | non => cases ry; exact PySem.EqNone.eq_int_none (fin_bl I q (by simp))
    | int j => obtain ⟨t', rfl⟩ := ry; exact eq_int (fin_bl I q dec_int)
    | str j => obtain ⟨t', rfl⟩ := ry; exact PySem.EqMixed.eq_int_str (fin_bl I q (by simp))
    | _ => exact absurd (show false = true from hs) Bool.false_ne_true
  | str i =>
    obtain ⟨t, rfl⟩ := rx
    cases y with
    | non => cases ry; exact PySem.EqNone.eq_str_none (fin_bl I q (by simp))
    | bl j => cases ry; exact PySem.EqMixed.eq_str_bool (fin_bl I q (by simp))
    | int j => obtain ⟨t', rfl⟩ := ry; exact PySem.EqMixed.eq_str_int (fin_bl I q (by simp))
    | str j => obtain ⟨t', rfl⟩ := ry; exact eq_str (fin_bl I q dec_str)
    | _ => exact absurd (show false = true from hs) Bool.false_ne_true
  | byt i =>
    obtain ⟨t, rfl⟩ := rx
    cases y with
    | byt j => obtain ⟨t', rfl⟩ := ry; exact PySem.W.eq_bytes (fin_bl I q dec_byt)
    | _ => exact absurd (show false = true from hs) Bool.false_ne_true
  | _ => cases y <;> exact absurd (show false = true from hs) Bool.false_ne_true
theorem op_ne : OpR X (compareOp .NotEq) rNe := by
  intro pins s σ H x y v u Q I rx ry h
  obtain ⟨hs, q⟩ := h
  cases x with
  | non =>
    cases rx
    cases y with
    | non => cases ry; exact PySem.EqNone.ne_none_none (fin_bl I q (by simp))
    | bl j => cases ry; exact PySem.EqNone.ne_none_bool (fin_bl I q (by simp))
    | int j => obtain ⟨t', rfl⟩ := ry; exact PySem.EqNone.ne_none_int (fin_bl I q (by simp))
    | str j => obtain ⟨t', rfl⟩ := ry; exact PySem.EqNone.ne_none_str (fin_bl I q (by simp))
    | _ => exact absurd (show false = true from hs) Bool.false_ne_true
  | bl i =>
    cases rx
    cases y with
    | non => cases ry; exact PySem.EqNone.ne_bool_none (fin_bl I q (by simp))
    | bl j => cases ry; exact ne_bool (fin_bl I q (congrArg not dec_bl))
    | str j => obtain ⟨t', rfl⟩ := ry; exact PySem.EqMixed.ne_bool_str (fin_bl I q (by simp))
    | _ => exact absurd (show false = true from hs) Bool.false_ne_true
  | int i =>
    obtain ⟨t, rfl⟩ := rx
    cases y with
    | non => cases ry; exact PySem.EqNone.ne_int_none (fin_bl I q (by simp))
    | int j => obtain ⟨t', rfl⟩ := ry; exact ne_int (fin_bl I q (congrArg not dec_int))
    | str j => obtain ⟨t', rfl⟩ := ry; exact PySem.EqMixed.ne_int_str (fin_bl I q (by simp))
    | _ => exact absurd (show false = true from hs) Bool.false_ne_true
  | str i =>
    obtain ⟨t, rfl⟩ := rx
    cases y with
    | non => cases ry; exact PySem.EqNone.ne_str_none (fin_bl I q (by simp))
    | bl j => cases ry; exact PySem.EqMixed.ne_str_bool (fin_bl I q (by simp))
    | int j => obtain ⟨t', rfl⟩ := ry; exact PySem.EqMixed.ne_str_int (fin_bl I q (by simp))
    | str j => obtain ⟨t', rfl⟩ := ry; exact ne_str (fin_bl I q (congrArg not dec_str))
    | _ => exact absurd (show false = true from hs) Bool.false_ne_true
  | byt i =>
    obtain ⟨t, rfl⟩ := rx
    cases y with
    | byt j => obtain ⟨t', rfl⟩ := ry; exact PySem.W.ne_bytes (fin_bl I q (congrArg not dec_byt))
    | _ => exact absurd (show false = true from hs) Bool.false_ne_true
  | _ => cases y <;> exact absurd (show false = true from hs) Bool.false_ne_true

theorem op_lt : OpR X (compareOp .Lt) (rI0 fun i j => .bl (decide (i < j))) := opB0 fun _ _ _ _ _ _ _ q => lt_int q
theorem op_le : OpR X (compareOp .LtE) (rI0 fun i j => .bl (decide (i ≤ j))) := opB0 fun _ _ _ _ _ _ _ q => le_int q
theorem op_gt : OpR X (compareOp .Gt) (rI0 fun i j => .bl (decide (j < i))) := opB0 fun _ _ _ _ _ _ _ q => gt_int q
theorem op_ge : OpR X (compareOp .GtE) (rI0 fun i j => .bl (decide (j ≤ i))) := opB0 fun _ _ _ _ _ _ _ q => ge_int q
/-- is None, is not None: the right side a value none -/
theorem op_isN : OpR X (compareOp .Is) (fun x y H Q => y = .non ∧ Q (.bl (decide (x = .non))) H) := by
  intro pins s σ H x y v u Q I rx ry h
  obtain ⟨rfl, q⟩ := h
  cases ry
  refine is_none_gen (fin_bl I q ?_)
  cases x <;> first
    | (cases rx; rfl)
    | (obtain ⟨t, rfl⟩ := rx; rfl)
theorem op_notN : OpR X (compareOp .IsNot) (fun x y H Q => y = .non ∧ Q (.bl (!decide (x = .non))) H) := by
  intro pins s σ H x y v u Q I rx ry h
  obtain ⟨rfl, q⟩ := h
  cases ry
  refine isnot_none_gen (fin_bl I q ?_)
  cases x <;> first
    | (cases rx; rfl)
    | (obtain ⟨t, rfl⟩ := rx; rfl)

/-- two rules for one operation: by cases -/
theorem OpR.or {f : Value → Value → Sem Value} {r r' : R2} (h : OpR X f r) (h' : OpR X f r') : OpR X f (fun x y H Q => r x y H Q ∨ r' x y H Q) := by
  intro pins s σ H x y v u Q I rx ry q
  rcases q with q | q
  · exact h pins s σ H x y v u Q I rx ry q
  · exact h' pins s σ H x y v u Q I rx ry q

theorem nomark (b : Expr) {op : CmpOp} (h : op ≠ .In := by decide) (h2 : op ≠ .NotIn := by decide) : behindInMarks op b = false := by
  have e1 : (op == CmpOp.In) = false := by cases op <;> first | rfl | exact absurd rfl h
  have e2 : (op == CmpOp.NotIn) = false := by cases op <;> first | rfl | exact absurd rfl h2
  cases b <;> simp [behindInMarks, e1, e2]
/-- a comparison as a value; hm: nomark b, or (for in, not in) by with_unfolding_all rfl -/
theorem pe_cmpR {op : CmpOp} {r : R2} (ho : OpR X (compareOp op) r) (ha : PE X a ta) (hb : PE X b tb) (hm : behindInMarks op b = false) : PE X (.Compare a [op] [b] pos) (tOp r ta tb) := by
  intro pins s σ H Q I h
  exact wpAny_Compare1 (binT ha hb I h fun v u s2 x y H2 I2 rx ry q => ho pins s2 σ H2 x y v u Q I2 rx ry q) hm
/-- a reading of a value as a test -/
def tTest (t : TE) : TT := fun σ H Q => t σ H fun x H' => ∃ k, x = .bl k ∧ Q k H'
theorem pt_cmpR {op : CmpOp} {r : R2} (ho : OpR X (compareOp op) r) (ha : PE X a ta) (hb : PE X b tb) (hm : behindInMarks op b = false) : PT X (.Compare a [op] [b] pos) (tTest (tOp r ta tb)) := by
  intro pins s σ H Q I h
  refine wpAny_isTrue_Compare1 (thn (ha pins s σ H _ I h) fun v s1 ⟨x, H1, I1, r1, q1⟩ => thn (hb pins s1 σ H1 _ I1 q1) fun u s2 ⟨y, H2, I2, r2, q2⟩ =>
    thn (ho pins s2 σ H2 x y v u _ I2 r1 r2 q2) fun c s3 ⟨z, H3, I3, r3, k, e, q3⟩ => ?_) hm
  subst e
  cases r3
  exact wpAny_truthy_bool ⟨H3, I3, q3⟩
/-- a op1 b op2 c -/
def tChain (r r' : R2) (ta tb tc : TE) : TE := fun σ H Q => ta σ H fun x H1 => tb σ H1 fun y H2 => r x y H2 fun z H3 => ∃ k, z = .bl k ∧
  (if k = true then tc σ H3 fun w' H4 => r' y w' H4 Q else Q (.bl false) H3)
theorem pe_chain {op op' : CmpOp} {r r' : R2} (ho : OpR X (compareOp op) r) (ho' : OpR X (compareOp op') r') (ha : PE X a ta) (hb : PE X b tb) (hc : PE X c tc)
    (hm : lastMarks [op, op'] [b, c] = false := by with_unfolding_all rfl) : PE X (.Compare a [op, op'] [b, c] pos) (tChain r r' ta tb tc) := by
  intro pins s σ H Q I h
  refine Compare_chain (thn (ha pins s σ H _ I h) fun v s1 ⟨x, H1, I1, r1, q1⟩ => chain_link (thn (hb pins s1 σ H1 _ I1 q1) fun u s2 ⟨y, H2, I2, r2, q2⟩ =>
    thn (ho pins s2 σ H2 x y v u _ I2 r1 r2 q2) fun d s3 ⟨z, H3, I3, r3, k, e, q3⟩ => ?_)) hm
  subst e
  cases r3
  refine wpAny_truthy_bool ?_
  cases k with
  | false => exact ite_ff ⟨.bl false, H3, I3, rfl, q3⟩
  | true => exact ite_tt (chain_last (thn (hc pins s3 σ H3 _ I3 q3) fun w' s4 ⟨z', H4, I4, r4, q4⟩ => ho' pins s4 σ H4 y z' u w' Q I4 r2 r4 q4))
theorem line63 : (sizeLine : Nat) < 2 ^ 63 := by rw [sizeLine_eq]; decide
theorem vals1 {x : V} {us : List Value} (r : Vals [x] us) : ∃ u, us = [u] ∧ RelV x u := by
  cases r with
  | cons r1 r2 => cases r2; exact ⟨_, rfl, r1⟩
theorem vals2 {x y : V} {us : List Value} (r : Vals [x, y] us) : ∃ u w', us = [u, w'] ∧ RelV x u ∧ RelV y w' := by
  cases r with
  | cons r1 r2 =>
    cases r2 with
    | cons r3 r4 => cases r4; exact ⟨_, _, rfl, r1, r3⟩
theorem call_max2 (hc : X.calm = true) : CallR X (.builtin "max") (fun xs H Q => ∃ i j, xs = [.int i, .int j] ∧ Q (.int (if j > i then j else i)) H) := by
  intro pins s σ H xs us Q I r h
  obtain ⟨i, j, rfl, q⟩ := h
  obtain ⟨u, w', rfl, ⟨t, rfl⟩, ⟨t', rfl⟩⟩ := vals2 r
  refine max_two_ints (I.ok.hd hc) fun h' tk k => ⟨_, H, I.kept k, ?_, q⟩
  by_cases hj : j > i
  · rw [if_pos hj, if_pos hj]; exact ⟨_, rfl⟩
  · rw [if_neg hj, if_neg hj]; exact ⟨_, rfl⟩
theorem call_min2 (hc : X.calm = true) : CallR X (.builtin "min") (fun xs H Q => ∃ i j, xs = [.int i, .int j] ∧ Q (.int (if j < i then j else i)) H) := by
  intro pins s σ H xs us Q I r h
  obtain ⟨i, j, rfl, q⟩ := h
  obtain ⟨u, w', rfl, ⟨t, rfl⟩, ⟨t', rfl⟩⟩ := vals2 r
  refine min_two_ints (I.ok.hd hc) fun h' tk k => ⟨_, H, I.kept k, ?_, q⟩
  by_cases hj : j < i
  · rw [if_pos hj, if_pos hj]; exact ⟨_, rfl⟩
  · rw [if_neg hj, if_neg hj]; exact ⟨_, rfl⟩
end
end L2

namespace L2
open PySem PySem.Spec PyProof.Rows

structure ObjM (h : Heap) (x dx C : Addr) (mA : Str → Option Value) : Prop where
  obj : h.get? x = some (PySem.W.instObj C dx)
  ns : h.Ns1 dx mA
  ne : dx ≠ x

theorem lookIn_ns {h : Heap} {dx : Addr} {mA : Str → Option Value} (n : h.Ns1 dx mA) : ∃ od, h.get? dx = some od ∧ ∀ name, PySem.W.lookIn name od = some (mA name) := by
  obtain ⟨o, es, ep, ho, hd, hk, _, hm⟩ := n
  refine ⟨o, ho, fun name => ?_⟩
  have e := hm name
  unfold nsFind findBy at e
  rw [← Array.find?_toList] at e
  unfold PySem.W.lookIn
  rw [hd]
  dsimp only
  split
  · rename_i y q
    rw [q] at e
    exact congrArg some e
  · rename_i q
    rw [q] at e
    have a : es.toList.any (·.refKey) = false := by
      rw [List.any_eq_false]
      intro y hy
      obtain ⟨z, t, hkey⟩ := hk y (Array.mem_toList_iff.mp hy)
      simp [DictEntry.refKey, hkey]
    have a' : ¬ es.toList.any (·.refKey) = true := by rw [a]; exact Bool.false_ne_true
    rw [if_neg a']
    exact congrArg some e

theorem ObjM.look {h : Heap} {x dx C : Addr} {mA : Str → Option Value} (I : ObjM h x dx C mA) : ∃ od, PySem.W.InstAt h x (PySem.W.instObj C dx) C (some od) ∧ ∀ name, PySem.W.lookIn name od = some (mA name) :=
  let ⟨od, ho, hl⟩ := lookIn_ns I.ns
  ⟨od, ⟨I.obj, rfl, rfl, ho⟩, hl⟩

section
variable {prog : Program} {w : World} {A : Around} {E : Value → Shared → Prop} {s : Shared} {K : PySem.W.Frag} {x dx C f : Addr} {mA : Str → Option Value} {name : Str} {v : Value}

theorem get_map {expr : Bool} {Q : Value → Shared → Prop} (X : K.In s.heap) (I : ObjM s.heap x dx C mA) (hg : PySem.W.plainGet K C name = true) (hh : PySem.W.hasDictIn K C = true)
    (ha : PySem.W.findIn K (.ref C) name = some none) (hv : mA name = some v) (hv' : PySem.W.handedIn v = true) (h : Q v { s with toks := s.toks + 1 }) :
    wpAny (model prog w) A (getAttr (.ref x) name expr) Q E s := by
  obtain ⟨od, J, hl⟩ := I.look
  exact PySem.W.get_value X J (PySem.W.plainGet_of hg).1 (PySem.W.findObj_own hh ha rfl (by rw [hl, hv])) hv' h

theorem get_meth {pl : Sem Bool} {Q : Value × List Value → Shared → Prop} (X : K.In s.heap) (I : ObjM s.heap x dx C mA) (hg : PySem.W.plainGet K C name = true)
    (hf : PySem.W.findIn K (.ref C) name = some (some (.ref f))) (ht : PySem.W.isFn K (.ref f) = true) (hv : mA name = none) (h : Q (.ref f, [.ref x]) s) :
    wpAny (model prog w) A (getMethod (.ref x) name pl) Q E s := by
  obtain ⟨od, J, hl⟩ := I.look
  exact PySem.W.method_fn X J (PySem.W.plainGet_of hg).1 (PySem.W.plainGet_of hg).2 hf (beq_iff_eq.mp ht) (by show (PySem.W.lookIn name od).map (·.isSome) = some false; rw [hl, hv]; rfl) h

theorem set_map {ns : List Str} {Q : Unit → Shared → Prop} (X : K.In s.heap) (I : ObjM s.heap x dx C mA)
    (hs : PySem.W.findIn K (.ref C) "__setattr__" = some (some (.builtin "object.__setattr__"))) (hp : PySem.W.plainOver K C = true) (ht : PySem.W.takerIn K C name = some none) (hh : PySem.W.hasDictIn K C = true)
    (hw : PySem.Within mA ns) (hsz : ns.length ≤ sizeLine)
    (h : ∀ h', ObjM h' x dx C (fun y => if y = name then some v else mA y) → Heap.SameBut dx s.heap h' → Q () { s with heap := h', toks := s.toks + 2 }) :
    wpAny (model prog w) A (setAttr (.ref x) name v) Q E s := by
  obtain ⟨od, J, hl⟩ := I.look
  refine PySem.W.set_plain X J hs (PySem.W.osa_open (s := { s with toks := s.toks + 1 }) (r := none) X J hp ht fun b => ?_)
  obtain ⟨cd, hc, hd'⟩ := PySem.W.any_some hh
  have hx : s.heap.get? x = some ⟨.ref C, some dx, .plain, #[]⟩ := I.obj
  refine wpAny_bind (wpAny_pure (wpAny_bind (wpAny_bind (wpAny_loadPart hx (wpAny_bind (PySem.W.Looks.here (s := { s with toks := s.toks + 1 }) (PySem.W.looks_clsIn X hc) ?_))))))
  rw [hd']
  refine wpAny_pure (a := some dx) (wpAny_bind (wpAny_pure (wpAny_bind ?_)))
  refine wpAny_nsSet1 (s := { s with toks := s.toks + 1 }) I.ns fun h' hn2 hs2 => ?_
  obtain ⟨oD, esD, epD, hoD, hdD, hcD⟩ := hn2.count (PySem.Within.cons name v hw)
  refine wpAny_bind (wpAny_lookBehind hoD (by rw [hdD]; exact pastItsLine_dict (Nat.le_trans hcD (by rw [List.length_cons]; omega))) ?_)
  exact wpAny_pure (h _ ⟨(hs2.2 _ (Ne.symm I.ne)).trans I.obj, hn2, I.ne⟩ hs2)

/-- C(..): the dict at the heap's end, the instance behind it; then its __init__ -/
theorem make_map {R : Result → Shared → Prop} {vs : List Value} {kw : List (Str × Value)} (X : K.In s.heap) (hm : PySem.W.makesIn K C = true)
    (hi : PySem.W.findIn K (.ref C) "__init__" = some (some (.ref f))) (hf : PySem.W.typeIn K (.ref f) = some (.type "function"))
    (h : codeAny (model prog w) (A.under (.builtin "type.__call__" ⟨.ref C :: vs, kw⟩)) (.call (.ref f) ⟨.ref (s.heap.objs.size + 1) :: vs, kw⟩) (PySem.W.InitBack (s.heap.objs.size + 1) R)
      { s with heap := (s.heap.push PySem.W.emptyDict).push (PySem.W.instObj C s.heap.objs.size) }) :
    codeAny (model prog w) A (.call (.ref C) ⟨vs, kw⟩) R s := by
  obtain ⟨hh, g, d, t, os⟩ := s
  exact PySem.W.make_core (PySem.W.makes_of X hm) (PySem.W.looks_findIn X hi) (fun self => PySem.W.bind_fn X self hf) (.inl rfl) h
end

def putF (f : Str) (v : V) : List (Str × V) → List (Str × V)
  | [] => [(f, v)]
  | (g, x) :: r => if g = f then (g, v) :: r else (g, x) :: putF f v r
theorem lookup_putF (f g : Str) (v : V) : ∀ fs : List (Str × V), (putF f v fs).lookup g = if g = f then some v else fs.lookup g
  | [] => by
    show List.lookup g [(f, v)] = _
    by_cases h : g = f
    · have hb : (g == f) = true := beq_iff_eq.mpr h
      simp only [List.lookup, hb, if_pos h]
    · have hb : (g == f) = false := beq_eq_false_iff_ne.mpr h
      simp only [List.lookup, hb, if_neg h]
  | (k, x) :: r => by
    have ih := lookup_putF f g v r
    rw [show putF f v ((k, x) :: r) = (if k = f then (k, v) :: r else (k, x) :: putF f v r) from rfl]
    by_cases hk : k = f
    · rw [if_pos hk]
      by_cases h : g = k
      · have hb : (g == k) = true := beq_iff_eq.mpr h
        simp only [List.lookup, hb, if_pos (h.trans hk)]
      · have hb : (g == k) = false := beq_eq_false_iff_ne.mpr h
        simp only [List.lookup, hb, if_neg (fun e : g = f => h (e.trans hk.symm))]
    · rw [if_neg hk]
      by_cases h : g = k
      · have hb : (g == k) = true := beq_iff_eq.mpr h
        simp only [List.lookup, hb, if_neg (fun e : g = f => hk (h.symm.trans e))]
      · have hb : (g == k) = false := beq_eq_false_iff_ne.mpr h
        simp only [List.lookup, hb]
        exact ih
theorem keys_putF (f : Str) (v : V) : ∀ fs : List (Str × V), f ∈ (putF f v fs).map (·.1) ∧ ∀ g, g ∈ fs.map (·.1) → g ∈ (putF f v fs).map (·.1)
  | [] => ⟨by simp [putF], fun g h => by simp at h⟩
  | (k, x) :: r => by
    obtain ⟨i1, i2⟩ := keys_putF f v r
    rw [show putF f v ((k, x) :: r) = (if k = f then (k, v) :: r else (k, x) :: putF f v r) from rfl]
    by_cases hk : k = f
    · rw [if_pos hk]
      subst hk
      exact ⟨by simp, fun g h => by simpa using h⟩
    · rw [if_neg hk]
      refine ⟨?_, fun g h => ?_⟩
      · rw [List.map_cons]
        exact List.mem_cons_of_mem _ i1
      · rw [List.map_cons] at h ⊢
        rcases List.mem_cons.mp h with e | e
        · exact List.mem_cons.mpr (.inl e)
        · exact List.mem_cons_of_mem _ (i2 g e)
theorem length_putF (f : Str) (v : V) : ∀ fs : List (Str × V), (putF f v fs).length ≤ fs.length + 1
  | [] => by simp [putF]
  | (k, x) :: r => by
    have ih := length_putF f v r
    rw [show putF f v ((k, x) :: r) = (if k = f then (k, v) :: r else (k, x) :: putF f v r) from rfl]
    by_cases hk : k = f
    · rw [if_pos hk, List.length_cons, List.length_cons]; omega
    · rw [if_neg hk, List.length_cons, List.length_cons]; omega

theorem RelO.some_of {v : V} {o : Option Value} (r : RelO (some v) o) : ∃ u, o = some u ∧ RelV v u := by
  cases o with
  | none => exact (show False from r).elim
  | some u => exact ⟨u, rfl, r⟩
theorem RelO.none_of {o : Option Value} (r : RelO none o) : o = none := by
  cases o with
  | none => rfl
  | some u => exact (show False from r).elim
theorem handed_of {v : V} {u : Value} (r : RelV v u) : PySem.W.handedIn u = true := by
  cases v with
  | non => cases (show u = Value.none from r); rfl
  | bl b => cases (show u = Value.bool b from r); rfl
  | int i => obtain ⟨t, e⟩ := (show ∃ t, u = Value.int i t from r); cases e; rfl
  | str x => obtain ⟨t, e⟩ := (show ∃ t, u = Value.str x t from r); cases e; rfl
  | byt b => obtain ⟨t, e⟩ := (show ∃ t, u = Value.bytes b t from r); cases e; rfl
  | flt b => obtain ⟨t, e⟩ := (show ∃ t, u = Value.float b t from r); cases e; rfl
  | ref a => cases (show u = Value.ref a from r); rfl
  | ty n => cases (show u = Value.type n from r); rfl

section
variable {P : Program} {w : World} {H H' : Hp} {h h' : Heap} {a C dx : Addr} {fs fs' : List (Str × V)}
theorem ins_get (hok : HOk P w H h) (e : H a = some (.ins C dx fs)) : ∃ mA, ObjM h a dx C mA ∧ (∀ f, RelO (fs.lookup f) (mA f)) ∧ PySem.Within mA (fs.map (·.1)) ∧ fs.length ≤ 1000 ∧ H dx = some (.own a) := by
  obtain ⟨d, z, ne, ob, mA, n, r, q⟩ := (show ObjOk P w H h a (.ins C dx fs) from hok a _ e)
  exact ⟨mA, ⟨ob, n, ne⟩, r, q, z, d⟩
end

structure Cls (K : PySem.W.Frag) (C : Addr) : Prop where
  pg : PySem.W.plainGet K C Str.empty = true
  hd : PySem.W.hasDictIn K C = true
  po : PySem.W.plainOver K C = true
  sa : PySem.W.findIn K (.ref C) "__setattr__" = some (some (.builtin "object.__setattr__"))
theorem Cls.get {K : PySem.W.Frag} {C : Addr} (c : Cls K C) (f : Str) : PySem.W.plainGet K C f = true := c.pg
/-- no class of it has the name -/
def NoAttr (K : PySem.W.Frag) (C : Addr) (f : Str) : Prop := PySem.W.findIn K (.ref C) f = some none
theorem NoAttr.taker {K : PySem.W.Frag} {C : Addr} {f : Str} (n : NoAttr K C f) : PySem.W.takerIn K C f = some none := by
  unfold PySem.W.takerIn
  rw [show PySem.W.findIn K (.ref C) f = some none from n]
  rfl
/-- a method: a plain def of the class or of one above it -/
structure Meth (K : PySem.W.Frag) (C : Addr) (m : Str) (f : Addr) : Prop where
  at_ : PySem.W.findIn K (.ref C) m = some (some (.ref f))
  fn : PySem.W.isFn K (.ref f) = true
  kp : PySem.W.keepIn K (.ref f) = true

section
variable {X : Cx} {pins : List (Addr × Obj)} {σ : St} {H : Hp} {s : Shared} {a C dx : Addr} {fs : List (Str × V)} {f : Str} {v : V} {A : Around} {E : Value → Shared → Prop}

theorem getattr_ok {b : Bool} {Q : Value → Shared → Prop} (I : Inv X pins σ H s) (e : H a = some (.ins C dx fs)) (c : Cls X.K C) (n : NoAttr X.K C f) (l : fs.lookup f = some v)
    (h : ∀ u s', Inv X pins σ H s' → RelV v u → Q u s') : wpAny (model X.prog X.w) A (getAttr (.ref a) f b) Q E s := by
  obtain ⟨mA, O, r, _, _, _⟩ := ins_get I.hok e
  obtain ⟨u, hu, ru⟩ := RelO.some_of (v := v) (o := mA f) (by rw [← l]; exact r f)
  exact get_map I.kIn O (c.get f) c.hd n hu (handed_of ru) (h u _ (I.tok _) ru)

theorem getmeth_ok {m : Str} {g : Addr} {pl : Sem Bool} {Q : Value × List Value → Shared → Prop} (I : Inv X pins σ H s) (e : H a = some (.ins C dx fs)) (c : Cls X.K C) (k : Meth X.K C m g) (l : fs.lookup m = none)
    (h : Q (.ref g, [.ref a]) s) : wpAny (model X.prog X.w) A (getMethod (.ref a) m pl) Q E s := by
  obtain ⟨mA, O, r, _, _, _⟩ := ins_get I.hok e
  have hn : mA m = none := RelO.none_of (by rw [← l]; exact r m)
  exact get_meth I.kIn O (c.get m) k.at_ k.fn hn h

theorem setattr_ok {y : V} {u : Value} {Q : Unit → Shared → Prop} (I : Inv X pins σ H s) (e : H a = some (.ins C dx fs)) (c : Cls X.K C) (n : NoAttr X.K C f) (hl : fs.length < 1000) (ry : RelV y u)
    (h : ∀ s', Inv X pins σ (upd H a (.ins C dx (putF f y fs))) s' → Q () s') : wpAny (model X.prog X.w) A (setAttr (.ref a) f u) Q E s := by
  obtain ⟨mA, O, r, wi, _, ho⟩ := ins_get I.hok e
  have hz : (fs.map (·.1)).length ≤ sizeLine := by rw [List.length_map, sizeLine_eq]; omega
  refine set_map I.kIn O c.sa c.po n.taker c.hd wi hz fun h' O' sb => h _ ?_
  have hd : ∃ o, h'.get? dx = some o := let ⟨o, _, _, e', _⟩ := O'.ns; ⟨o, e'⟩
  refine I.write (x := a) (e := dx) (by rw [e]; exact True.intro) (.inr ho) (fun b q hb z => (sb.2 b hb).trans z) hd ?_
  refine ⟨by rw [upd_ne O.ne]; exact ho, ?_, O.ne, O'.obj, _, O'.ns, fun g => ?_, fun g hg => ?_⟩
  · have := length_putF f y fs; omega
  · show RelO ((putF f y fs).lookup g) (if g = f then some u else mA g)
    rw [lookup_putF]
    by_cases q : g = f
    · rw [if_pos q, if_pos q]; exact ry
    · rw [if_neg q, if_neg q]; exact r g
  · by_cases q : g = f
    · rw [q]; exact (keys_putF f y fs).1
    · refine (keys_putF f y fs).2 g (wi g fun z => hg ?_)
      show (if g = f then some u else mA g) = none
      rw [if_neg q]; exact z

/-- a new instance, tracked, without attributes -/
theorem Inv.made (I : Inv X pins σ H s) : Inv X pins σ (upd (upd H s.heap.objs.size (.own (s.heap.objs.size + 1))) (s.heap.objs.size + 1) (.ins C s.heap.objs.size []))
    { s with heap := (s.heap.push PySem.W.emptyDict).push (PySem.W.instObj C s.heap.objs.size) } := by
  have e1 : (s.heap.push PySem.W.emptyDict).get? s.heap.objs.size = some PySem.W.emptyDict := Heap.get?_push_size s.heap rfl
  have e2 : ((s.heap.push PySem.W.emptyDict).push (PySem.W.instObj C s.heap.objs.size)).get? (s.heap.objs.size + 1) = some (PySem.W.instObj C s.heap.objs.size) := by
    have := Heap.get?_push_size (s.heap.push PySem.W.emptyDict) (o := PySem.W.instObj C s.heap.objs.size) rfl
    rwa [Heap.size_push] at this
  have e3 : (s.heap.push PySem.W.emptyDict).Ns s.heap.objs.size (fun _ => none) := ⟨PySem.W.emptyDict, #[], _, e1, rfl, (fun e he => absurd he (by simp)), fun _ => rfl⟩
  have I1 := I.laid (a := s.heap.objs.size) (o := .own (s.heap.objs.size + 1)) (h' := s.heap.push PySem.W.emptyDict) (t' := s.toks) (fun b u q => Heap.get?_push_of_some _ q) (Nat.le_refl _) ⟨_, e1⟩
  refine I1.laid (a := s.heap.objs.size + 1) (o := .ins C s.heap.objs.size []) (t' := s.toks) (fun b u q => Heap.get?_push_of_some _ q) (Nat.le_of_eq (Heap.size_push _ _)) ?_
  have ne : s.heap.objs.size ≠ s.heap.objs.size + 1 := Nat.ne_of_lt (Nat.lt_succ_self _)
  refine ⟨by rw [upd_ne ne, upd_same], Nat.zero_le _, ne, e2, fun _ => none, (Heap.Ns1.of_empty e3).at fun o q => Heap.get?_push_of_some _ q, fun _ => True.intro, fun y hy => absurd rfl hy⟩

/-- e.f where nothing but the object is asked: through attributeBase (super) and the last hold -/
theorem attr_of {prog : Program} {w : World} {env : Env} {e : Expr} {f : Str} {pos : Pos} {s : Shared} {Q : Value → Shared → Prop} (hb : attributeBase e f env (eval e env) = eval e env)
    (h : wpAny (model prog w) A (eval e env) (fun o s₁ => wpAny (model prog w) A (getAttr o f true) Q E s₁) E s) : wpAny (model prog w) A (eval (.Attribute e f pos) env) Q E s :=
  Attribute_any_ h (by rw [arm_eval_Attribute, hb])
end

/-- e.f, an attribute of the instance -/
def tFld (K : PySem.W.Frag) (ta : TE) (f : Str) : TE := fun σ H Q => ta σ H fun x H1 => ∃ a C dx fs v, x = .ref a ∧ H1 a = some (.ins C dx fs) ∧ Cls K C ∧ NoAttr K C f ∧ fs.lookup f = some v ∧ Q v H1
/-- e.f = value -/
def sFld (K : PySem.W.Frag) (ta tv : TE) (f : Str) : TS := fun D σ H => tv σ H fun y H1 => ta σ H1 fun x H2 => ∃ a C dx fs, x = .ref a ∧ H2 a = some (.ins C dx fs) ∧ Cls K C ∧ NoAttr K C f ∧ fs.length < 1000 ∧
  D.nx σ (upd H2 a (.ins C dx (putF f y fs)))
section
variable {X : Cx} {o e value : Expr} {f : Str} {pos pos' tpos : Pos} {ta tv : TE}
theorem pe_fld (he : PE X e ta) (hb : attributeBase e f X.env (eval e X.env) = eval e X.env) : PE X (.Attribute e f pos) (tFld X.K ta f) := by
  intro pins s σ H Q I h
  refine attr_of hb (thn (he pins s σ H _ I h) fun u s1 ⟨x, H1, I1, rx, a, C, dx, fs, v, ex, ea, c, n, l, q⟩ => ?_)
  subst ex
  obtain rfl : u = Value.ref a := rx
  exact getattr_ok I1 ea c n l fun u' s2 I2 ru => ⟨v, H1, I2, ru, q⟩
theorem ps_fld (ha : PE X o ta) (hv : PE X value tv) (hs : swapsWith value (some (.Attribute o f pos')) pos.line X.env = pure false) : PS X (.Assign [.Attribute o f pos'] value pos) (sFld X.K ta tv f) := by
  intro pins s σ H D I h
  refine plainObj_wpAny_Assign_Attribute (thn (hv pins s σ H _ I h) fun u s1 ⟨y, H1, I1, ry, q⟩ => thn (ha pins s1 σ H1 _ I1 q) fun ov s2 ⟨x, H2, I2, rx, a, C, dx, fs, ex, ea, c, n, l, q2⟩ => ?_) hs
  subst ex
  obtain rfl : ov = Value.ref a := rx
  exact setattr_ok I2 ea c n l ry fun s3 I3 => ⟨σ, _, I3, q2⟩
end

section
variable {X : Cx} {pins : List (Addr × Obj)} {σ : St} {H : Hp} {s : Shared} {A : Around} {E : Value → Shared → Prop} {Q : Value → Shared → Prop} {c : Value} {b : Bool}
/-- the type of a value, as the fragment's deciders take it; for an instance its class -/
inductive TyOf (K : PySem.W.Frag) (H : Hp) : V → Value → Prop where
  | non : TyOf K H .non (.type "NoneType")
  | bl (x : Bool) : TyOf K H (.bl x) (.type "bool")
  | int (i : Int) : TyOf K H (.int i) (.type "int")
  | str (x : Str) : TyOf K H (.str x) (.type "str")
  | flt (x : UInt64) : TyOf K H (.flt x) (.type "float")
  | lst {a : Addr} {xs : List V} (e : H a = some (.lst xs)) : TyOf K H (.ref a) (.type "list")
  | frz {a : Addr} {o : Obj} {xs : List V} (e : H a = some (.frz o (.lst xs))) : TyOf K H (.ref a) (.type "list")
  | tup {a : Addr} {xs : List V} (e : H a = some (.tup xs)) : TyOf K H (.ref a) (.type "tuple")
  | dK {a : Addr} {kvs : List (Key × V)} (e : H a = some (.dK kvs)) : TyOf K H (.ref a) (.type "dict")
  | dT {a : Addr} {kvs : List (List Key × V)} (e : H a = some (.dT kvs)) : TyOf K H (.ref a) (.type "dict")
  | ins {a C dx : Addr} {fs : List (Str × V)} (e : H a = some (.ins C dx fs)) (cl : Cls K C) (ha : PySem.W.findIn K (.ref C) "__class__" = some (some (.builtin "object.__class__")))
      (hn : PySem.W.specialIn K (.builtin "object.__class__") "__get__" = some (some (.builtin "getset_descriptor.__get__"))) (htk : PySem.W.takesIn K (.builtin "object.__class__") = some true)
      (hm : PySem.W.mroIn K C (.type "object") = some true) : TyOf K H (.ref a) (.ref C)
/-- isinstance(x, c) for one class c, a built-in or an own one: kitOne's answer -/
theorem isinst_ok {x : V} {u t : Value} (I : Inv X pins σ H s) (rx : RelV x u) (ty : TyOf X.K H x t) (e : PySem.W.kitOne X.K t c = some b) (h : ∀ tk, Q (.bool b) { s with toks := tk }) :
    wpAny (model X.prog X.w) A (call (.builtin "isinstance") [u, c]) Q E s := by
  cases ty with
  | non => cases (show u = Value.none from rx); exact PySem.W.kia_one PySem.W.kitx_none I.kIn True.intro e (fun z => nomatch z) h
  | bl y => cases (show u = Value.bool y from rx); exact PySem.W.kia_one PySem.W.kitx_bool I.kIn True.intro e (fun z => nomatch z) h
  | int i => obtain ⟨t, q⟩ := (show ∃ t, u = Value.int i t from rx); cases q; exact PySem.W.kia_one PySem.W.kitx_int I.kIn True.intro e (fun z => nomatch z) h
  | str y => obtain ⟨t, q⟩ := (show ∃ t, u = Value.str y t from rx); cases q; exact PySem.W.kia_one PySem.W.kitx_str I.kIn True.intro e (fun z => nomatch z) h
  | flt y => obtain ⟨t, q⟩ := (show ∃ t, u = Value.float y t from rx); cases q; exact PySem.W.kia_one PySem.W.kitx_float I.kIn True.intro e (fun z => nomatch z) h
  | @lst a xs ea =>
    cases (show u = Value.ref a from rx)
    obtain ⟨_, _, n, _, h1⟩ := (show ObjOk X.prog X.w H s.heap a (.lst xs) from I.hok a _ ea)
    exact PySem.W.kia_one PySem.W.kitx_list I.kIn ⟨_, h1, rfl⟩ e (fun z => nomatch z) h
  | @frz a ob xs ea =>
    cases (show u = Value.ref a from rx)
    obtain ⟨_, _, _, n, _, h1⟩ := (show ObjOk X.prog X.w H s.heap a (.frz ob (.lst xs)) from I.hok a _ ea)
    exact PySem.W.kia_one PySem.W.kitx_list I.kIn ⟨_, h1, rfl⟩ e (fun z => nomatch z) h
  | @tup a xs ea =>
    cases (show u = Value.ref a from rx)
    obtain ⟨_, _, _, p⟩ := (show ObjOk X.prog X.w H s.heap a (.tup xs) from I.hok a _ ea)
    obtain ⟨o, h1, h2, _⟩ := p
    exact PySem.W.kia_one PySem.W.kitx_tuple I.kIn ⟨o, h1, h2⟩ e (fun z => nomatch z) h
  | @dK a kvs ea =>
    cases (show u = Value.ref a from rx)
    obtain ⟨_, _, vs, _, p⟩ := (show ObjOk X.prog X.w H s.heap a (.dK kvs) from I.hok a _ ea)
    obtain ⟨o, es, ep, h1, h2, _⟩ := p
    exact PySem.W.kia_one PySem.W.kitx_dict I.kIn ⟨o, h1, h2.1⟩ e (fun z => nomatch z) h
  | @dT a kvs ea =>
    cases (show u = Value.ref a from rx)
    obtain ⟨_, _, xs, _, o, es, ep, h1, h2, _⟩ := (show ObjOk X.prog X.w H s.heap a (.dT kvs) from I.hok a _ ea)
    exact PySem.W.kia_one PySem.W.kitx_dict I.kIn ⟨o, h1, h2.1⟩ e (fun z => nomatch z) h
  | @ins a C dx fs ea cl ha hn htk hm =>
    cases (show u = Value.ref a from rx)
    obtain ⟨mA, O, _⟩ := ins_get I.hok ea
    obtain ⟨od, J, _⟩ := O.look
    exact PySem.W.kia_one (PySem.W.kitx_own (cl.get _) cl.hd ha hn htk hm) I.kIn J e (fun z => nomatch z) h
end
end L2

namespace L2
open PySem PySem.Spec PyProof.Rows

structure Room (k : Nat) (A : Around) : Prop where
  hd : A.handled = none
  dp : A.depth + 3 * k + 5 < recursionLimit
  un : A.units + 16 * k + 200 < cLine
  gd : A.guards = some []
theorem Room.mono {j k : Nat} {A : Around} (r : Room k A) (h : j ≤ k) : Room j A := ⟨r.hd, by have := r.dp; omega, by have := r.un; omega, r.gd⟩
theorem Room.deeper {k : Nat} {A : Around} (r : Room (k + 1) A) (env : Env) : Room k (A.deeper env) :=
  ⟨r.hd, by have := r.dp; show A.depth + 1 + 3 * k + 5 < _; omega, by have := r.un; show A.units + 3 + 16 * k + 200 < _; omega, r.gd⟩
theorem Room.in1 {k : Nat} {A : Around} (r : Room (k + 1) A) : Room k A.in1 :=
  ⟨r.hd, by have := r.dp; show A.depth + 3 * k + 5 < _; omega, by have := r.un; show A.units + 1 + 16 * k + 200 < _; omega, r.gd⟩
theorem make_depth {A : Around} {C : Addr} {us : List Value} {kw : List (Str × Value)} : (A.under (.builtin "type.__call__" ⟨.ref C :: us, kw⟩)).depth = A.depth + 1 := by
  first | rfl | simp [Around.under, Code.weight, Code.isCreation, Code.isGuard, Code.isCaller, Code.frames, Code.isFrame, guardIds]
theorem make_units {A : Around} {C : Addr} {us : List Value} {kw : List (Str × Value)} : (A.under (.builtin "type.__call__" ⟨.ref C :: us, kw⟩)).units = A.units + 1 := by
  first | rfl | simp [Around.under, Code.cUnits, Code.frames, Code.isFrame]
theorem make_guards {A : Around} {C : Addr} {us : List Value} {kw : List (Str × Value)} (h : A.guards = some []) : (A.under (.builtin "type.__call__" ⟨.ref C :: us, kw⟩)).guards = some [] := by
  have e : (Code.builtin "type.__call__" ⟨.ref C :: us, kw⟩).guards = [] := by
    unfold Code.guards
    rw [if_neg (by show ¬ guardIds.contains "type.__call__" = true; decide)]
  have e2 : (A.under (.builtin "type.__call__" ⟨.ref C :: us, kw⟩)).guards = pushGuards (Code.builtin "type.__call__" ⟨.ref C :: us, kw⟩).guards A.guards := rfl
  rw [e2, e, h]; rfl
theorem Room.make {k : Nat} {A : Around} (r : Room (k + 1) A) (C : Addr) (us : List Value) (kw : List (Str × Value)) : Room k (A.under (.builtin "type.__call__" ⟨.ref C :: us, kw⟩)) :=
  ⟨r.hd, by have := r.dp; rw [make_depth]; omega, by have := r.un; rw [make_units]; omega, make_guards r.gd⟩
theorem Room.depth {k : Nat} {A : Around} (r : Room k A) : A.depth < recursionLimit := by have := r.dp; omega
theorem Room.units {k : Nat} {A : Around} (r : Room k A) : A.units + 64 < cLine := by have := r.un; omega
def tNil : TA := fun _ H Q => Q [] H
def tCons (ta : TE) (tr : TA) : TA := fun σ H Q => ta σ H fun x H1 => tr σ H1 fun xs H2 => Q (x :: xs) H2
section
variable {X : Cx} {e : Expr} {es : List Expr} {te : TE} {t : TA} {pos : Pos}
theorem pa_nil : PA X [] tNil := fun _ _ _ _ H Q I h => Calls.spliced_nil ⟨[], H, I, .nil, h⟩
theorem pa_cons (ha : PE X e te) (hr : PA X es t) (hs : starEach (e :: es) X.env = (false, eval e X.env) :: starEach es X.env := by rfl) : PA X (e :: es) (tCons te t) := by
  intro pos pins s σ H Q I h
  rw [hs]
  show wpAny _ _ (spliced ((false, eval e X.env) :: backTo pos (starEach es X.env))) _ _ s
  refine Calls.spliced_cons (thn (ha pins s σ H _ I h) fun u s1 ⟨x, H1, I1, r1, q1⟩ => ?_)
  exact thn (hr pos pins s1 σ H1 _ I1 q1) fun us s2 ⟨xs, H2, I2, r2, q2⟩ => ⟨x :: xs, H2, I2, .cons r1 r2, q2⟩

/-- a tuple, a list of written items -/
def tTup (t : TA) : TE := fun σ H Q => t σ H fun xs H1 => xs.length ≤ sizeLine ∧ ∀ p, H1 p = none → Q (.ref p) (upd H1 p (.tup xs))
def tLst (t : TA) : TE := fun σ H Q => t σ H fun xs H1 => xs.length ≤ sizeLine ∧ ∀ p, H1 p = none → Q (.ref p) (upd H1 p (.lst xs))
theorem pe_tup {x1} (h : PA X es t) : PE X (.Tuple es x1 pos) (tTup t) := by
  intro pins s σ H Q I hq
  refine wpAny_Tuple_spliced (thn (h pos pins s σ H _ I hq) fun us s1 ⟨xs, H1, I1, r, z, q⟩ => ⟨by rw [← r.length]; exact z, ?_⟩)
  have hf : H1 s1.heap.objs.size = none := I1.hok.fresh (Nat.le_refl _)
  refine ⟨.ref s1.heap.objs.size, upd H1 s1.heap.objs.size (.tup xs), I1.laid (t' := s1.toks) (fun b u e => Heap.get?_push_of_some _ e) (Nat.le_refl _) ?_, rfl, q _ hf⟩
  exact ⟨z, us, r, ⟨_, Heap.get?_push_size _ rfl, rfl, _, rfl⟩⟩
theorem pe_lst (h : PA X es t) : PE X (.List es pos) (tLst t) := by
  intro pins s σ H Q I hq
  refine wpAny_List_spliced (thn (h pos pins s σ H _ I hq) fun us s1 ⟨xs, H1, I1, r, z, q⟩ => ⟨by rw [← r.length]; exact z, ?_⟩)
  have hf : H1 s1.heap.objs.size = none := I1.hok.fresh (Nat.le_refl _)
  refine ⟨.ref s1.heap.objs.size, upd H1 s1.heap.objs.size (.lst xs), I1.laid (t' := s1.toks) (fun b u e => Heap.get?_push_of_some _ e) (Nat.le_refl _) ?_, rfl, q _ hf⟩
  exact ⟨z, us, 0, r, Heap.get?_push_size _ rfl⟩
end

/-- a def's promise: the bound arguments in the parameters' order, the heap, the wanted end, the wanted exception -/
abbrev Sp := List V → Hp → VK → XK → Prop
/-- how an exception lies behind a call (file 08 gives it): the callers' frames, abstract heap and state ahead of the call, the wish, the exception, the state -/
abbrev CXT := List Env → Hp → Shared → XK → Value → Shared → Prop

/-- the state at a call -/
structure Env0 (P : Program) (w : World) (K : PySem.W.Frag) (mg : Str → Option Value) (base : Heap) (A : Around) (outer : List Env) (s : Shared) (H : Hp) : Prop where
  frames : A.frames = some outer
  mod : Mod K mg base
  bs : ∀ b o, base.get? b = some o → s.heap.get? b = some o ∧ H b = none
  bsz : base.objs.size ≤ s.heap.objs.size
  funs : s.heap.FunFrames base outer
  frf : ∀ b ∈ frs outer, H b = none
  hok : HOk P w H s.heap
  bare : AllBare s.gens
/-- a call's end -/
def CE (outer : List Env) (P : Program) (w : World) (H : Hp) (s : Shared) (Q : VK) (u : Value) (s' : Shared) : Prop :=
  ∃ v H', s'.os = s.os ∧ AllBare s'.gens ∧ Un (frs outer) [] H H' s.heap s'.heap ∧ HOk P w H' s'.heap ∧ RelV v u ∧ Q v H'
def CR (CX : CXT) (outer : List Env) (P : Program) (w : World) (H : Hp) (s : Shared) (Q : VK) (E : XK) (r : Result) (s' : Shared) : Prop :=
  match r with
  | .ok (.ret u) => CE outer P w H s Q u s'
  | .ok _ => False
  | .error e => CX outer H s E e s'
structure FnOk (P : Program) (w : World) (K : PySem.W.Frag) (mg : Str → Option Value) (base : Heap) (CX : CXT) (k : Nat) (f : Addr) (fd : FuncData) (ps : List Str) (sp : Sp) : Prop where
  len : ∀ vs H Q E, sp vs H Q E → vs.length = ps.length
  run : ∀ (A : Around) (outer : List Env) (s : Shared) (H : Hp) (args : Args) (us : List Value) (vs : List V) (Q : VK) (E : XK), Room k A → Env0 P w K mg base A outer s H → BindsTo s fd args (ps.zip us) → Vals vs us → sp vs H Q E →
    codeAny (model P w) A (.call (.ref f) args) (CR CX outer P w H s Q E) s
theorem FnOk.mono {P : Program} {w : World} {K : PySem.W.Frag} {mg : Str → Option Value} {base : Heap} {CX : CXT} {j k : Nat} {f : Addr} {fd : FuncData} {ps : List Str} {sp : Sp} (F : FnOk P w K mg base CX j f fd ps sp) (h : j ≤ k) :
    FnOk P w K mg base CX k f fd ps sp := ⟨F.len, fun A outer s H args us vs Q E hr => F.run A outer s H args us vs Q E (hr.mono h)⟩
theorem Env0.make {P : Program} {w : World} {K : PySem.W.Frag} {mg : Str → Option Value} {base : Heap} {A : Around} {outer : List Env} {s : Shared} {H : Hp} (e : Env0 P w K mg base A outer s H) (C : Addr) (us : List Value) (kw : List (Str × Value)) :
    Env0 P w K mg base (A.under (.builtin "type.__call__" ⟨.ref C :: us, kw⟩)) outer s H := ⟨by first | exact e.frames | (simpa [Around.under, Code.envs, Code.isFrame, pushEnvs] using e.frames), e.mod, e.bs, e.bsz, e.funs, e.frf, e.hok, e.bare⟩
theorem Env0.in1 {P : Program} {w : World} {K : PySem.W.Frag} {mg : Str → Option Value} {base : Heap} {A : Around} {outer : List Env} {s : Shared} {H : Hp} (e : Env0 P w K mg base A outer s H) :
    Env0 P w K mg base A.in1 outer s H := ⟨e.frames, e.mod, e.bs, e.bsz, e.funs, e.frf, e.hok, e.bare⟩

section
variable {X : Cx} {pins : List (Addr × Obj)} {σ : St} {H : Hp} {s s' : Shared}
/-- from a body: what a callee wants -/
theorem Inv.env0 (I : Inv X pins σ H s) : Env0 X.prog X.w X.K X.mg X.base X.A X.stack s H :=
  ⟨I.ok.frames, I.ok.mod, I.bs, Nat.le_trans I.ok.bsz I.sz, I.stack, I.stkFree, I.hok, I.bare⟩
/-- behind a call -/
theorem Inv.after {Q : VK} {u : Value} (I : Inv X pins σ H s) (h : CE X.stack X.prog X.w H s Q u s') : EP X pins σ Q u s' := by
  obtain ⟨v, H', os, bare, un, hok, r, q⟩ := h
  obtain ⟨hh, g, d, t, os'⟩ := s'
  obtain rfl : os' = s.os := os
  exact ⟨v, H', I.call (h' := hh) (g' := g) (d' := d) (t' := t) (ch := []) un hok bare (fun b z => absurd z (by simp)), r, q⟩
end

/-- f(..): the written arguments, then the defaults dvs; E: what is wanted of an exception -/
def tCall (sp : Sp) (dvs : List V) (E : XK) (t : TA) : TE := fun σ H Q => t σ H fun vs H1 => sp (vs ++ dvs) H1 Q E
/-- o.m(..) of an instance of the class at C -/
def tMeth (C : Addr) (m : Str) (sp : Sp) (dvs : List V) (E : XK) (ta : TE) (t : TA) : TE := fun σ H Q => ta σ H fun x H1 => ∃ a dx fs, x = .ref a ∧ H1 a = some (.ins C dx fs) ∧ fs.lookup m = none ∧
  t σ H1 fun vs H2 => sp (x :: (vs ++ dvs)) H2 Q E
/-- C(..): a new instance and its dict, then __init__ -/
def tMake (C : Addr) (sp : Sp) (dvs : List V) (E : XK) (t : TA) : TE := fun σ H Q => t σ H fun vs H1 => ∀ x dx, H1 x = none → H1 dx = none → dx ≠ x →
  sp (.ref x :: (vs ++ dvs)) (upd (upd H1 dx (.own x)) x (.ins C dx [])) (fun v H2 => v = .non ∧ Q (.ref x) H2) E

/-- how the parameters are bound: us the positional arguments, kw the keywords' values by name, ds the defaults that fill up -/
def Binds (K : PySem.W.Frag) (fd : FuncData) (ps : List Str) (ds : List Value) : Prop :=
  ∀ (s : Shared) (us : List Value), K.In s.heap → (us ++ ds).length = ps.length → BindsTo s fd ⟨us, []⟩ (ps.zip (us ++ ds))
/-- every parameter is given -/
theorem Binds.all {K : PySem.W.Frag} {fd : FuncData} {ps : List Str} (h : ∀ us : List Value, us.length = ps.length → bindArgs fd ⟨us, []⟩ = pure (ps.zip us)) : Binds K fd ps [] := fun s us _ hl => by
  rw [List.append_nil] at hl ⊢
  exact .of_eq (h us hl)

/-- an exception of a callee reaches what this body wants of exceptions -/
def Passes (CX : CXT) (X : Cx) (E : XK) : Prop := ∀ (pins : List (Addr × Obj)) (σ : St) (H : Hp) (s : Shared) (e : Value) (s' : Shared), Inv X pins σ H s → CX X.stack H s E e s' → X.xe e s'

section
variable {X : Cx} {CX : CXT} {k : Nat} {f C : Addr} {fd : FuncData} {ps : List Str} {sp : Sp} {dvs : List V} {ds : List Value} {E : XK} {x m : Str} {p pos apos : Pos} {e o : Expr} {es : List Expr} {ta : TE} {t : TA}

/-- the callee runs -/
theorem run_fn {pins : List (Addr × Obj)} {σ : St} {H : Hp} {s : Shared} {Q : VK} {us : List Value} {vs : List V} (F : FnOk X.prog X.w X.K X.mg X.base CX k f fd ps sp) (hr : Room k X.A) (hb : Binds X.K fd ps ds) (hd : Vals dvs ds) (hx : Passes CX X E)
    (I : Inv X pins σ H s) (r : Vals vs us) (h : sp (vs ++ dvs) H Q E) : wpAny (model X.prog X.w) X.A (call (.ref f) us) (EP X pins σ Q) X.xe s := by
  have r2 : Vals (vs ++ dvs) (us ++ ds) := r.append hd
  have hl : (us ++ ds).length = ps.length := by rw [← r2.length]; exact F.len _ _ _ _ h
  refine wpAny_call (codeAny_mono (F.run X.A X.stack s H ⟨us, []⟩ (us ++ ds) (vs ++ dvs) Q E hr I.env0 (hb s us I.kIn hl) r2 h) fun r s' hq => ?_)
  cases r with
  | error e => exact hx pins σ H s e s' I hq
  | ok fl =>
    cases fl with
    | ret u => exact I.after hq
    | next => exact False.elim hq
    | brk => exact False.elim hq
    | cont => exact False.elim hq

theorem pe_call (F : FnOk X.prog X.w X.K X.mg X.base CX k f fd ps sp) (hr : Room k X.A) (hg : Gl X x) (hm : X.mg x = some (.ref f)) (hk : PySem.W.keepIn X.K (.ref f) = true) (hb : Binds X.K fd ps ds) (hd : Vals dvs ds) (hx : Passes CX X E)
    (ha : PA X (e :: es) t) (hdb : (x == ("__debug__" : Str)) = false := by decide) (he : starEach (e :: es) X.env = (false, eval e X.env) :: starEach es X.env := by rfl) (hpl : (backTo pos (starEach es X.env)).any (·.1) = false := by rfl) :
    PE X (.Call (.Name x p) (e :: es) [] pos) (tCall sp dvs E t) := by
  intro pins s σ H Q I h
  refine wpAny_Call_Name_kw (ld_glob I hg hm ?_ hdb)
  refine PySem.W.callWith_K (h₀ := X.base) I.ok.mod.kin hk (thn (ha pos pins s σ H _ I h) fun us s1 ⟨vs, H1, I1, r, q⟩ => ⟨I1.kIn, ?_⟩) he hpl
  exact run_fn F hr hb hd hx I1 r q
/-- o.m(e, ..) -/
theorem pe_meth {pl : Sem Bool} (he : PE X o ta) (c : Cls X.K C) (hm : Meth X.K C m f) (F : FnOk X.prog X.w X.K X.mg X.base CX k f fd ps sp) (hr : Room k X.A) (hb : Binds X.K fd ps ds) (hd : Vals dvs ds) (hx : Passes CX X E) (ha : PA X (e :: es) t)
    (hst : starEach (e :: es) X.env = (false, eval e X.env) :: starEach es X.env := by rfl) (hpl : (backTo pos (starEach es X.env)).any (·.1) = false := by rfl)
    (ht : eval (.Call (.Attribute o m apos) (e :: es) [] pos) X.env = (do
      let ov ← eval o X.env
      standAt apos.atName
      let (f, first) ← holding [ov] (getMethod ov m pl)
      callWith pos f first (backTo pos (starEach (e :: es) X.env)) (backToKw pos (keywordEach [] X.env))) := by rfl) :
    PE X (.Call (.Attribute o m apos) (e :: es) [] pos) (tMeth C m sp dvs E ta t) := by
  intro pins s σ H Q I h
  refine PySem.W.methodCall_KW (pl := pl) (thn (he pins s σ H _ I h) fun u s1 ⟨x, H1, I1, rx, a, dx, fs, ex, ea, l, q⟩ => ?_) ht
  subst ex
  obtain rfl : u = Value.ref a := rx
  refine getmeth_ok I1 ea c hm l ?_
  refine PySem.W.callWith_K (first := [.ref a]) (h₀ := X.base) I.ok.mod.kin hm.kp (thn (ha pos pins s1 σ H1 _ I1 q) fun us s2 ⟨vs, H2, I2, r, q2⟩ => ⟨I2.kIn, ?_⟩) hst hpl
  exact run_fn (us := .ref a :: us) (vs := .ref a :: vs) F hr hb hd hx I2 (.cons rfl r) q2
/-- o.m() -/
theorem pe_meth0 {pl : Sem Bool} (he : PE X o ta) (c : Cls X.K C) (hm : Meth X.K C m f) (F : FnOk X.prog X.w X.K X.mg X.base CX k f fd ps sp) (hr : Room k X.A) (hb : Binds X.K fd ps ds) (hd : Vals dvs ds) (hx : Passes CX X E)
    (ht : eval (.Call (.Attribute o m apos) [] [] pos) X.env = (do
      let ov ← eval o X.env
      standAt apos.atName
      let (f, first) ← holding [ov] (getMethod ov m pl)
      callWith pos f first (backTo pos (starEach [] X.env)) (backToKw pos (keywordEach [] X.env))) := by rfl) :
    PE X (.Call (.Attribute o m apos) [] [] pos) (tMeth C m sp dvs E ta tNil) := by
  intro pins s σ H Q I h
  refine PySem.W.methodCall_KW (pl := pl) (thn (he pins s σ H _ I h) fun u s1 ⟨x, H1, I1, rx, a, dx, fs, ex, ea, l, q⟩ => ?_) ht
  subst ex
  obtain rfl : u = Value.ref a := rx
  refine getmeth_ok I1 ea c hm l ?_
  exact PySem.W.callWith_K0 (first := [.ref a]) I1.kIn hm.kp (run_fn (us := [.ref a]) (vs := [.ref a]) F hr hb hd hx I1 (.cons rfl .nil) q)

/-- what a class must have to be made -/
structure Mk (K : PySem.W.Frag) (C f : Addr) : Prop where
  makes : PySem.W.makesIn K C = true
  init : PySem.W.findIn K (.ref C) "__init__" = some (some (.ref f))
  fn : PySem.W.isFn K (.ref f) = true
  kp : PySem.W.keepIn K (.ref C) = true

theorem run_make {pins : List (Addr × Obj)} {σ : St} {H : Hp} {s : Shared} {Q : VK} {us : List Value} {vs : List V} (M : Mk X.K C f) (F : FnOk X.prog X.w X.K X.mg X.base CX k f fd ps sp) (hr : Room (k + 1) X.A) (hb : Binds X.K fd ps ds) (hd : Vals dvs ds)
    (hx : Passes CX X E) (I : Inv X pins σ H s) (r : Vals vs us)
    (h : ∀ x dx, H x = none → H dx = none → dx ≠ x → sp (.ref x :: (vs ++ dvs)) (upd (upd H dx (.own x)) x (.ins C dx [])) (fun v H2 => v = .non ∧ Q (.ref x) H2) E) :
    wpAny (model X.prog X.w) X.A (call (.ref C) us) (EP X pins σ Q) X.xe s := by
  have hq := h (s.heap.objs.size + 1) s.heap.objs.size (I.hok.fresh (Nat.le_succ _)) (I.hok.fresh (Nat.le_refl _)) (Nat.ne_of_lt (Nat.lt_succ_self _))
  have I2 := Inv.made (C := C) I
  have r2 : Vals (V.ref (s.heap.objs.size + 1) :: (vs ++ dvs)) (Value.ref (s.heap.objs.size + 1) :: (us ++ ds)) := .cons rfl (r.append hd)
  have hl : (Value.ref (s.heap.objs.size + 1) :: us ++ ds).length = ps.length := by
    have e := r2.length
    rw [F.len _ _ _ _ hq] at e
    exact e.symm
  refine wpAny_call (make_map (f := f) I.kIn M.makes M.init (beq_iff_eq.mp M.fn) (codeAny_mono (F.run _ X.stack _ _ ⟨Value.ref (s.heap.objs.size + 1) :: us, []⟩ (Value.ref (s.heap.objs.size + 1) :: (us ++ ds)) _ _ E (hr.make C us [])
    (I2.env0.make C us []) (hb _ (Value.ref (s.heap.objs.size + 1) :: us) I2.kIn hl) r2 hq) fun r s' hq' => ?_))
  cases r with
  | error e => exact hx pins σ _ _ e s' I2 hq'
  | ok fl =>
    cases fl with
    | ret u =>
      obtain ⟨v, H', I3, rv, ev, q3⟩ := I2.after hq'
      subst ev
      exact ⟨rv, ⟨V.ref (s.heap.objs.size + 1), H', I3, rfl, q3⟩⟩
    | next => exact False.elim hq'
    | brk => exact False.elim hq'
    | cont => exact False.elim hq'
theorem pe_make (M : Mk X.K C f) (F : FnOk X.prog X.w X.K X.mg X.base CX k f fd ps sp) (hr : Room (k + 1) X.A) (hg : Gl X x) (hm : X.mg x = some (.ref C)) (hb : Binds X.K fd ps ds) (hd : Vals dvs ds) (hx : Passes CX X E)
    (ha : PA X (e :: es) t) (hdb : (x == ("__debug__" : Str)) = false := by decide) (he : starEach (e :: es) X.env = (false, eval e X.env) :: starEach es X.env := by rfl) (hpl : (backTo pos (starEach es X.env)).any (·.1) = false := by rfl) :
    PE X (.Call (.Name x p) (e :: es) [] pos) (tMake C sp dvs E t) := by
  intro pins s σ H Q I h
  refine wpAny_Call_Name_kw (ld_glob I hg hm ?_ hdb)
  refine PySem.W.callWith_K (h₀ := X.base) I.ok.mod.kin M.kp (thn (ha pos pins s σ H _ I h) fun us s1 ⟨vs, H1, I1, r, q⟩ => ⟨I1.kIn, ?_⟩) he hpl
  exact run_make M F hr hb hd hx I1 r q
end

section
variable {X : Cx} {CX : CXT} {k : Nat} {f C : Addr} {fd : FuncData} {ps ks : List Str} {sp : Sp} {E : XK} {x m : Str} {p pos apos kpos : Pos} {e o : Expr} {es : List Expr} {kws : List Keyword} {te ta : TE} {t tk : TA} {nm : Option Str}
variable {g : List Value → List Value → List Value} {gV : List V → List V → List V}
end

/-- names: the parameters first -/
structure FnScope (N P : List Str) (sc : Scope) : Prop where
  kind : sc.kind = .function
  co : sc.isCoroutine = false
  gen : sc.isGenerator = false
  nd : N.Nodup
  pre : N.take P.length = P
  par : ∀ x ∈ P, sc.names.lookup x = some .local ∨ sc.names.lookup x = some .cell
  nofree : ∀ y ∈ sc.names, y.2 ≠ .free

theorem bindL_out {kindOf : Str → Option NameKind} {x : Str} : ∀ {binds : List (Str × Value)} {m : Str → Option Value}, (∀ v, (x, v) ∉ binds) → bindL kindOf binds m x = m x
  | [], _, _ => rfl
  | (n, v) :: r, m, h => by
    unfold bindL
    rw [bindL_out fun w hw => h w (List.mem_cons_of_mem _ hw)]
    split
    · have : x ≠ n := by rintro rfl; exact h v List.mem_cons_self
      simp [this]
    · rfl
theorem bindC_out {kindOf : Str → Option NameKind} {x : Str} : ∀ {binds : List (Str × Value)} {m : Str → Option Value}, (∀ v, (x, v) ∉ binds) → bindC kindOf binds m x = m x
  | [], _, _ => rfl
  | (n, v) :: r, m, h => by
    unfold bindC
    rw [bindC_out fun w hw => h w (List.mem_cons_of_mem _ hw)]
    split
    · rfl
    · have : x ≠ n := by rintro rfl; exact h v List.mem_cons_self
      simp [this]
theorem bindL_get {kindOf : Str → Option NameKind} {x : Str} {v : Value} : ∀ {P : List Str} {vs : List Value} {i : Nat} {m : Str → Option Value}, P.Nodup → P[i]? = some x → vs[i]? = some v → kindOf x = some .local →
    bindL kindOf (P.zip vs) m x = some v
  | [], _, _, _, _, h, _, _ => by simp at h
  | _ :: _, [], _, _, _, _, h, _ => by simp at h
  | p :: P, w :: vs, 0, m, nd, h1, h2, hk => by
    simp at h1 h2; subst h1; subst h2
    show bindL kindOf ((p, w) :: P.zip vs) m p = _
    unfold bindL
    rw [bindL_out fun v hv => (List.nodup_cons.mp nd).1 (List.of_mem_zip hv).1, if_pos hk]
    simp
  | p :: P, w :: vs, i + 1, m, nd, h1, h2, hk => by
    show bindL kindOf ((p, w) :: P.zip vs) m x = _
    unfold bindL
    exact bindL_get (i := i) (List.nodup_cons.mp nd).2 (by simpa using h1) (by simpa using h2) hk
theorem bindC_get {kindOf : Str → Option NameKind} {x : Str} {v : Value} : ∀ {P : List Str} {vs : List Value} {i : Nat} {m : Str → Option Value}, P.Nodup → P[i]? = some x → vs[i]? = some v → kindOf x ≠ some .local →
    bindC kindOf (P.zip vs) m x = some v
  | [], _, _, _, _, h, _, _ => by simp at h
  | _ :: _, [], _, _, _, _, h, _ => by simp at h
  | p :: P, w :: vs, 0, m, nd, h1, h2, hk => by
    simp at h1 h2; subst h1; subst h2
    show bindC kindOf ((p, w) :: P.zip vs) m p = _
    unfold bindC
    rw [bindC_out fun v hv => (List.nodup_cons.mp nd).1 (List.of_mem_zip hv).1, if_neg hk]
    simp
  | p :: P, w :: vs, i + 1, m, nd, h1, h2, hk => by
    show bindC kindOf ((p, w) :: P.zip vs) m x = _
    unfold bindC
    exact bindC_get (i := i) (List.nodup_cons.mp nd).2 (by simpa using h1) (by simpa using h2) hk

/-- the names' values at the entry -/
def start (N : List Str) (vs : List V) : St := vs.map some ++ List.replicate (N.length - vs.length) none

/-- the context of a def's body, at its entry; an exception leaves the frame, then lies as CX says -/
def cxOf (CX : CXT) (P : Program) (w : World) (K : PySem.W.Frag) (mg : Str → Option Value) (base : Heap) (N : List Str) (qual : Str) (scope : Scope) (f : Addr) (cd : Value) (A : Around) (outer : List Env) (s : Shared) (H : Hp) (E : XK) : Cx where
  prog := P
  w := w
  K := K
  mg := mg
  base := base
  A := A.deeper (envOfC qual scope s.heap.objs.size f cd)
  N := N
  s₀ := s
  H₀ := H
  env := envOfC qual scope s.heap.objs.size f cd
  outer := outer
  stack := envOfC qual scope s.heap.objs.size f cd :: outer
  ex := []
  calm := true
  fn := fun _ => true
  pn := []
  xe := fun e s' => wpAny (model P w) (A.deeper (envOfC qual scope s.heap.objs.size f cd)) (leaving (envOfC qual scope s.heap.objs.size f cd) e) (fun _ s'' => CX outer H s E e s'') (fun e' s'' => CX outer H s E e' s'') s'

theorem cell_has {sc : Scope} {n : Nat} {x : Str} (h : sc.names.lookup x = some .cell) : ∃ c, (cellsFrom n sc.names []).lookup x = some c := by
  have q := PySem.W.cellsFrom_some sc.names n [] (.inl h)
  exact Option.isSome_iff_exists.mp q

theorem inv_start {CX : CXT} {P : Program} {w : World} {K : PySem.W.Frag} {mg : Str → Option Value} {base : Heap} {N ps : List Str} {qual : Str} {scope : Scope} {f : Addr} {cd : Value} {A : Around} {outer : List Env} {s s1 : Shared} {H : Hp} {E : XK} {us : List Value} {vs : List V}
    (S : FnScope N ps scope) (hd : A.handled = none) (e0 : Env0 P w K mg base A outer s H) (hl : vs.length = ps.length) (r : Vals vs us)
    (x : InCallC s s.heap.objs.size (bindL (envOfC qual scope s.heap.objs.size f cd).kindOf (ps.zip us) fun _ => none) (cellsFrom (s.heap.objs.size + 1) scope.names []) (bindC (envOfC qual scope s.heap.objs.size f cd).kindOf (ps.zip us) fun _ => none) s1) :
    Inv (cxOf CX P w K mg base N qual scope f cd A outer s H E) [] (start N vs) H s1 := by
  have hpl : ps.length ≤ N.length := by have := congrArg List.length S.pre; rw [List.length_take] at this; omega
  obtain ⟨h1, tk, rfl, hk⟩ := x.done
  have noA : ∀ b : Addr, b ∉ (cxOf CX P w K mg base N qual scope f cd A outer s H E).ex := fun b z => absurd (show b ∈ ([] : List Addr) from z) (by simp)
  refine ⟨⟨e0.mod, S.kind, rfl, rfl, Nat.le_refl _, fun y z c h1 h2 => ?_, fun y hy => ?_, fun y c _ h => ?_, fun _ => hd, Around.frames_deeper e0.frames, .inr ⟨rfl, rfl⟩, fun b z => absurd z (noA b), e0.bs, e0.bsz, fun b _ _ => noA b, fun b z => absurd z (noA b), e0.funs, e0.frf⟩,
    rfl, e0.bare, Un.kept hk, ⟨_, x.toInCall.ns, fun i y v h1 h2 h3 => ?_⟩, fun y c h => ⟨_, x.cell y c h⟩, e0.hok.fresh (Nat.le_refl _), fun y c h => ?_, fun p hp => absurd (show p ∈ ([] : List (Addr × Obj)) from hp) (by simp), e0.hok.kept hk, ?_⟩
  · exact name_of_addr x.apart (PySem.mem_of_lookup h1) (PySem.mem_of_lookup h2)
  · have hy : scope.names.lookup y = some .cell ∨ scope.names.lookup y = some .free := hy
    rcases hy with hy | hy
    · exact cell_has hy
    · exact absurd rfl (S.nofree _ (PySem.mem_of_lookup hy))
  · exact Nat.le_of_lt (x.above y c (PySem.mem_of_lookup h))
  · have hi : i < vs.length := by
      unfold start at h2
      by_cases hi : i < vs.length
      · exact hi
      · rw [List.getElem?_append_right (by simpa using hi)] at h2
        rw [List.getElem?_replicate] at h2
        split at h2 <;> cases h2
    have ha : vs[i]? = some v := by
      unfold start at h2
      rw [List.getElem?_append_left (by simpa using hi), List.getElem?_map] at h2
      cases e : vs[i]? with
      | none => rw [e] at h2; cases h2
      | some a => rw [e] at h2; cases h2; rfl
    obtain ⟨u, hu, rv⟩ := r.get ha
    have hp : ps[i]? = some y := by
      rw [← S.pre, List.getElem?_take_of_lt (by omega)]; exact h1
    have ndP : ps.Nodup := by rw [← S.pre]; exact S.nd.sublist (List.take_sublist _ _)
    refine ⟨u, rv, ?_⟩
    rcases S.par y (List.mem_of_getElem? hp) with k | k
    · exact .inl ⟨k, bindL_get ndP hp hu k⟩
    · obtain ⟨c, e⟩ := cell_has (n := s.heap.objs.size + 1) k
      refine .inr ⟨.inl k, c, e, ?_⟩
      have q := x.cell y c e
      rw [bindC_get ndP hp hu (by show scope.names.lookup y ≠ _; rw [k]; decide)] at q
      exact q
  · exact e0.hok.fresh (Nat.le_of_lt (x.above y c (PySem.mem_of_lookup h)))
  · unfold start
    show _ = N.length
    rw [List.length_append, List.length_map, List.length_replicate]
    omega

/-- THE RULE: a def (or a method) of the text, by its body. The body's reading t is chosen for each entry; it is run at the parameters' values -/
theorem fn_of {CX : CXT} {P : Program} {w : World} {K : PySem.W.Frag} {mg : Str → Option Value} {base : Heap} {k : Nat} {f : Addr} {name qual : Str} {params : Arguments} {body : List Stmt} {scope : Scope} {dV kV doc pm cdv ct oc : Value} {an od : Option Addr}
    {osl : Array (Option Value)} {N ps : List Str} {sp : Sp} (lk : K.lookup f = some ⟨oc, od, .func (PySem.W.fnOf name qual params body scope dV kV doc pm an cdv ct), osl⟩) (hcd : PySem.W.codeIn K cdv qual = true) (S : FnScope N ps scope)
    (len : ∀ vs H Q E, sp vs H Q E → vs.length = ps.length)
    (hbody : ∀ (A : Around) (outer : List Env) (s : Shared) (H : Hp) (vs : List V) (Q : VK) (E : XK), Room k (A.deeper (envOfC qual scope s.heap.objs.size f cdv)) → sp vs H Q E →
      ∃ t, PSs (cxOf CX P w K mg base N qual scope f cdv A outer s H E) body t ∧ t { nx := fun _ H' => Q .non H', rt := Q } (start N vs) H) :
    FnOk P w K mg base CX (k + 1) f (PySem.W.fnOf name qual params body scope dV kV doc pm an cdv ct) ps sp := by
  refine ⟨len, fun A outer s H args us vs Q E hr e0 hb r hsp => ?_⟩
  have hl := len _ _ _ _ hsp
  have KX : K.In s.heap := e0.mod.kin.keeps fun b o e => (e0.bs b o e).1
  have lim : s.heap.NoLimit := e0.mod.nolimit.keeps fun b o e => (e0.bs b o e).1
  have hkind : ∀ y ∈ ps.zip us, scope.names.lookup y.1 = some .local ∨ (scope.names.lookup y.1 = some .cell ∧ ((cellsFrom (s.heap.objs.size + 1) scope.names []).lookup y.1).isSome = true) := fun ⟨n, v⟩ hy => by
    rcases S.par n (List.of_mem_zip hy).1 with q | q
    · exact .inl q
    · exact .inr ⟨q, PySem.W.cellsFrom_some _ _ _ (.inl q)⟩
  refine codeAny_call_function hr.depth (KX _ _ lk) rfl S.co S.gen rfl (PySem.W.codeRec_of KX hcd) (hb _ _ _ _ ?_)
  refine wpAny_newFunctionEnv_cells S.kind hkind fun env he s1 x => ?_
  subst he
  refine ⟨lim.keeps x.toInCall.keep, codeAny_func ?_⟩
  obtain ⟨t, ht, hq⟩ := hbody A outer s H vs Q E (hr.deeper _) hsp
  have I : Inv (cxOf CX P w K mg base N qual scope f cdv A outer s H E) [] (start N vs) H s1 := inv_start S hr.hd e0 hl r x
  refine wpAny_mono (ht [] s1 (start N vs) H _ I hq) (fun fl s' hs => ?_) fun e s' hs => hs
  have fin : ∀ {σ' : St} {H' : Hp} {v : V} {u : Value}, Inv (cxOf CX P w K mg base N qual scope f cdv A outer s H E) [] σ' H' s' → RelV v u → Q v H' → CE outer P w H s Q u s' :=
    fun {σ' H' v u} J rv q => ⟨v, H', J.os, J.bare, J.base, J.hok, rv, q⟩
  cases fl with
  | ret u =>
    obtain ⟨v, σ', H', J, rv, q⟩ := hs
    exact fin J rv q
  | next =>
    obtain ⟨σ', H', J, q⟩ := hs
    exact fin (v := V.non) (u := Value.none) J rfl q
  | brk =>
    obtain ⟨_, _, _, q⟩ := hs
    exact False.elim q
  | cont =>
    obtain ⟨_, _, _, q⟩ := hs
    exact False.elim q
end L2

namespace L2
open PySem PySem.Spec PyProof.Rows
section
variable {X : Cx} {x : Str} {p pos : Pos} {e : Expr} {es : List Expr} {t : TA} {id T : String} {r : List V → Hp → VK → Prop}

def tCB (r : List V → Hp → VK → Prop) (t : TA) : TE := fun σ H Q => t σ H fun vs H1 => r vs H1 Q
/-- f(e, ..), f a built-in function -/
theorem pe_callB (hc : CallR X (.builtin id) r) (hg : Gl X x) (hm : X.mg x = none) (hv : bootBuiltins x = some (.builtin id)) (ha : PA X (e :: es) t) (hn : x ≠ "__name__" := by decide) (hdb : (x == ("__debug__" : Str)) = false := by decide)
    (he : starEach (e :: es) X.env = (false, eval e X.env) :: starEach es X.env := by rfl) (hpl : (backTo pos (starEach es X.env)).any (·.1) = false := by rfl) : PE X (.Call (.Name x p) (e :: es) [] pos) (tCB r t) := by
  intro pins s σ H Q I h
  refine wpAny_Call_Name_kw (ld_blt I hg hm hv ?_ hn hdb)
  exact PyProof.Rows.callWith_builtin1 (thn (ha pos pins s σ H _ I h) fun us s1 ⟨vs, H1, I1, r1, q1⟩ => hc pins s1 σ H1 vs us Q I1 r1 q1) he hpl
/-- T(e, ..), T a built-in type -/
theorem pe_callTy (hc : CallR X (.type T) r) (hg : Gl X x) (hm : X.mg x = none) (hv : bootBuiltins x = some (.type T)) (ha : PA X (e :: es) t) (hn : x ≠ "__name__" := by decide) (hdb : (x == ("__debug__" : Str)) = false := by decide)
    (he : starEach (e :: es) X.env = (false, eval e X.env) :: starEach es X.env := by rfl) (hpl : (backTo pos (starEach es X.env)).any (·.1) = false := by rfl) : PE X (.Call (.Name x p) (e :: es) [] pos) (tCB r t) := by
  intro pins s σ H Q I h
  refine wpAny_Call_Name_kw (ld_blt I hg hm hv ?_ hn hdb)
  exact PyProof.Rows.callWith_type1 (thn (ha pos pins s σ H _ I h) fun us s1 ⟨vs, H1, I1, r1, q1⟩ => hc pins s1 σ H1 vs us Q I1 r1 q1) he hpl
end
end L2

namespace HT
open PySem PyProof.Rows

section
open PySem.SeqAt
open PySem.AutoSeq1 (wpAny_loadPart')
open PySem.MeetsSeq PySem.MeetsSeq2 PySem.MeetsSeq3

end

section
variable {prog : Program} {w : World} {A : Around} {E : Value → Shared → Prop} {s : Shared}

/-- a slice's bound as a place among n (d where it is left out) -/
def sIx (n d : Nat) : Option Int → Nat
  | none => d
  | some v => if v < 0 then (v + (n : Int)).toNat else min v.toNat n
theorem sIx_none (n d : Nat) : sIx n d none = d := rfl
theorem sIx_nat (n d k : Nat) : sIx n d (some (k : Int)) = min k n := by
  show (if (k : Int) < 0 then ((k : Int) + (n : Int)).toNat else min (k : Int).toNat n) = min k n
  rw [if_neg (by omega), Int.toNat_natCast]
end
end HT

namespace L2
open PySem PySem.Spec PyProof.Rows

abbrev TO := St → Hp → (Option Int → Hp → Prop) → Prop
/-- a slice's part (left out, or an int) -/
def PO (X : Cx) (e : Option Expr) (t : TO) : Prop :=
  ∀ (pins : List (Addr × Obj)) (s : Shared) (σ : St) (H : Hp) (Q : Option Int → Hp → Prop), Inv X pins σ H s → t σ H Q →
    wpAny (model X.prog X.w) X.A (evalPart e X.env) (fun u s' => ∃ o H', Inv X pins σ H' s' ∧ IsPart u o ∧ Q o H') X.xe s
def tNoPart : TO := fun _ H Q => Q none H
def tPart (t : TE) : TO := fun σ H Q => t σ H fun x H1 => ∃ i, x = .int i ∧ Q (some i) H1

theorem intsAre_of {ns : List Int} : ∀ {us : List Value}, Vals (ns.map V.int) us → IntsAre us ns := by
  induction ns with
  | nil => intro us r; rw [List.map_nil] at r; cases r; exact .nil
  | cons n ns ih =>
    intro us r
    rw [List.map_cons] at r
    cases r with
    | cons r1 r2 =>
      obtain ⟨t, e⟩ := r1
      subst e
      exact .cons n t (ih r2)

section
variable {X : Cx} {e : Expr} {te : TE} {lo hi : Option Expr} {tl th : TO} {pos p2 : Pos}

theorem po_none : PO X none tNoPart := by
  intro pins s σ H Q I h
  rw [evalPart_none]
  exact wpAny_pure ⟨none, H, I, .none, h⟩
theorem po_some (h : PE X e te) : PO X (some e) (tPart te) := by
  intro pins s σ H Q I hw
  rw [evalPart_some]
  refine thn (h pins s σ H _ I hw) fun u s1 ⟨x, H1, I1, r1, q1⟩ => ?_
  obtain ⟨i, rfl, q⟩ := q1
  obtain ⟨t, rfl⟩ := r1
  exact ⟨some i, H1, I1, .int i t, q⟩

/-- what a slice of a value is, by values: the slice object stands at sl -/
def SlR (X : Cx) (r : V → Option Int → Option Int → Hp → VK → Prop) : Prop :=
  ∀ (pins : List (Addr × Obj)) (s : Shared) (σ : St) (H : Hp) (x : V) (v vl vu : Value) (lo hi : Option Int) (sl : Addr) (Q : VK), Inv X pins σ H s → RelV x v → s.heap.IsSliceOf sl vl vu .none → IsPart vl lo → IsPart vu hi → r x lo hi H Q →
    ∃ T id, typeLookup (.type T) "__getitem__" = pure (some (.builtin id)) ∧ s.TypeIs v T ∧ wpAny (model X.prog X.w) X.A (getItem v (.ref sl)) (EP X pins σ Q) X.xe s
theorem SlR.or {r r' : V → Option Int → Option Int → Hp → VK → Prop} (h : SlR X r) (h' : SlR X r') : SlR X (fun x lo hi H Q => r x lo hi H Q ∨ r' x lo hi H Q) := by
  intro pins s σ H x v vl vu lo hi sl Q I rx hs pl pu q
  rcases q with q | q
  · exact h pins s σ H x v vl vu lo hi sl Q I rx hs pl pu q
  · exact h' pins s σ H x v vl vu lo hi sl Q I rx hs pl pu q
def tSl (r : V → Option Int → Option Int → Hp → VK → Prop) (te : TE) (tl th : TO) : TE := fun σ H Q => te σ H fun x H1 => tl σ H1 fun l H2 => th σ H2 fun u H3 => r x l u H3 Q
/-- a[lo:hi], any a -/
theorem pe_slice {r : V → Option Int → Option Int → Hp → VK → Prop} (hr : SlR X r) (he : PE X e te) (hl : PO X lo tl) (hu : PO X hi th) : PE X (.Subscript e (.Slice lo hi none p2) pos) (tSl r te tl th) := by
  intro pins s σ H Q I h
  refine Subscript_ (thn (he pins s σ H _ I h) fun v s1 ⟨x, H1, I1, r1, q1⟩ => ?_)
  refine wpAny_Slice (thn (hl pins s1 σ H1 _ I1 q1) fun vl s2 ⟨l, H2, I2, pl, q2⟩ => thn (hu pins s2 σ H2 _ I2 q2) fun vu s3 ⟨u, H3, I3, pu, q3⟩ => ?_)
  rw [evalPart_none]
  refine wpAny_pure ?_
  have I4 : Inv X pins σ H3 { s3 with heap := s3.heap.push { cls := .type "slice", data := .fields #[vl, vu, .none] } } := I3.kept (t' := s3.toks) fun b ob q => Heap.get?_push_of_some _ q
  obtain ⟨T, id, hT, ht, hg⟩ := hr pins { s3 with heap := s3.heap.push { cls := .type "slice", data := .fields #[vl, vu, .none] } } σ H3 x v vl vu l u s3.heap.objs.size Q I4 r1 (Heap.IsSliceOf.new ..) pl pu q3
  show wpAny (model X.prog X.w) X.A (subscriptTail e (.Slice lo hi none p2) v (.ref s3.heap.objs.size)) (EP X pins σ Q) X.xe { s3 with heap := s3.heap.push { cls := .type "slice", data := .fields #[vl, vu, .none] } }
  exact tail_any (ops := [.ref s3.heap.objs.size, v]) ht hT hg (by with_unfolding_all rfl)

/-- the items of xs[lo:hi] -/
def cutV (xs : List V) (lo hi : Option Int) : List V := (xs.drop (HT.sIx xs.length 0 lo)).take (HT.sIx xs.length xs.length hi - HT.sIx xs.length 0 lo)
theorem cutV_length (xs : List V) (lo hi : Option Int) : (cutV xs lo hi).length ≤ xs.length := by
  unfold cutV
  rw [List.length_take, List.length_drop]
  omega
end
end L2

namespace L2
open PySem PySem.Spec PyProof.Rows

/-- the place that an index of any sign means -/
def ixN (n : Nat) (i : Int) : Option Nat := if 0 ≤ i then (if i < n then some i.toNat else none) else if -(n : Int) ≤ i then some (i + n).toNat else none
def atI {α : Type} (xs : List α) (i : Int) : Option α := (ixN xs.length i).bind fun j => xs[j]?
theorem ixN_seq {n : Nat} {i : Int} {j : Nat} (h : ixN n i = some j) : seqIndex? i n = some j ∧ j < n ∧ -(n : Int) ≤ i ∧ i < n := by
  unfold ixN at h
  by_cases h0 : 0 ≤ i
  · rw [if_pos h0] at h
    by_cases h1 : i < n
    · rw [if_pos h1] at h
      have e : i.toNat = j := Option.some.inj h
      exact ⟨by rw [seqIndex_of h0 h1, e], by omega, by omega, h1⟩
    · rw [if_neg h1] at h; cases h
  · rw [if_neg h0] at h
    by_cases h1 : -(n : Int) ≤ i
    · rw [if_pos h1] at h
      have e : (i + n).toNat = j := Option.some.inj h
      exact ⟨by rw [seqIndex_neg (by omega) h1, e], by omega, h1, by omega⟩
    · rw [if_neg h1] at h; cases h
theorem atI_get {α : Type} {xs : List α} {i : Int} {v : α} (h : atI xs i = some v) : ∃ j, seqIndex? i xs.length = some j ∧ xs[j]? = some v ∧ j < xs.length ∧ -(xs.length : Int) ≤ i ∧ i < xs.length := by
  unfold atI at h
  cases e : ixN xs.length i with
  | none => rw [e] at h; cases h
  | some j =>
    rw [e] at h
    obtain ⟨h1, h2, h3, h4⟩ := ixN_seq e
    exact ⟨j, h1, h, h2, h3, h4⟩
theorem atI_nat {α : Type} {xs : List α} {j : Nat} {v : α} (h : xs[j]? = some v) : atI xs (j : Int) = some v := by
  have hj : j < xs.length := (List.getElem?_eq_some_iff.mp h).1
  have e : ixN xs.length (j : Int) = some j := by
    unfold ixN
    rw [if_pos (by omega), if_pos (by omega)]; simp
  unfold atI; rw [e]; exact h
/-- what stands as an index of a plain subscript -/
def PlainIx (b : Expr) : Prop := ∀ o i, subscripted b false o i = operate [o, i] (getItem o i)
/-- a subscript by values -/
def IxR (X : Cx) (r : R2) : Prop :=
  ∀ (value slice : Expr) (pins : List (Addr × Obj)) (s : Shared) (σ : St) (H : Hp) (x y : V) (v u : Value) (Q : VK), Inv X pins σ H s → RelV x v → RelV y u → r x y H Q →
    subscripted slice false v u = operate [v, u] (getItem v u) → wpAny (model X.prog X.w) X.A (subscriptTail value slice v u) (EP X pins σ Q) X.xe s
/-- a call of a builtin's method by values: the receiver, the arguments -/
def MtR (X : Cx) (id : String) (r : V → List V → Hp → VK → Prop) : Prop :=
  ∀ (pins : List (Addr × Obj)) (s : Shared) (σ : St) (H : Hp) (x : V) (xs : List V) (v : Value) (us : List Value) (Q : VK), Inv X pins σ H s → RelV x v → Vals xs us → r x xs H Q →
    wpAny (model X.prog X.w) X.A (call (.builtin id) (v :: us)) (EP X pins σ Q) X.xe s
section
variable {X : Cx} {a b : Expr} {ta tb : TE} {pos : Pos}
theorem IxR.or {r r' : R2} (h : IxR X r) (h' : IxR X r') : IxR X (fun x y H Q => r x y H Q ∨ r' x y H Q) := by
  intro value slice pins s σ H x y v u Q I rx ry q hs
  rcases q with q | q
  · exact h value slice pins s σ H x y v u Q I rx ry q hs
  · exact h' value slice pins s σ H x y v u Q I rx ry q hs
theorem MtR.or {id : String} {r r' : V → List V → Hp → VK → Prop} (h : MtR X id r) (h' : MtR X id r') : MtR X id (fun x xs H Q => r x xs H Q ∨ r' x xs H Q) := by
  intro pins s σ H x xs v us Q I rx rs q
  rcases q with q | q
  · exact h pins s σ H x xs v us Q I rx rs q
  · exact h' pins s σ H x xs v us Q I rx rs q
/-- a[b] -/
theorem pe_ix {r : R2} (hr : IxR X r) (ha : PE X a ta) (hb : PE X b tb) (hs : PlainIx b) : PE X (.Subscript a b pos) (tOp r ta tb) := by
  intro pins s σ H Q I h
  exact Subscript_ (binT ha hb I h fun v u s2 x y H2 I2 rx ry q => hr a b pins s2 σ H2 x y v u Q I2 rx ry q (hs _ _))

def rIxL (K : PySem.W.Frag) : R2 := fun x y H Q => ∃ p xs i v, x = .ref p ∧ y = .int i ∧ SqL K H p xs ∧ atI xs i = some v ∧ Q v H
def rIxT (K : PySem.W.Frag) : R2 := fun x y H Q => ∃ p xs i v, x = .ref p ∧ y = .int i ∧ SqT K H p xs ∧ atI xs i = some v ∧ Q v H
theorem ix_list : IxR X (rIxL X.K) := by
  intro value slice pins s σ H x y v u Q I rx ry h hs
  obtain ⟨p, xs, i, z, rfl, rfl, hq, he, q⟩ := h
  cases rx
  obtain ⟨t, rfl⟩ := ry
  obtain ⟨its, r, pl, hz⟩ := I.list hq
  obtain ⟨j, h1, h2, h3, h4, h5⟩ := atI_get he
  obtain ⟨w, ew, rw'⟩ := r.get h2
  have hl := r.length
  have hn := line63
  have fin : EP X pins σ Q w s := ⟨z, H, I, rw', q⟩
  by_cases h0 : 0 ≤ i
  · have hj : i.toNat = j := by
      rw [seqIndex_of h0 h5] at h1
      exact Option.some.inj h1
    exact item_listR pl.isList h0 (by omega) (by rw [hj]; simpa using ew) fin hs
  · have hj : (i + (its.toArray.size : Int)).toNat = j := by
      rw [seqIndex_neg (by omega) h4] at h1
      rw [List.size_toArray, ← hl]
      exact Option.some.inj h1
    exact subscriptTail_builtinR (x := w) pl.isList.typeIs slot_list_getitem.lookup
      (wpAny_getItem_list_neg (Q := fun r s' => r = w ∧ EP X pins σ Q r s') pl.isList (by omega) (by rw [List.size_toArray] <;> omega) (by omega) (by rw [hj]; simpa using ew) ⟨rfl, fin⟩) hs
theorem ix_tup : IxR X (rIxT X.K) := by
  intro value slice pins s σ H x y v u Q I rx ry h hs
  obtain ⟨p, xs, i, z, rfl, rfl, hq, he, q⟩ := h
  cases rx
  obtain ⟨t, rfl⟩ := ry
  obtain ⟨its, r, pl, hz⟩ := I.tuple hq
  obtain ⟨j, h1, h2, h3, h4, h5⟩ := atI_get he
  obtain ⟨w, ew, rw'⟩ := r.get h2
  have hl := r.length
  have hn := line63
  have fin : EP X pins σ Q w s := ⟨z, H, I, rw', q⟩
  exact subscriptTail_builtinR (x := w) pl.typeIs slot_tuple_getitem.lookup
    (getItem_tuple (j := j) (Q := fun r s' => r = w ∧ EP X pins σ Q r s') pl (by omega) (by omega) (by rw [List.size_toArray, ← hl]; exact h1) (by simpa using ew) ⟨rfl, fin⟩) hs
/-- the list's object behind a store -/
theorem mapSeq_set (its : List Value) (n j : Nat) (u : Value) : Obj.mapSeq (·.setIfInBounds j u) { cls := .type "list", data := .seq its.toArray n } = { cls := .type "list", data := .seq (its.set j u).toArray n } := by
  simp [Obj.mapSeq]
theorem Inv.lst {pins : List (Addr × Obj)} {σ : St} {H : Hp} {s : Shared} {p : Addr} {xs : List V} (I : Inv X pins σ H s) (h : H p = some (.lst xs)) :
    ∃ (its : List Value) (n : Nat), Vals xs its ∧ s.heap.get? p = some { cls := .type "list", data := .seq its.toArray n } ∧ xs.length ≤ sizeLine := by
  obtain ⟨z, its, n, r, e⟩ := I.hok p _ h
  exact ⟨its, n, r, e, z⟩
/-- the list at p is written by an update of its object -/
theorem Inv.lstUpd {pins : List (Addr × Obj)} {σ : St} {H : Hp} {s : Shared} {p : Addr} {xs ys : List V} {its its' : List Value} {n n' : Nat} {f : Obj → Obj} (I : Inv X pins σ H s) (h : H p = some (.lst xs))
    (ho : s.heap.get? p = some { cls := .type "list", data := .seq its.toArray n }) (hf : f { cls := .type "list", data := .seq its.toArray n } = { cls := .type "list", data := .seq its'.toArray n' }) (r : Vals ys its') (hz : ys.length ≤ sizeLine) (t : Nat) :
    Inv X pins σ (upd H p (.lst ys)) { s with heap := s.heap.update p f, toks := t } := by
  have e : (s.heap.update p f).get? p = some { cls := .type "list", data := .seq its'.toArray n' } := by
    rw [Heap.get?_update_self f ho (by rw [hf] <;> rfl), hf]
  refine I.write (x := p) (e := p) (by rw [h]; trivial) (.inl rfl) (fun b u hb q => (Heap.get?_update_other _ _ (Ne.symm hb)).trans q) ⟨_, e⟩ ?_
  exact ⟨hz, its', n', r, e⟩
def rSetL : V → V → V → Hp → (Hp → Prop) → Prop := fun o i v H Q => ∃ p xs k j, o = .ref p ∧ i = .int k ∧ H p = some (.lst xs) ∧ ixN xs.length k = some j ∧ Q (upd H p (.lst (xs.set j v)))
theorem set_list : PSet X rSetL := by
  intro pins s σ H o i v ov iv u Q I ro ri rv h
  obtain ⟨p, xs, k, j, rfl, rfl, hp, hj, q⟩ := h
  cases ro
  obtain ⟨t, rfl⟩ := ri
  obtain ⟨its, n, r, ho, hz⟩ := I.lst hp
  obtain ⟨h1, h2, h3, h4⟩ := ixN_seq hj
  have hl := r.length
  have hn := line63
  have I' : Inv X pins σ (upd H p (.lst (xs.set j v))) { s with heap := s.heap.update p (Obj.mapSeq (·.setIfInBounds j u)) } :=
    I.lstUpd hp ho (mapSeq_set its n j u) (r.set rv j) (by rw [List.length_set]; exact hz) s.toks
  by_cases h0 : 0 ≤ k
  · have hk : k.toNat = j := by
      rw [seqIndex_of h0 h4] at h1
      exact Option.some.inj h1
    exact PySem.W.ki_setAt ho h0 (by omega) (by rw [List.size_toArray, ← hl]; exact h4) (by rw [hk]; exact ⟨_, I', q⟩)
  · have hk : (k + (its.toArray.size : Int)).toNat = j := by
      rw [seqIndex_neg (by omega) h3] at h1
      rw [List.size_toArray, ← hl]
      exact Option.some.inj h1
    exact PySem.W.ki_setBack ho (by omega) (by rw [List.size_toArray, ← hl]; exact h3) (by omega) (by rw [hk]; exact ⟨_, I', q⟩)

theorem slice_bounds (lo hi : Option Int) (n : Nat) : (sliceBounds lo hi none n).1 = ((HT.sIx n 0 lo : Nat) : Int) ∧ (sliceBounds lo hi none n).2.1 = ((HT.sIx n n hi : Nat) : Int) ∧ (sliceBounds lo hi none n).2.2 = 1 := by
  refine ⟨?_, ?_, rfl⟩
  · cases lo with
    | none => simp [sliceBounds, HT.sIx]
    | some i =>
      simp only [sliceBounds, HT.sIx, Option.getD_none, show (1 : Int) > 0 by decide, if_true]
      by_cases h : i < 0
      · simp only [h, if_true] <;> omega
      · simp only [h, if_false] <;> omega
  · cases hi with
    | none => simp [sliceBounds, HT.sIx]
    | some i =>
      simp only [sliceBounds, HT.sIx, Option.getD_none, show (1 : Int) > 0 by decide, if_true]
      by_cases h : i < 0
      · simp only [h, if_true] <;> omega
      · simp only [h, if_false] <;> omega
theorem slicePick_cut (its : List Value) (lo hi : Option Int) : slicePick its.toArray lo hi none = ((its.drop (HT.sIx its.length 0 lo)).take (HT.sIx its.length its.length hi - HT.sIx its.length 0 lo)).toArray := by
  obtain ⟨h1, h2, h3⟩ := slice_bounds lo hi its.toArray.size
  unfold slicePick
  rw [h1, h2, h3]
  simp only [sliceRange_one, pick_run, List.size_toArray] <;> rfl
/-- xs[lo:hi] of a list: a new list -/
def rSlL (K : PySem.W.Frag) : V → Option Int → Option Int → Hp → VK → Prop := fun x lo hi H Q => ∃ a xs, x = .ref a ∧ SqL K H a xs ∧ ∀ p, H p = none → Q (.ref p) (upd H p (.lst (cutV xs lo hi)))
theorem sl_list : SlR X (rSlL X.K) := by
  intro pins s σ H x v vl vu lo hi sl Q I rx hs pl pu h
  obtain ⟨a, xs, rfl, hx, q⟩ := h
  cases rx
  obtain ⟨its, r, ht, hz⟩ := I.list hx
  have hlen := r.length
  refine ⟨"list", _, slot_list_getitem.lookup, ht.isList.typeIs, ?_⟩
  refine wpAny_getItem_list_slice ht.isList hs pl pu .none (by simp) ?_ (by rw [List.size_toArray] <;> omega)
  rw [slicePick_cut, ← hlen]
  refine ⟨.ref s.heap.objs.size, _, I.laid (t' := s.toks) (o := .lst (cutV xs lo hi)) (fun b ob q => Heap.get?_push_of_some _ q) (Nat.le_refl _) ?_, rfl, q _ (I.hok.fresh (Nat.le_refl _))⟩
  exact ⟨Nat.le_trans (cutV_length xs lo hi) hz, _, 0, (r.drop (HT.sIx xs.length 0 lo)).take (HT.sIx xs.length xs.length hi - HT.sIx xs.length 0 lo), Heap.get?_push_size _ rfl⟩

theorem call_len_seq : CallR X (.builtin "len") (fun xs H Q => ∃ p ys, xs = [.ref p] ∧ (SqL X.K H p ys ∨ SqT X.K H p ys) ∧ Q (.int ys.length) H) := by
  intro pins s σ H xs us Q I r h
  obtain ⟨p, ys, rfl, hq, q⟩ := h
  obtain ⟨u, rfl, rx⟩ := vals1 r
  cases rx
  have hn := line63
  rcases hq with hq | hq
  · obtain ⟨its, r', pl, hz⟩ := I.list hq
    have hlen := r'.length
    exact Calls.call_len_list pl.isList (by simp only [List.size_toArray] <;> omega) ⟨.int ys.length, H, I.tok _, ⟨s.toks + 1, by rw [List.size_toArray, hlen]⟩, q⟩
  · obtain ⟨its, r', pl, hz⟩ := I.tuple hq
    have hlen := r'.length
    exact len_tuple pl (by simp only [List.size_toArray] <;> omega) ⟨.int ys.length, H, I.tok _, ⟨s.toks + 1, by rw [List.size_toArray, hlen]⟩, q⟩
theorem CallR.or {f : Value} {r r' : List V → Hp → VK → Prop} (h : CallR X f r) (h' : CallR X f r') : CallR X f (fun xs H Q => r xs H Q ∨ r' xs H Q) := by
  intro pins s σ H xs us Q I rs q
  rcases q with q | q
  · exact h pins s σ H xs us Q I rs q
  · exact h' pins s σ H xs us Q I rs q
theorem call_list_of : CallR X (.type "list") (fun xs H Q => ∃ p ys, xs = [.ref p] ∧ (SqL X.K H p ys ∨ SqT X.K H p ys) ∧ ∀ l, H l = none → Q (.ref l) (upd H l (.lst ys))) := by
  intro pins s σ H xs us Q I r h
  obtain ⟨p, ys, rfl, hq, q⟩ := h
  obtain ⟨u, rfl, rx⟩ := vals1 r
  cases rx
  have fin : ∀ (its : List Value), Vals ys its → ys.length ≤ sizeLine → ∀ (h' : Heap) (c' : Nat), (∀ b o', s.heap.get? b = some o' → h'.get? b = some o') →
      h'.get? s.heap.objs.size = some { cls := .type "list", dict := none, data := .seq its.toArray c', slots := #[] } → EP X pins σ Q (.ref s.heap.objs.size) { s with heap := h' } := fun its r' hz h' c' kp e =>
    ⟨.ref s.heap.objs.size, _, I.laid (t' := s.toks) kp (Nat.le_refl _) (show ObjOk X.prog X.w _ h' _ (.lst ys) from ⟨hz, its, c', r', e⟩), rfl, q _ (I.hok.fresh (Nat.le_refl _))⟩
  rcases hq with hq | hq
  · obtain ⟨its, r', pl, hz⟩ := I.list hq
    have hlen := r'.length
    obtain ⟨o, ho, hc, n, hd⟩ := pl.isList
    exact call_list_seq p (.inl rfl) ho hc hd (fun h' c' kp e => fin its r' hz h' c' kp e) (by simp only [List.size_toArray] <;> omega)
  · obtain ⟨its, r', pl, hz⟩ := I.tuple hq
    have hlen := r'.length
    obtain ⟨o, ho, hc, n, hd⟩ := pl
    exact call_list_seq p (.inr rfl) ho hc hd (fun h' c' kp e => fin its r' hz h' c' kp e) (by simp only [List.size_toArray] <;> omega)
theorem call_tuple_of : CallR X (.type "tuple") (fun xs H Q => ∃ p ys, xs = [.ref p] ∧ ((SqL X.K H p ys ∧ ∀ l, H l = none → Q (.ref l) (upd H l (.tup ys))) ∨ (SqT X.K H p ys ∧ Q (.ref p) H))) := by
  intro pins s σ H xs us Q I r h
  obtain ⟨p, ys, rfl, h⟩ := h
  obtain ⟨u, rfl, rx⟩ := vals1 r
  cases rx
  rcases h with ⟨hq, q⟩ | ⟨hq, q⟩
  · obtain ⟨its, r', pl, hz⟩ := I.list hq
    have hlen := r'.length
    refine call_tuple_list pl.isList (fun h' kp => ?_) (by simp only [List.size_toArray] <;> omega)
    have I1 : Inv X pins σ H { s with heap := h' } := I.kept (t' := s.toks) kp
    have I2 : Inv X pins σ (upd H h'.objs.size (.tup ys)) { s with heap := h'.push { cls := .type "tuple", data := .seq its.toArray } } :=
      I1.laid (t' := s.toks) (fun b o e => Heap.get?_push_of_some _ e) (Nat.le_refl _) (show ObjOk X.prog X.w _ _ _ (.tup ys) from ⟨hz, its, r', IsTup.new _ _⟩)
    exact ⟨.ref h'.objs.size, _, I2, rfl, q _ (I1.hok.fresh (Nat.le_refl _))⟩
  · obtain ⟨its, r', pl, hz⟩ := I.tuple hq
    exact call_tuple_same pl ⟨.ref p, H, I, rfl, q⟩

/-- the value is of that builtin type -/
def tyV (K : PySem.W.Frag) (T : String) (x : V) (H : Hp) : Prop := match x with
  | .str _ => T = "str"
  | .int _ => T = "int"
  | .ref p => (T = "list" ∧ ∃ xs, SqL K H p xs) ∨ (T = "tuple" ∧ ∃ o, K.lookup p = some o ∧ o.cls = .type "tuple" ∧ o.dict = none) ∨
      (T = "dict" ∧ ((∃ kvs, H p = some (.dK kvs)) ∨ ∃ kvs, H p = some (.dT kvs))) ∨ (T = "set" ∧ ∃ S n, H p = some (.set S n))
  | _ => False
theorem tyV_is {pins : List (Addr × Obj)} {σ : St} {H : Hp} {s : Shared} {T : String} {x : V} {v : Value} (I : Inv X pins σ H s) (r : RelV x v) (ty : tyV X.K T x H) :
    s.TypeIs v T ∧ ∀ a, v = .ref a → ∃ ob, s.heap.get? a = some ob ∧ ob.dict = none := by
  cases x with
  | str z =>
    obtain ⟨t, rfl⟩ := r
    cases (show T = "str" from ty)
    exact ⟨typeIs_str s z t, fun _ e => nomatch e⟩
  | int i =>
    obtain ⟨t, rfl⟩ := r
    cases (show T = "int" from ty)
    exact ⟨typeIs_int s i t, fun _ e => nomatch e⟩
  | ref p =>
    cases r
    rcases ty with ⟨rfl, xs, hq⟩ | ⟨rfl, o, hk, hc, hd⟩ | ⟨rfl, hk⟩ | ⟨rfl, S, n, hk⟩
    · obtain ⟨its, _, pl, _⟩ := I.list hq
      refine ⟨pl.isList.typeIs, fun a e => ?_⟩
      cases e
      obtain ⟨o, n, e, c, hd, _⟩ := pl
      exact ⟨o, e, hd⟩
    · refine ⟨⟨o, I.kIn p o hk, hc⟩, fun a e => ?_⟩
      cases e
      exact ⟨o, I.kIn _ o hk, hd⟩
    · have z : ∃ o, s.heap.get? p = some o ∧ o.ExactDict := by
        rcases hk with ⟨kvs, hk⟩ | ⟨kvs, hk⟩
        · obtain ⟨_, _, _, _, o, _, _, e, ex, _⟩ := I.hok p _ hk
          exact ⟨o, e, ex⟩
        · obtain ⟨_, _, _, _, o, _, _, e, ex, _⟩ := I.hok p _ hk
          exact ⟨o, e, ex⟩
      obtain ⟨o, e, ex⟩ := z
      refine ⟨⟨o, e, ex.1⟩, fun a e2 => ?_⟩
      cases e2
      exact ⟨o, e, ex.2.1⟩
    · obtain ⟨o, _, _, _, e, ex, _⟩ := I.hok p _ hk
      refine ⟨⟨o, e, ex.1⟩, fun a e2 => ?_⟩
      cases e2
      exact ⟨o, e, ex.2.1⟩
  | _ => exact False.elim ty
def tBM0 (K : PySem.W.Frag) (T : String) (r : V → List V → Hp → VK → Prop) (to : TE) : TE := fun σ H Q => to σ H fun x H1 => tyV K T x H1 ∧ r x [] H1 Q
def tBM (K : PySem.W.Frag) (T : String) (r : V → List V → Hp → VK → Prop) (to : TE) (t : TA) : TE := fun σ H Q => to σ H fun x H1 => tyV K T x H1 ∧ t σ H1 fun xs H2 => r x xs H2 Q
variable {o e : Expr} {es : List Expr} {to : TE} {t : TA} {name : Str} {apos cpos : Pos} {T id : String} {r : V → List V → Hp → VK → Prop}
theorem pe_bm (pa : PlainAttrs T) (slot : Slot T name id) (hty : typeOf (.builtin id) = pure (.type "method_descriptor")) (hm : MtR X id r) (ho : PE X o to) (ha : PA X (e :: es) t)
    (hbase : attributeBase o name X.env (eval o X.env) = eval o X.env := by rfl)
    (hfew : ((backTo cpos (starEach (e :: es) X.env)).all (fun x => !x.1) && (backToKw cpos (keywordEach [] X.env)).all (fun x => x.1.isSome)
      && decide ((e :: es).length + ([] : List Keyword).length + (if ([] : List Keyword).isEmpty then 0 else 1) < 30)) = true := by rfl)
    (hline : (apos.endLine == cpos.line) = true := by rfl) (hs : starEach (e :: es) X.env = (false, eval e X.env) :: starEach es X.env := by rfl) (hplain : (backTo cpos (starEach es X.env)).any (·.1) = false := by rfl) :
    PE X (.Call (.Attribute o name apos) (e :: es) [] cpos) (tBM X.K T r to t) := by
  intro pins s σ H Q I h
  refine wpAny_Call_method_late hbase hfew hline rfl (thn (ho pins s σ H _ I h) fun v s1 ⟨x, H1, I1, r1, ty, q1⟩ => ?_)
  obtain ⟨h1, h2⟩ := tyV_is I1 r1 ty
  refine ⟨T, id, pa, slot, hty, h1, h2, ?_⟩
  have hA := ha cpos pins s1 σ H1 _ I1 q1
  rw [hs] at hA ⊢
  refine Calls.callWith_builtin (by show (false || (backTo cpos (starEach es X.env)).any (·.1)) = false; rw [hplain] <;> rfl) (Calls.evalArgs_plain ?_)
  exact thn hA fun us s2 ⟨vs, H2, I2, r2, q2⟩ => hm pins s2 σ H2 x vs v us Q I2 r1 r2 q2
end
end L2

namespace L2
open PySem PySem.Spec PyProof.Rows

def MtM (X : Cx) (id : String) (r : V → List V → Hp → VK → Prop) : Prop :=
  ∀ (pins : List (Addr × Obj)) (s : Shared) (σ : St) (H : Hp) (x : V) (xs : List V) (v : Value) (us : List Value) (Q : VK), Inv X pins σ H s → RelV x v → Vals xs us → r x xs H Q →
    wpAny (model X.prog X.w) X.A (call (.builtin id) (v :: us)) (EP X pins σ Q) X.xe s

theorem Vals.one : ∀ {x : V} {us : List Value}, Vals [x] us → ∃ u, us = [u] ∧ RelV x u
  | _, _, .cons r .nil => ⟨_, rfl, r⟩
theorem Vals.two : ∀ {x y : V} {us : List Value}, Vals [x, y] us → ∃ u v, us = [u, v] ∧ RelV x u ∧ RelV y v
  | _, _, _, .cons r (.cons q .nil) => ⟨_, _, rfl, r, q⟩
theorem Vals.zero : ∀ {us : List Value}, Vals [] us → us = []
  | _, .nil => rfl
theorem Vals.reverse {xs : List V} {us : List Value} (h : Vals xs us) : Vals xs.reverse us.reverse := by
  induction h with
  | nil => exact .nil
  | cons r t ih => rw [List.reverse_cons, List.reverse_cons]; exact Vals.append ih (.cons r .nil)
theorem Vals.rep {xs : List V} {us : List Value} (h : Vals xs us) : ∀ k : Nat, Vals (List.replicate k xs).flatten (List.replicate k us).flatten
  | 0 => .nil
  | k + 1 => by
    rw [List.replicate_succ, List.replicate_succ, List.flatten_cons, List.flatten_cons]
    exact Vals.append h (Vals.rep h k)
theorem foldl_rep (its : List Value) : ∀ (k : Nat) (acc : List Value),
    List.foldl (fun x1 x2 => x1 ++ x2) acc.toArray (List.replicate k its.toArray) = (acc ++ (List.replicate k its).flatten).toArray
  | 0, acc => by simp
  | k + 1, acc => by
    have e : acc.toArray ++ its.toArray = (acc ++ its).toArray := by simp
    have e2 : (acc ++ its) ++ (List.replicate k its).flatten = acc ++ (List.replicate (k + 1) its).flatten := by
      rw [List.replicate_succ, List.flatten_cons, List.append_assoc]
    rw [← e2, ← foldl_rep its k (acc ++ its), ← e, List.replicate_succ, List.foldl_cons]

section
variable {X : Cx} {pins : List (Addr × Obj)} {σ : St} {H : Hp} {s : Shared} {l b : Addr} {xs ys zs : List V}

theorem Inv.lset {its its' : List Value} {n : Nat} {f : Array Value → Array Value} {t' : Nat} (I : Inv X pins σ H s) (hH : H l = some (.lst xs))
    (e : s.heap.get? l = some { cls := .type "list", data := .seq its.toArray n }) (hf : f its.toArray = its'.toArray) (hv : Vals ys its') (hz : ys.length ≤ sizeLine) :
    Inv X pins σ (upd H l (.lst ys)) { s with heap := s.heap.update l (Obj.mapSeq f), toks := t' } := by
  have q := PySem.IsL.update e f
  rw [hf] at q
  refine I.write (x := l) (e := l) (by rw [hH]; exact trivial) (.inl rfl) (fun b' u hb hu => (Heap.get?_update_other s.heap (Obj.mapSeq f) (Ne.symm hb)).trans hu) ⟨_, q⟩ ?_
  exact ⟨hz, its', _, hv, q⟩
theorem Inv.lnew {its : List Value} {t' : Nat} (I : Inv X pins σ H s) (hv : Vals ys its) (hz : ys.length ≤ sizeLine) :
    Inv X pins σ (upd H s.heap.objs.size (.lst ys)) { s with heap := s.heap.push { cls := .type "list", data := .seq its.toArray }, toks := t' } :=
  I.laid (fun _ _ q => Heap.get?_push_of_some _ q) (Nat.le_refl _) ⟨hz, its, 0, hv, Heap.get?_push_size _ rfl⟩
theorem Inv.fresh (I : Inv X pins σ H s) : H s.heap.objs.size = none := I.hok.fresh (Nat.le_refl _)
theorem Inv.lstM (I : Inv X pins σ H s) (hH : H l = some (.lst xs)) : xs.length ≤ sizeLine ∧ ∃ (its : List Value) (n : Nat), Vals xs its ∧ xs.length = its.length ∧ s.heap.get? l = some { cls := .type "list", data := .seq its.toArray n } := by
  obtain ⟨z, its, n, r, e⟩ := I.hok l _ hH
  exact ⟨z, its, n, r, r.length, e⟩

theorem notLongL {n : Nat} (h : n ≤ sizeLine) : Builtin.List.listTooLong n = false := by
  unfold Builtin.List.listTooLong
  exact decide_eq_false (by omega)
end

section
variable {X : Cx}

def rAppend : V → List V → Hp → VK → Prop := fun x vs H Q => ∃ l xs y, x = .ref l ∧ vs = [y] ∧ H l = some (.lst xs) ∧ xs.length < sizeLine ∧ Q .non (upd H l (.lst (xs ++ [y])))
theorem mt_append : MtM X "list.append" rAppend := by
  intro pins s σ H x vs v us Q I rx rv h
  obtain ⟨l, xs, y, rfl, rfl, hH, hz, q⟩ := h
  cases rx
  obtain ⟨u, rfl, ru⟩ := rv.one
  obtain ⟨z, its, n, r, hl, e⟩ := I.lstM hH
  refine call_meets F.slot_list_append ⟨_, e, rfl⟩ F.entry_list_append (F.args_list_append_2 _ _) (PySem.list_append l its.toArray n u (by rw [List.size_toArray]; omega)) ⟨e, ?_⟩
  refine ⟨.non, _, I.lset (its' := its ++ [u]) hH e (by simp) (r.append (.cons ru .nil)) ?_, rfl, q⟩
  rw [List.length_append, List.length_singleton]
  omega

def rExtend : V → List V → Hp → VK → Prop := fun x vs H Q => ∃ l b xs zs, x = .ref l ∧ vs = [.ref b] ∧ H l = some (.lst xs) ∧ H b = some (.lst zs) ∧ xs.length + zs.length ≤ sizeLine ∧ Q .non (upd H l (.lst (xs ++ zs)))
theorem mt_extend : MtM X "list.extend" rExtend := by
  intro pins s σ H x vs v us Q I rx rv h
  obtain ⟨l, b, xs, zs, rfl, rfl, hH, hB, hz, q⟩ := h
  cases rx
  obtain ⟨u, rfl, ru⟩ := rv.one
  cases ru
  obtain ⟨z, its, n, r, hl, e⟩ := I.lstM hH
  obtain ⟨z2, its2, n2, r2, hl2, e2⟩ := I.lstM hB
  have hsz : its.toArray.size + its2.toArray.size ≤ sizeLine := by rw [List.size_toArray, List.size_toArray]; omega
  have hlong : ¬ (!its.toArray.isEmpty && Builtin.List.listTooLong (its.toArray.size + its2.toArray.size)) = true := by
    rw [notLongL hsz, Bool.and_false]
    exact Bool.false_ne_true
  refine call_meets F.slot_list_extend ⟨_, e, rfl⟩ F.entry_list_extend (F.args_list_extend_2 _ _)
    (AutoSeq1.list_extend_list_list_0 l its.toArray n b its2.toArray n2 hlong (by rw [List.size_toArray]; omega) (by omega)) ⟨e, e2, ?_⟩
  refine ⟨.non, _, I.lset (its' := its ++ its2) hH e (by simp) (r.append r2) ?_, rfl, q⟩
  rw [List.length_append]
  omega

def rCat : R2 := fun x y H Q => ∃ l b xs zs, x = .ref l ∧ y = .ref b ∧ H l = some (.lst xs) ∧ H b = some (.lst zs) ∧ xs.length + zs.length ≤ sizeLine ∧ ∀ p, H p = none → Q (.ref p) (upd H p (.lst (xs ++ zs)))
theorem op_cat : OpR X (binaryOp .Add) rCat := by
  intro pins s σ H x y v u Q I rx ry h
  obtain ⟨l, b, xs, zs, rfl, rfl, hH, hB, hz, q⟩ := h
  cases rx
  cases ry
  obtain ⟨z, its, n, r, hl, e⟩ := I.lstM hH
  obtain ⟨z2, its2, n2, r2, hl2, e2⟩ := I.lstM hB
  refine PySem.P.add_list e e2 ?_ (by rw [List.size_toArray, List.size_toArray]; omega)
  have ea : its.toArray ++ its2.toArray = (its ++ its2).toArray := by simp
  rw [ea]
  exact ⟨.ref _, _, I.lnew (t' := s.toks) (r.append r2) (by rw [List.length_append]; omega), rfl, q _ I.fresh⟩
/-- a list times an int (a negative one is nothing) -/
def rRep : R2 := fun x y H Q => ∃ l k xs, x = .ref l ∧ y = .int k ∧ H l = some (.lst xs) ∧ -(2 ^ 63) ≤ k ∧ k < 2 ^ 63 ∧ xs.length * k.toNat ≤ sizeLine ∧
  ∀ p, H p = none → Q (.ref p) (upd H p (.lst (List.replicate k.toNat xs).flatten))
theorem len_rep {α : Type} (xs : List α) (k : Nat) : (List.replicate k xs).flatten.length = k * xs.length := by
  induction k with
  | zero => simp
  | succ k ih => rw [List.replicate_succ, List.flatten_cons, List.length_append, ih, Nat.succ_mul, Nat.add_comm]
theorem op_rep : OpR X (binaryOp .Mult) rRep := by
  intro pins s σ H x y v u Q I rx ry h
  obtain ⟨l, k, xs, rfl, rfl, hH, h1, h2, hz, q⟩ := h
  cases rx
  obtain ⟨t, rfl⟩ := ry
  obtain ⟨z, its, n, r, hl, e⟩ := I.lstM hH
  have hlen : its.toArray.size * k.toNat ≤ sizeLine := by rw [List.size_toArray, ← hl]; exact hz
  have hcap : ¬ its.toArray.size * k.toNat > (2 ^ 63 - 1) / 8 := by
    have : (sizeLine : Nat) ≤ (2 ^ 63 - 1) / 8 := by decide
    omega
  have hfit : ¬ (!Builtin.List.listFitsIndex k) = true := by
    rw [fitsIndex_both h1 h2]
    exact Bool.false_ne_true
  have hlong : ¬ Builtin.List.listTooLong (its.toArray.size * k.toNat) = true := by
    rw [notLongL hlen]
    exact Bool.false_ne_true
  have hnew : List.foldl (fun x1 x2 => x1 ++ x2) #[] (List.replicate (if its.toArray.isEmpty = true then 0 else k.toNat) its.toArray) = (List.replicate k.toNat its).flatten.toArray := by
    have f0 : ∀ m : Nat, List.foldl (fun x1 x2 => x1 ++ x2) #[] (List.replicate m its.toArray) = (List.replicate m its).flatten.toArray := fun m => by
      have := foldl_rep its m []
      rw [List.nil_append] at this
      exact this
    rw [f0]
    cases its with
    | nil => simp
    | cons a r' => rw [if_neg (by simp)]
  refine wpAny_binaryOp_repeat_ref (T := "list") (U := "int") (by decide) ⟨_, e, rfl⟩ (fun s' => typeIs_int s' k t) noFill_list_mul F.fills_int_mul F.slot_int_rmul repeat_list F.slot_int_index.lookup
    (call_meets F.slot_int_rmul (typeIs_int s k t) F.entry_int_rmul (F.args_int_rmul_2 _ _) (int___rmul___int_list k t l its.toArray n)
      ⟨e, rfl, ⟨_, e, rfl⟩, call_meets F.slot_list_mul ⟨_, e, rfl⟩ F.entry_list_mul (F.args_list_mul_2 _ _) (AutoListH.list___mul___list_int_3 l its.toArray n k t hfit hcap hlong) ⟨e, ?_⟩⟩)
  rw [hnew]
  exact ⟨.ref _, _, I.lnew (t' := s.toks) (r.rep k.toNat) (by rw [len_rep, Nat.mul_comm]; exact hz), rfl, q _ I.fresh⟩

end

section
variable {prog : Program} {w : World} {A : Around} {E : Value → Shared → Prop} {s : Shared}
end

section
variable {X : Cx}
end
end L2

namespace Att
open PySem PySem.W PySem.Calls PyProof.Rows

theorem ints_of_wellAll {P : Params} {h : Heap} : ∀ (ns : List Int) (vs : List Value), WellAll P h vs (ns.map WData.int) → IntsAre vs ns := by
  intro ns
  induction ns with
  | nil =>
    intro vs w
    rw [List.map_nil] at w
    cases w
    exact .nil
  | cons n ns ih =>
    intro vs w
    rw [List.map_cons] at w
    cases w with
    | cons a b =>
      cases a
      exact .cons _ _ (ih _ b)

theorem script_of {l : OpenLaw} {n : Nat} (hn : l.most = some n) {P : Params} {h : Heap} {args : List WData} {vals : List Value}
    (hpre : l.row.toRowW.claim.pre args = true) (hwl : WellAll P h vals args) :
    ∃ a vs ns, vals = [Value.ref a] ∧ args = [WData.list (ns.map WData.int)] ∧ h.get? a = some { cls := .type "list", data := .seq vs.toArray } ∧ IntsAre vs ns ∧ ns.length ≤ n := by
  have hsh : WShape.hasAll [] args [.list .int] = true := (pre_splitW hpre).1
  have hc : l.pre.holds [] { args := args } = true := (pre_splitW hpre).2
  obtain ⟨d, r, rfl, h1, h2⟩ := hasAllW_cons hsh
  obtain rfl := hasAllW_nil h2
  obtain ⟨xs, rfl, h3⟩ := hasW_list h1
  obtain ⟨ns, rfl⟩ := items_int h3
  have hlen : ns.length ≤ n := by
    unfold OpenLaw.pre at hc
    have h4 : (WTm.not (.lt (.lit (.int (n : Int))) (.len (.arg 0)))).holds [] { args := [.list (ns.map .int)] } = true := by
      have h4 := (holds_andW hc).1
      rw [hn] at h4
      exact h4
    have h5 := condW_of h4 (w_not (w_lt w_lit (w_len_list (w_arg rfl))))
    rw [List.length_map] at h5
    refine Nat.le_of_not_lt fun q => ?_
    have q' : (n : Int) < ((ns.length : Nat) : Int) := by omega
    first
      | (rw [decide_eq_true q'] at h5; exact absurd h5 (by decide))
      | (simp at h5; omega)
  cases hwl with
  | cons w1 w2 =>
    cases w2
    cases w1 with
    | list ho hall => exact ⟨_, _, ns, rfl, rfl, ho, ints_of_wellAll ns _ hall, hlen⟩

theorem post_true (l : OpenLaw) (args : List WData) : l.row.toRowW.claim.post args (.bool true) args = true :=
  postW_of (r := l.row.toRowW) (X := (true == true))
    (show WShape.has [] (.bool true) .bool = true by first | rfl | decide | simp [WShape.has, WShape.arms, WShape.armsAll])
    (show (WTm.eq .res (.lit (.bool true))).value [] { args := args, res := some (.bool true), after := args } = some (.bool (true == true)) from w_eq_bool (w_res rfl) w_lit) rfl

/-- the same from a codeAny of the CALL (for a layer whose function contracts speak of calls) -/
theorem attach_call {l : OpenLaw} {n : Nat} {q : Program} {loose : List Str} {XP : (Str → Option Value) → Heap → Prop} {YP : World → Heap → Prop} {d : DefRec}
    (hn : l.most = some n) (hdf : d.params.defaults = [])
    (call : ∀ (w : World) (s₀ s₁ : Shared) (mg mb : Str → Option Value) (fa : Addr) (o : Obj) (pm cd doc : Value) (a : Addr) (vs : List Value) (ns : List Int),
      Ground q loose [] XP w s₀ mg mb s₁.heap → YP w s₁.heap →
      s₁.heap.get? fa = some o → o.data = .func (docDef d.name d.params d.body d.scope pm cd doc) → s₁.heap.CodeRec cd d.name → mg d.name = some (.ref fa) →
      s₁.heap.get? a = some { cls := .type "list", data := .seq vs.toArray } → IntsAre vs ns → ns.length ≤ n → s₁.gens = #[] →
      codeAny (model l.prog w) callerA (.call (.ref fa) ⟨[.ref a], []⟩) (fun r s' => r = .ok (.ret (.bool true)) ∧ OldK s₁.heap s'.heap ∧ s'.os = s₁.os ∧ AllBare s'.gens) s₁) :
    WalkO q loose XP YP l.row.toRowW d [] (fun f vs => PySem.call f vs) := by
  intro w s₀ s₁ mg mb G Y fa o pm cd doc dV kV ho hd hcd hD hmg hg args vals as hpre hlay hrd hwl hlo
  obtain rfl : dV = .none := Dflts.none hD hdf
  obtain rfl : kV = .none := Dflts.noKw hD
  obtain ⟨a, vs, ns, rfl, rfl, hobj, hints, hlen⟩ := script_of hn hpre hwl
  refine enter_call (codeAny_mono (call w s₀ s₁ mg mb fa o pm cd doc a vs ns G Y ho (fd_plain hd) hcd hmg hobj hints hlen hg) fun r s' hq => ?_)
  obtain ⟨rfl, h2, h3, h4⟩ := hq
  exact ⟨.inl ⟨.bool true, .bool true, [], rfl, fun _ => rfl, .bool true, post_true l _, fun _ => ⟨List.Pairwise.nil, fun _ hm => (nomatch hm)⟩⟩, h2, h3, h4⟩

section
variable {prog : Program} {w : World} {A : Around} {E : Value → Shared → Prop} {s : Shared} {K : Frag}

end
end Att

namespace L2
open PySem PySem.Spec PyProof.Rows

theorem vals_ints : ∀ {vs : List Value} {ns : List Int}, IntsAre vs ns → Vals (ns.map V.int) vs
  | _, _, .nil => .nil
  | _, _, .cons n t h => .cons ⟨t, rfl⟩ (vals_ints h)

/-- nothing is tracked but the script, known to the object (or it is an object of the module) -/
def Only (H : Hp) : Prop := ∀ b, H b = none ∨ ∃ o xs, H b = some (.frz o (.lst xs))

/-- THE HEAD: the law's promise, at the heap behind the top. F, the promise of the law's def, may use that base is part of the heap (so K.In base, base.Ns mainGlobals mg stand in Mod) -/
theorem law_call {P : Program} {w : World} {K : PySem.W.Frag} {mg mb : Str → Option Value} {CX : CXT} {k : Nat} {fa a : Addr} {fd : FuncData} {x : Str} {sp : Sp} {s₁ : Shared} {vs : List Value} {ns : List Int}
    (KX : K.In s₁.heap) (hns : s₁.heap.Ns mainGlobals mg) (hb : s₁.heap.Ns builtinsNs mb) (hbb : ∀ x : Str, x ≠ "__name__" → mb x = bootBuiltins x) (hlim : s₁.heap.NoLimit) (hg : s₁.gens = #[])
    (ha : s₁.heap.get? a = some { cls := .type "list", data := .seq vs.toArray }) (hi : IntsAre vs ns) (hl : ns.length ≤ sizeLine) (hr : Room k callerA)
    (F : ∀ base : Heap, K.In base → base.Ns mainGlobals mg → FnOk P w K mg base CX k fa fd [x] sp) (hbind : ∀ (s : Shared) (u : Value), BindsTo s fd ⟨[u], []⟩ [(x, u)])
    (hsp : ∀ H : Hp, Only H → SqL K H a (ns.map V.int) → sp [.ref a] H (fun v _ => v = .bl true) fun _ _ _ => False)
    (hCX : ∀ H e s', CX [] H s₁ (fun _ _ _ => False) e s' → False) :
    codeAny (model P w) callerA (.call (.ref fa) ⟨[.ref a], []⟩) (fun r s' => r = .ok (.ret (.bool true)) ∧ OldK s₁.heap s'.heap ∧ s'.os = s₁.os ∧ AllBare s'.gens) s₁ := by
  have rv := vals_ints hi
  have lenV := hi.length
  -- from an abstract heap in which nothing but the script may be tracked
  have core : ∀ H : Hp, Only H → SqL K H a (ns.map V.int) → HOk P w H s₁.heap → (∀ b, H b ≠ none → b = a) → (H a ≠ none → K.lookup a = none) →
      codeAny (model P w) callerA (.call (.ref fa) ⟨[.ref a], []⟩) (fun r s' => r = .ok (.ret (.bool true)) ∧ OldK s₁.heap s'.heap ∧ s'.os = s₁.os ∧ AllBare s'.gens) s₁ := by
    intro H hO hS hok hA hK
    have base_of : ∀ {b : Addr} {o : Obj}, s₁.heap.get? b = some o → H b = none → (hidT s₁.heap H).get? b = some o := fun e n => hidT_get e n
    have noA : ∀ {b : Addr} {o : Obj} {es : Array DictEntry} {ep : Nat}, s₁.heap.get? b = some o → o.data = .dict es ep → H b = none := fun {b o es ep} e d => by
      cases q : H b with
      | none => rfl
      | some u =>
        have e' : b = a := hA b (by rw [q]; simp)
        subst e'
        rw [ha] at e; cases e
        have d' : Data.seq vs.toArray _ = Data.dict es ep := d
        cases d'
    have nsK : ∀ {b : Addr} {m : Str → Option Value}, s₁.heap.Ns b m → (hidT s₁.heap H).Ns b m := fun {b m} ⟨o, es, ep, e, d, r⟩ => ⟨o, es, ep, base_of e (noA e d), d, r⟩
    have hKb : K.In (hidT s₁.heap H) := fun b o e => base_of (KX b o e) (by
      cases q : H b with
      | none => rfl
      | some u =>
        have e' : b = a := hA b (by rw [q]; simp)
        subst e'
        rw [hK (by rw [q]; simp)] at e; cases e)
    have hM : Mod K mg (hidT s₁.heap H) := ⟨hKb, nsK hns, ⟨mb, nsK hb, hbb⟩, let ⟨mc, h1, h2⟩ := hlim; ⟨mc, nsK h1, h2⟩⟩
    have e0 : Env0 P w K mg (hidT s₁.heap H) callerA [] s₁ H := ⟨rfl, hM, fun b o e => of_hidT e, Nat.le_of_eq (hidT_size _ _), trivial, fun b hb => absurd (show b ∈ ([] : List Addr) from hb) (by simp), hok, .of_eq hg⟩
    refine codeAny_mono ((F _ hKb (nsK hns)).run callerA [] s₁ H ⟨[.ref a], []⟩ [.ref a] [.ref a] _ _ hr e0 (hbind s₁ (.ref a)) (.cons rfl .nil) (hsp H hO hS)) fun r s' h => ?_
    cases r with
    | error e => exact (hCX H e s' h).elim
    | ok fl =>
      cases fl with
      | next => exact False.elim h
      | brk => exact False.elim h
      | cont => exact False.elim h
      | ret u =>
        obtain ⟨v, H', os, bare, un, hok', r', q⟩ := h
        have q' : v = .bl true := q
        subst q'
        obtain rfl : u = Value.bool true := r'
        refine ⟨rfl, OldK.of_keep fun b o e => ?_, os, bare⟩
        cases q : H b with
        | none => exact un.keep b o e q (by intro z; exact absurd (show b ∈ ([] : List Addr) from z) (by simp)) (by simp)
        | some u =>
          rcases hO b with z | ⟨ob, xs, z⟩
          · rw [q] at z; cases z
          · have z2 := un.frzs b ob _ z
            obtain ⟨e1, _⟩ := hok b _ z
            obtain ⟨e2, _⟩ := hok' b _ z2
            rw [e] at e1; cases e1
            exact e2
  cases hk : K.lookup a with
  | some o =>
    -- the script is one of the module's own objects
    have e := KX a o hk
    rw [ha] at e
    cases e
    refine core (fun _ => none) (fun _ => .inl rfl) (.inr ⟨_, vs.toArray, _, hk, rfl, rfl, rfl, by rw [List.size_toArray, lenV]; exact hl, by simpa using rv⟩) (fun b u z => by have z' : (none : Option HO) = some u := z; cases z') (fun b z => absurd rfl z) fun z => absurd rfl z
  | none =>
    refine core (fun b => if b = a then some (.frz { cls := .type "list", data := .seq vs.toArray } (.lst (ns.map V.int))) else none) (fun b => ?_) (.inl (.inr ⟨{ cls := .type "list", data := .seq vs.toArray }, if_pos rfl⟩)) (fun b u z => ?_) (fun b z => ?_) fun _ => hk
    · by_cases hb : b = a
      · exact .inr ⟨_, _, if_pos hb⟩
      · exact .inl (if_neg hb)
    · by_cases hb : b = a
      · have z' := (if_pos hb).symm.trans z
        cases z'
        subst hb
        exact ⟨ha, by rw [List.length_map]; exact hl, vs, _, rv, ha⟩
      · have z' := (if_neg hb).symm.trans z
        cases z'
    · by_cases hb : b = a
      · exact hb
      · exact absurd (if_neg hb) z
end L2

namespace L2
open PySem PySem.Spec PyProof.Rows

abbrev KOf {K : PySem.W.Frag} {h : Heap} (_ : K.In h) : PySem.W.Frag := K

/-- the goal that k_head leaves (case hc), from the law's promise. F gives the function object fd (K's own) once, then the promise over every base -/
theorem walk_of {l : PySem.W.OpenLaw} {n k : Nat} {q : Program} {loose : List Str} {XP : (Str → Option Value) → Heap → Prop} {YP : World → Heap → Prop} {d : DefRec} {K : Params → PySem.W.Frag} {CX : World → CXT} {sp : World → Sp} {x : Str}
    (hn : l.most = some n) (hn2 : n ≤ sizeLine) (hdf : d.params.defaults = []) (hr : Room k callerA)
    (hY : ∀ (w : World) (h : Heap), YP w h → (K w.params).In h)
    (F : ∀ (w : World) (mg : Str → Option Value) (fa : Addr) (h : Heap), (K w.params).In h → h.Ns mainGlobals mg → mg d.name = some (.ref fa) →
      ∃ fd : FuncData, (∀ (s : Shared) (u : Value), BindsTo s fd ⟨[u], []⟩ [(x, u)]) ∧
        ∀ base : Heap, (K w.params).In base → base.Ns mainGlobals mg → FnOk l.prog w (K w.params) mg base (CX w) k fa fd [x] (sp w))
    (hsp : ∀ (w : World) (H : Hp) (a : Addr) (ns : List Int), ns.length ≤ n → Only H → SqL (K w.params) H a (ns.map V.int) → sp w [.ref a] H (fun v _ => v = .bl true) fun _ _ _ => False)
    (hCX : ∀ (w : World) (H : Hp) (s : Shared) (e : Value) (s' : Shared), CX w [] H s (fun _ _ _ => False) e s' → False) :
    PySem.W.WalkO q loose XP YP l.row.toRowW d [] (fun f vs => PySem.call f vs) := by
  refine Att.attach_call hn hdf fun w s₀ s₁ mg mb fa o pm cd doc a vs ns G Y ho hd hcd hmg hobj hints hlen hg => ?_
  have KX := hY w _ Y
  obtain ⟨fd, hb, hF⟩ := F w mg fa _ KX G.T.g hmg
  exact law_call KX G.T.g G.T.b G.T.builtins G.T.nolimit hg hobj hints (Nat.le_trans hlen hn2) hr hF hb (fun H hO hS => hsp w H a ns hlen hO hS) fun H e s' => hCX w H s₁ e s'
end L2

/- THE LAST THEOREM (shape; LID, My.* are yours):
   My.Adr: a structure of the addresses that your layer names (classes, functions); My.Txt K t: a structure (Prop) of the equations over K;
   My.txt_mk : {K} {implicit addresses ..} (e1 : nsIn K mainGlobals "law" = some (some (.ref f))) (e2 : K.lookup f = some ⟨oc, od, .func (fnOf "law" "law" params body scope dV kV doc pm an cdv ct), sl⟩) (e3 : codeIn K cdv "law" = true) .. : ∃ t, My.Txt K t

set_option maxRecDepth 100000 in
set_option maxHeartbeats 0 in
theorem PySem.Challenge.cw_LID_holds : PySem.Challenge.rw_LID.Holds := by
  w_on; o_law; k_head; (case hw => w_witness2)
  k_fill
  refine L2.walk_of (l := PySem.Challenge.rw_LID) (n := 63) (k := 40) (x := "script") (CX := fun w => ..) (sp := fun _ => My.sp_law) rfl (by decide) rfl ⟨rfl, by decide, by decide⟩ (fun w h Y => PySem.W.kIn_of Y) ?F ?S ?C
  case F =>
    intro w mg fa h KX G hmg
    have T : ∃ t, My.Txt (L2.KOf KX) t := by
      dsimp only [L2.KOf]                          -- K must stand as «<heap const> w.params» for k_is
      refine' My.txt_mk ?e1 ?e2 ?e3 ..
      (case e1 => PySem.W.k_is)                    -- in the order: a name -> its address -> its object -> its parts
      (case e2 => PySem.W.k_is)
      ..
    obtain ⟨t, T⟩ := T
    have e0 := hmg.symm.trans (PySem.W.mg_of KX G T.law)
    cases e0                                       -- fa is the law's own address
    exact ⟨_, fun s u => .of_eq rfl, fun base kb nb => My.law_fn T kb nb⟩     -- if «.of_eq rfl» comes too early: refine' ⟨_, ?b, fun base kb nb => My.law_fn T kb nb⟩; exact fun s u => .of_eq rfl
  case S => exact fun w H a ns hl hO hS => ..
  case C => exact ..
(the tactic k_is has no namespace: write k_is) -/

namespace L2
open PySem PySem.Spec PyProof.Rows

/-- the j-th statement of a class's body -/
def inClass (s : Stmt) (j : Nat) : Stmt := match s with
  | .ClassDef _ _ _ body _ _ _ _ _ _ _ => body.getD j (.Pass ⟨0, 0, 0, 0⟩)
  | _ => .Pass ⟨0, 0, 0, 0⟩
def defArgs (s : Stmt) : Arguments := match s with
  | .FunctionDef _ a _ _ _ _ _ _ _ _ => a
  | _ => { posonlyargs := [], args := [], vararg := none, kwonlyargs := [], kw_defaults := [], kwarg := none, defaults := [] }
def defBody (s : Stmt) : List Stmt := match s with
  | .FunctionDef _ _ b _ _ _ _ _ _ _ => b
  | _ => []
def defScope (s : Stmt) : Scope := match s with
  | .FunctionDef _ _ _ _ _ _ sc _ _ _ => sc
  | _ => { kind := .function, names := [], isGenerator := false, isCoroutine := false }

abbrev CX0 : CXT := fun _ _ _ _ _ _ => False
abbrev E0 : XK := fun _ _ _ => False
theorem pass0 {X : Cx} : Passes CX0 X E0 := fun _ _ _ _ _ _ _ h => h.elim

structure Fun (K : PySem.W.Frag) (x qual : Str) (st : Stmt) (f : Addr) (fd : FuncData) : Prop where
  ex : ∃ (oc : Value) (od : Option Addr) (kV doc pm : Value) (an : Option Addr) (cdv ct : Value) (osl : Array (Option Value)),
    fd = PySem.W.fnOf x qual (defArgs st) (defBody st) (defScope st) .none kV doc pm an cdv ct ∧ K.lookup f = some ⟨oc, od, .func fd, osl⟩ ∧ PySem.W.codeIn K cdv qual = true
  kp : PySem.W.keepIn K (.ref f) = true
section
variable {P : Program} {w : World} {K : PySem.W.Frag} {mg : Str → Option Value} {base : Heap}
/-- THE RULE for a def: its body as a term of rules, and the reading of that term -/
theorem Fun.ok {x qual : Str} {st : Stmt} {f : Addr} {fd : FuncData} {N ps : List Str} {k : Nat} {sp : Sp} (F : Fun K x qual st f fd) (S : FnScope N ps (defScope st)) (len : ∀ vs H Q E, sp vs H Q E → vs.length = ps.length)
    (hbody : ∀ (cdv : Value) (A : Around) (outer : List Env) (s : Shared) (H : Hp) (vs : List V) (Q : VK) (E : XK), Room k (A.deeper (envOfC qual (defScope st) s.heap.objs.size f cdv)) → sp vs H Q E →
      ∃ t, PSs (cxOf CX0 P w K mg base N qual (defScope st) f cdv A outer s H E).nox (defBody st) t ∧ t { nx := fun _ H' => Q .non H', rt := Q } (start N vs) H) : FnOk P w K mg base CX0 (k + 1) f fd ps sp := by
  obtain ⟨oc, od, kV, doc, pm, an, cdv, ct, osl, rfl, lk, hcd⟩ := F.ex
  refine fn_of lk hcd S len fun A outer s H vs Q E hr hsp => ?_
  obtain ⟨t, h, q⟩ := hbody cdv A outer s H vs Q E hr hsp
  exact ⟨t, h.nox, q⟩
/-- how its arguments bind (no defaults): h is «fun _ _ _ _ _ _ us hl => match us, hl with | [_, _], _ => rfl», one _ a parameter -/
theorem Fun.binds {x qual : Str} {st : Stmt} {f : Addr} {fd : FuncData} {ps : List Str} (F : Fun K x qual st f fd)
    (h : ∀ (kV doc pm : Value) (an : Option Addr) (cdv ct : Value) (us : List Value), us.length = ps.length → bindArgs (PySem.W.fnOf x qual (defArgs st) (defBody st) (defScope st) .none kV doc pm an cdv ct) ⟨us, []⟩ = pure (ps.zip us)) : Binds K fd ps [] := by
  obtain ⟨oc, od, kV, doc, pm, an, cdv, ct, osl, rfl, lk, hcd⟩ := F.ex
  exact .all (h kV doc pm an cdv ct)
theorem fun_mk {x qual : Str} {st : Stmt} {f : Addr} {oc : Value} {od an : Option Addr} {osl : Array (Option Value)} {kV doc pm cdv ct : Value} (l : K.lookup f = some ⟨oc, od, .func (PySem.W.fnOf x qual (defArgs st) (defBody st) (defScope st) .none kV doc pm an cdv ct), osl⟩)
    (c : PySem.W.codeIn K cdv qual = true) (k : PySem.W.keepIn K (.ref f) = true) : Fun K x qual st f (PySem.W.fnOf x qual (defArgs st) (defBody st) (defScope st) .none kV doc pm an cdv ct) := ⟨⟨oc, od, kV, doc, pm, an, cdv, ct, osl, rfl, l, c⟩, k⟩
end
theorem small1000 {n : Nat} (h : n ≤ 1000) : n < sizeLine := Nat.lt_of_le_of_lt h (by decide)

section
variable {X : Cx}
theorem pv (i : Nat) {x : Str} {pos : Pos} (hN : X.N[i]? = some x := by rfl) (hv : Vis X.env.scope x := by first | exact Or.inl rfl | exact Or.inr (Or.inl rfl) | exact Or.inr (Or.inr rfl)) (hd : (x == ("__debug__" : Str)) = false := by decide)
    (hcd : (x == ("__classdict__" : Str)) = false := by decide) : PE X (.Name x pos) (tVar i) := pe_var hN hv hd hcd
end

theorem iteF {A B : Prop} (h : B) : if false = true then A else B := by
  rw [if_neg Bool.false_ne_true]
  exact h
theorem iteT {A B : Prop} (h : A) : if true = true then A else B := by
  rw [if_pos rfl]
  exact h
theorem iteNS {c A B : Prop} [Decidable c] (hc : c) (h : B) : if (!decide c) = true then A else B := by
  rw [decide_eq_true hc]
  exact iteF h

/-- all that was tracked is as it was -/
def Same (H H' : Hp) : Prop := ∀ b o, H b = some o → H' b = some o
theorem Same.refl (H : Hp) : Same H H := fun _ _ h => h
theorem Same.trans {H H1 H2 : Hp} (a : Same H H1) (b : Same H1 H2) : Same H H2 := fun c o h => b c o (a c o h)
theorem Same.free {H H' : Hp} (e : Same H H') {l : Addr} (h : H' l = Option.none) : H l = Option.none := by
  cases q : H l with
  | none => rfl
  | some o =>
    rw [e l o q] at h
    cases h
theorem Same.seq {K : PySem.W.Frag} {H H' : Hp} {a : Addr} {xs : List V} (e : Same H H') (h : SqL K H a xs) : SqL K H' a xs := by
  rcases h with (h | ⟨o, h⟩) | h
  · exact .inl (.inl (e _ _ h))
  · exact .inl (.inr ⟨o, e _ _ h⟩)
  · exact .inr h

end L2

set_option Elab.async false
set_option linter.all false
set_option maxRecDepth 100000
set_option maxHeartbeats 4000000
namespace L2
open PySem PySem.Spec PyProof.Rows

def Bt (k : Nat) (x : Int) : Prop := x.natAbs < 2 ^ k
theorem Bt.bits {k : Nat} {x : Int} (h : Bt k x) : Builtin.Int.intBits x ≤ k := PySem.intBits_le_iff.mpr h
theorem Bt.mono {k m : Nat} {x : Int} (h : Bt k x) (l : k ≤ m) : Bt m x := Nat.lt_of_lt_of_le h (Nat.pow_le_pow_right (by decide) l)
theorem Bt.le {k : Nat} {x y : Int} (h : Bt k y) (l : x.natAbs ≤ y.natAbs) : Bt k x := Nat.lt_of_le_of_lt l h
theorem Bt.mul {k m : Nat} {x y : Int} (h : Bt k x) (g : Bt m y) : Bt (k + m) (x * y) := by
  unfold Bt at *
  rw [Int.natAbs_mul, Nat.pow_add]
  exact Nat.mul_lt_mul'' h g
theorem Bt.add {k : Nat} {x y : Int} (h : Bt k x) (g : Bt k y) : Bt (k + 1) (x + y) := by
  unfold Bt at *
  have := Int.natAbs_add_le x y
  rw [Nat.pow_succ]; omega
theorem Bt.neg {k : Nat} {x : Int} (h : Bt k x) : Bt k (-x) := by unfold Bt at *; omega
def CMulB (i j : Int) : Prop := ∃ n m : Nat, Bt n i ∧ Bt m j ∧ n + m ≤ 134217728
theorem CMulB.ok {i j : Int} (h : CMulB i j) : IntMulOk i j := by
  obtain ⟨n, m, h1, h2, h3⟩ := h
  have a := h1.bits
  have b := h2.bits
  have hs : ((Builtin.Int.intBits i + Builtin.Int.intBits j : Nat) : Int) ≤ 2 ^ 27 := by
    have e : (2 : Int) ^ 27 = 134217728 := by decide
    rw [e]; omega
  have hb : Builtin.Int.intTooBig ((Builtin.Int.intBits i + Builtin.Int.intBits j : Nat) : Int) = false := decide_eq_false (Int.not_lt.mpr hs)
  unfold IntMulOk
  first
    | (rw [show (((Builtin.Int.intBits i : Nat) : Int) + ((Builtin.Int.intBits j : Nat) : Int)) = ((Builtin.Int.intBits i + Builtin.Int.intBits j : Nat) : Int) by omega, hb]; simp)
    | (rw [hb]; simp)
    | (intro z; simp only [Bool.and_eq_true] at z; simp_all)
section
variable {X : Cx} {a b c : Expr} {ta tb tc : TE} {pos : Pos}
theorem op_mulB : OpR X (binaryOp .Mult) (rI CMulB fun i j => .int (i * j)) := opI fun _ _ _ _ _ _ _ hc q => mul_int q hc.ok
theorem log2_lt9000 {j : Int} (h : Bt 9000 j) : j.natAbs.log2 < 9000 := by
  by_cases h0 : j.natAbs = 0
  · rw [h0]; decide +kernel
  · exact (Nat.log2_lt h0).mpr h
def CDivB (_ j : Int) : Prop := 0 < j ∧ Bt 9000 j
def CDivF (_ j : Int) : Prop := j ≠ 0 ∧ Bt 9000 j
theorem op_fdivB : OpR X (binaryOp .FloorDiv) (rI CDivB fun i j => .int (i / j)) := opI fun i j _ _ _ _ _ hc q => by
  have h1 : (0 : Int) < j := hc.1
  exact floordiv_int (by omega) (by rw [Int.fdiv_eq_ediv_of_nonneg i (by omega)]; exact q) (.inl (PyProof.noPylong_of_log2 (log2_lt9000 hc.2)))
theorem op_fdivF : OpR X (binaryOp .FloorDiv) (rI CDivF fun i j => .int (i.fdiv j)) := opI fun i j _ _ _ _ _ hc q =>
  floordiv_int hc.1 q (.inl (PyProof.noPylong_of_log2 (log2_lt9000 hc.2)))
def CShl (i j : Int) : Prop := 0 ≤ j ∧ ∃ n : Nat, Bt n i ∧ (n : Int) + j ≤ 134217728
theorem op_shlB : OpR X (binaryOp .LShift) (rI CShl fun i j => .int (i * 2 ^ j.toNat)) := opI fun i j _ _ _ _ _ hc q => by
  obtain ⟨h0, n, hn, h1⟩ := hc
  have := hn.bits
  refine lshift_int h0 ?_ q
  have e : (2 : Int) ^ 27 = 134217728 := by decide
  rw [e]; omega

def rIsi (K : PySem.W.Frag) : List V → Hp → VK → Prop := fun xs H Q => ∃ x c t b, xs = [x, .ty c] ∧ TyOf K H x t ∧ PySem.W.kitOne K t (.type c) = some b ∧ Q (.bl b) H
theorem call_isi : CallR X (.builtin "isinstance") (rIsi X.K) := by
  intro pins s σ H xs us Q I r h
  obtain ⟨x, c, t, b, rfl, ty, e, q⟩ := h
  obtain ⟨u, w', rfl, r1, r2⟩ := vals2 r
  cases (show w' = Value.type c from r2)
  exact isinst_ok I r1 ty e fun tk => ⟨.bl b, H, I.tok tk, rfl, q⟩

structure Cal (P : Program) (w : World) (K : PySem.W.Frag) (mg : Str → Option Value) (base : Heap) (k : Nat) (x : Str) (ps : List Str) (sp : Sp) : Prop where
  ex : ∃ (f : Addr) (fd : FuncData), FnOk P w K mg base CX0 k f fd ps sp ∧ Binds K fd ps [] ∧ PySem.W.keepIn K (.ref f) = true ∧ mg x = some (.ref f)
theorem pe_cal {k : Nat} {x : Str} {ps : List Str} {sp : Sp} {e : Expr} {es : List Expr} {t : TA} {p : Pos} (C : Cal X.prog X.w X.K X.mg X.base k x ps sp) (hr : Room k X.A) (hg : Gl X x) (ha : PA X (e :: es) t)
    (hdb : (x == ("__debug__" : Str)) = false := by decide) (he : starEach (e :: es) X.env = (false, eval e X.env) :: starEach es X.env := by rfl) (hpl : (backTo pos (starEach es X.env)).any (·.1) = false := by rfl) :
    PE X (.Call (.Name x p) (e :: es) [] pos) (tCall sp [] E0 t) := by
  obtain ⟨f, fd, F, b, kp, m⟩ := C.ex
  exact pe_call F hr hg m kp b .nil pass0 ha hdb he hpl

def tCut (t : TS) : TS := fun D σ H => ∃ J : St → Hp → Prop, t { D with nx := J } σ H ∧ ∀ σ' H', J σ' H' → D.nx σ' H'
theorem ps_cut {st : Stmt} {t : TS} (h : PS X st t) : PS X st (tCut t) := by
  intro pins s σ H D I hw
  obtain ⟨J, h1, h2⟩ := hw
  refine thn (h pins s σ H { D with nx := J } I h1) fun f s1 q => ?_
  cases f with
  | next =>
    obtain ⟨σ', H', I', q⟩ := q
    exact ⟨σ', H', I', h2 _ _ q⟩
  | ret v => exact q
  | brk => exact q
  | cont => exact q
theorem rd_cut {t : TS} {D : Ends} {σ : St} {H : Hp} (J : St → Hp → Prop) (h1 : t { D with nx := J } σ H) (h2 : ∀ σ' H', J σ' H' → D.nx σ' H') : tCut t D σ H := ⟨J, h1, h2⟩
theorem rd_var {i : Nat} {σ : St} {H : Hp} {Q : VK} {v : V} (e : σ[i]? = some (some v)) (h : Q v H) : tVar i σ H Q := ⟨v, e, h⟩
theorem rd_c {v : V} {σ : St} {H : Hp} {Q : VK} (h : Q v H) : tC v σ H Q := h
theorem rd_op {r : R2} {σ : St} {H : Hp} {Q : VK} (h : ta σ H fun x H1 => tb σ H1 fun y H2 => r x y H2 Q) : tOp r ta tb σ H Q := h
theorem rd_un {r : V → Hp → VK → Prop} {σ : St} {H : Hp} {Q : VK} (h : ta σ H fun x H1 => r x H1 Q) : tUn r ta σ H Q := h
theorem rd_i0 {g : Int → Int → V} {i j : Int} {H : Hp} {Q : VK} (h : Q (g i j) H) : rI0 g (.int i) (.int j) H Q := ⟨i, j, rfl, rfl, h⟩
theorem rd_i {C : Int → Int → Prop} {g : Int → Int → V} {i j : Int} {H : Hp} {Q : VK} (c : C i j) (h : Q (g i j) H) : rI C g (.int i) (.int j) H Q := ⟨i, j, rfl, rfl, c, h⟩
theorem rd_u {g : Int → V} {i : Int} {H : Hp} {Q : VK} (h : Q (g i) H) : rU g (.int i) H Q := ⟨i, rfl, h⟩
theorem rd_eq {x y : V} {H : Hp} {Q : VK} (s : scal x y = true) (h : Q (.bl (decide (x = y))) H) : rEq x y H Q := ⟨s, h⟩
theorem rd_ne {x y : V} {H : Hp} {Q : VK} (s : scal x y = true) (h : Q (.bl (!decide (x = y))) H) : rNe x y H Q := ⟨s, h⟩
theorem rd_test {t : TE} {σ : St} {H : Hp} {Q : Bool → Hp → Prop} (h : t σ H fun x H' => ∃ k, x = .bl k ∧ Q k H') : tTest t σ H Q := h
theorem rd_b {t : TE} {σ : St} {H : Hp} {Q : Bool → Hp → Prop} (h : t σ H fun x H' => ∃ k, x = .bl k ∧ Q k H') : L2.tB t σ H Q := h
theorem rd_bl {k : Bool} {Q : Bool → Prop} (h : Q k) : ∃ k', V.bl k = .bl k' ∧ Q k' := ⟨k, rfl, h⟩
theorem rel_ty (n : String) : RelV (.ty n) (.type n) := rfl
theorem rel_int (i : Int) (t : Tok) : RelV (.int i) (.int i t) := ⟨t, rfl⟩
theorem rd_not {t : TT} {σ : St} {H : Hp} {Q : Bool → Hp → Prop} (h : t σ H fun c H1 => Q (!c) H1) : tNot t σ H Q := h
theorem rd_and {t u : TT} {σ : St} {H : Hp} {Q : Bool → Hp → Prop} (h : t σ H fun c H1 => if c = true then u σ H1 Q else Q false H1) : tAnd t u σ H Q := h
theorem rd_or {t u : TT} {σ : St} {H : Hp} {Q : Bool → Hp → Prop} (h : t σ H fun c H1 => if c = true then Q true H1 else u σ H1 Q) : tOr t u σ H Q := h
theorem rd_andV {σ : St} {H : Hp} {Q : VK} (h : ta σ H fun x H1 => ∃ c, x = .bl c ∧ if c = true then tb σ H1 Q else Q (.bl false) H1) : tAndV ta tb σ H Q := h
theorem rd_orV {σ : St} {H : Hp} {Q : VK} (h : ta σ H fun x H1 => ∃ c, x = .bl c ∧ if c = true then Q (.bl true) H1 else tb σ H1 Q) : tOrV ta tb σ H Q := h
theorem rd_notV {σ : St} {H : Hp} {Q : VK} (h : ta σ H fun x H1 => ∃ c, x = .bl c ∧ Q (.bl (!c)) H1) : tNotV ta σ H Q := h
theorem rd_chain {r r' : R2} {σ : St} {H : Hp} {Q : VK} (h : ta σ H fun x H1 => tb σ H1 fun y H2 => r x y H2 fun z H3 => ∃ k, z = .bl k ∧ (if k = true then tc σ H3 fun w' H4 => r' y w' H4 Q else Q (.bl false) H3)) : tChain r r' ta tb tc σ H Q := h
theorem rd_call {sp : Sp} {dvs : List V} {E : XK} {t : TA} {σ : St} {H : Hp} {Q : VK} (h : t σ H fun vs H1 => sp (vs ++ dvs) H1 Q E) : tCall sp dvs E t σ H Q := h
theorem rd_cb {r : List V → Hp → VK → Prop} {t : TA} {σ : St} {H : Hp} {Q : VK} (h : t σ H fun vs H1 => r vs H1 Q) : tCB r t σ H Q := h
theorem rd_nil {σ : St} {H : Hp} {Q : List V → Hp → Prop} (h : Q [] H) : tNil σ H Q := h
theorem rd_cons {tr : TA} {σ : St} {H : Hp} {Q : List V → Hp → Prop} (h : ta σ H fun x H1 => tr σ H1 fun xs H2 => Q (x :: xs) H2) : tCons ta tr σ H Q := h
theorem rd_tup {t : TA} {σ : St} {H : Hp} {Q : VK} (h : t σ H fun xs H1 => xs.length ≤ sizeLine ∧ ∀ p, H1 p = none → Q (.ref p) (upd H1 p (.tup xs))) : tTup t σ H Q := h
theorem rd_lst {t : TA} {σ : St} {H : Hp} {Q : VK} (h : t σ H fun xs H1 => xs.length ≤ sizeLine ∧ ∀ p, H1 p = none → Q (.ref p) (upd H1 p (.lst xs))) : tLst t σ H Q := h
theorem rd_seq {t u : TS} {D : Ends} {σ : St} {H : Hp} (h : t { D with nx := u D } σ H) : tSeq t u D σ H := h
theorem rd_next {D : Ends} {σ : St} {H : Hp} (h : D.nx σ H) : tNext D σ H := h
theorem rd_ret {te : TE} {D : Ends} {σ : St} {H : Hp} (h : te σ H D.rt) : tRet te D σ H := h
theorem rd_ifS {c : TT} {t u : TS} {D : Ends} {σ : St} {H : Hp} (h : c σ H fun b H1 => if b = true then t D σ H1 else u D σ H1) : tIfS c t u D σ H := h
theorem rd_asg {te : TE} {g : TG} {D : Ends} {σ : St} {H : Hp} (h : te σ H fun x H1 => g x σ H1 D.nx) : tAsg te g D σ H := h
theorem rd_drop {te : TE} {D : Ends} {σ : St} {H : Hp} (h : te σ H fun _ H1 => D.nx σ H1) : tDrop te D σ H := h
theorem rd_gname {i : Nat} {v : V} {σ : St} {H : Hp} {Q : St → Hp → Prop} (h : Q (σ.set i (some v)) H) : gName i v σ H Q := h
theorem rd_gtup {K : PySem.W.Frag} {n : Nat} {t : TGs} {a : Addr} {xs : List V} {σ : St} {H : Hp} {Q : St → Hp → Prop} (hs : SqT K H a xs) (hl : xs.length = n) (h : t xs σ H Q) : gTup K n t (.ref a) σ H Q := ⟨a, xs, rfl, hs, hl, h⟩
theorem rd_gcons {t : TG} {u : TGs} {v : V} {r : List V} {σ : St} {H : Hp} {Q : St → Hp → Prop} (h : t v σ H fun σ' H' => u r σ' H' Q) : gCons t u (v :: r) σ H Q := ⟨v, r, rfl, h⟩
theorem rd_gnil {σ : St} {H : Hp} {Q : St → Hp → Prop} (h : Q σ H) : gNil [] σ H Q := ⟨rfl, h⟩
theorem rd_ixT {K : PySem.W.Frag} {p : Addr} {xs : List V} {i : Int} {v : V} {H : Hp} {Q : VK} (hs : SqT K H p xs) (e : atI xs i = some v) (h : Q v H) : rIxT K (.ref p) (.int i) H Q := ⟨p, xs, i, v, rfl, rfl, hs, e, h⟩
theorem rd_ixL {K : PySem.W.Frag} {p : Addr} {xs : List V} {i : Int} {v : V} {H : Hp} {Q : VK} (hs : SqL K H p xs) (e : atI xs i = some v) (h : Q v H) : rIxL K (.ref p) (.int i) H Q := ⟨p, xs, i, v, rfl, rfl, hs, e, h⟩
theorem rd_isi {K : PySem.W.Frag} {x : V} {c : String} {t : Value} {b : Bool} {H : Hp} {Q : VK} (ty : TyOf K H x t) (e : PySem.W.kitOne K t (.type c) = some b) (h : Q (.bl b) H) : rIsi K [x, .ty c] H Q := ⟨x, c, t, b, rfl, ty, e, h⟩
theorem iteD {c A B : Prop} [Decidable c] (hc : c) (h : A) : if decide c = true then A else B := by
  rw [decide_eq_true hc]; exact iteT h
theorem iteN {c A B : Prop} [Decidable c] (hc : ¬ c) (h : B) : if decide c = true then A else B := by
  rw [decide_eq_false hc]; exact iteF h
theorem iteNN {c A B : Prop} [Decidable c] (hc : ¬ c) (h : A) : if (!decide c) = true then A else B := by
  rw [decide_eq_false hc]; exact iteT h
theorem ite2d {c A B : Prop} [Decidable c] (h1 : c → A) (h2 : ¬ c → B) : if decide c = true then A else B := by
  by_cases h : c
  · exact iteD h (h1 h)
  · exact iteN h (h2 h)
theorem Same.tup {K : PySem.W.Frag} {H H' : Hp} {a : Addr} {xs : List V} (e : Same H H') (h : SqT K H a xs) : SqT K H' a xs := by
  rcases h with (h | ⟨o, h⟩) | h
  · exact .inl (.inl (e _ _ h))
  · exact .inl (.inr ⟨o, e _ _ h⟩)
  · exact .inr h
theorem same_new {H : Hp} {p : Addr} (h : H p = none) (o : HO) : Same H (upd H p o) := fun b u q => by rw [upd_ne (ne_of_none q h)]; exact q
theorem cdiv_small {i j : Int} (h0 : 0 < j) (h1 : j < 18446744073709551616) : CDivB i j := ⟨h0, Bt.mono (k := 64) (by unfold Bt; omega) (by decide)⟩
theorem pow2_pos (k : Nat) : (0 : Int) < 1 * 2 ^ k := by
  have e : (1 : Int) * 2 ^ k = ((2 ^ k : Nat) : Int) := by rw [Int.natCast_pow]; simp
  rw [e]
  have := Nat.two_pow_pos k
  omega
theorem bitAnd_nat (x y : Nat) : Builtin.bitAnd (x : Int) (y : Int) = ((x &&& y : Nat) : Int) := PyProof.Rows.bitAnd_pp (Int.natCast_nonneg x) (Int.natCast_nonneg y)
theorem bitNot_neg (x : Nat) : decide ((0 : Int) ≤ Builtin.bitNot (x : Int)) = false := decide_eq_false (by unfold Builtin.bitNot; omega)
theorem bitOr_nat (x y : Nat) : Builtin.bitOr (x : Int) (y : Int) = ((x ||| y : Nat) : Int) := by
  have e : ∀ z : Int, Builtin.bitNot (Builtin.bitNot z) = z := fun z => by unfold Builtin.bitNot; omega
  unfold Builtin.bitOr Builtin.bitAnd
  rw [bitNot_neg, bitNot_neg]
  dsimp only
  rw [e, e, e, Int.toNat_natCast, Int.toNat_natCast]
theorem kit_int_int (K : PySem.W.Frag) : PySem.W.kitOne K (.type "int") (.type "int") = some true := by unfold PySem.W.kitOne; rw [if_pos (by simp)]
end
end L2

namespace Att
open PySem PySem.W PySem.Calls PyProof.Rows
theorem weight_item : ∀ {ns : List Int} {n : Int}, n ∈ ns → Builtin.Int.intBits n ≤ WData.weightAll (ns.map WData.int)
  | m :: ns, n, h => by
    rw [List.map_cons]
    show _ ≤ WData.weight (.int m) + 1 + WData.weightAll (ns.map WData.int)
    rcases List.mem_cons.mp h with rfl | h
    · have e : WData.weight (.int n) = Builtin.Int.intBits n := by first | rfl | (unfold Builtin.Int.intBits; rfl) | simp [WData.weight, Builtin.Int.intBits]
      omega
    · have := weight_item h
      omega
theorem bits_of_lay {ns : List Int} (h : WData.layableAll [WData.list (ns.map WData.int)] = true) : ∀ n ∈ ns, L2.Bt 1048576 n := fun n hn => by
  have h1 : WData.layable (WData.list (ns.map WData.int)) = true := (Bool.and_eq_true_iff.mp h).1
  have h2 : WData.weight (WData.list (ns.map WData.int)) ≤ 2 ^ 20 := of_decide_eq_true (Bool.and_eq_true_iff.mp h1).2
  have h3 := weight_item hn
  have e : WData.weight (WData.list (ns.map WData.int)) = WData.weightAll (ns.map WData.int) := by first | rfl | simp [WData.weight]
  refine PySem.intBits_le_iff.mp ?_
  omega
theorem attach_callB {l : OpenLaw} {n : Nat} {q : Program} {loose : List Str} {XP : (Str → Option Value) → Heap → Prop} {YP : World → Heap → Prop} {d : DefRec}
    (hn : l.most = some n) (hdf : d.params.defaults = [])
    (call : ∀ (w : World) (s₀ s₁ : Shared) (mg mb : Str → Option Value) (fa : Addr) (o : Obj) (pm cd doc : Value) (a : Addr) (vs : List Value) (ns : List Int),
      Ground q loose [] XP w s₀ mg mb s₁.heap → YP w s₁.heap →
      s₁.heap.get? fa = some o → o.data = .func (docDef d.name d.params d.body d.scope pm cd doc) → s₁.heap.CodeRec cd d.name → mg d.name = some (.ref fa) →
      s₁.heap.get? a = some { cls := .type "list", data := .seq vs.toArray } → IntsAre vs ns → ns.length ≤ n → (∀ n ∈ ns, L2.Bt 1048576 n) → s₁.gens = #[] →
      codeAny (model l.prog w) callerA (.call (.ref fa) ⟨[.ref a], []⟩) (fun r s' => r = .ok (.ret (.bool true)) ∧ OldK s₁.heap s'.heap ∧ s'.os = s₁.os ∧ AllBare s'.gens) s₁) :
    WalkO q loose XP YP l.row.toRowW d [] (fun f vs => PySem.call f vs) := by
  intro w s₀ s₁ mg mb G Y fa o pm cd doc dV kV ho hd hcd hD hmg hg args vals as hpre hlay hrd hwl hlo
  obtain rfl : dV = .none := Dflts.none hD hdf
  obtain rfl : kV = .none := Dflts.noKw hD
  obtain ⟨a, vs, ns, rfl, rfl, hobj, hints, hlen⟩ := script_of hn hpre hwl
  refine enter_call (codeAny_mono (call w s₀ s₁ mg mb fa o pm cd doc a vs ns G Y ho (fd_plain hd) hcd hmg hobj hints hlen (bits_of_lay hlay) hg) fun r s' hq => ?_)
  obtain ⟨rfl, h2, h3, h4⟩ := hq
  exact ⟨.inl ⟨.bool true, .bool true, [], rfl, fun _ => rfl, .bool true, post_true l _, fun _ => ⟨List.Pairwise.nil, fun _ hm => (nomatch hm)⟩⟩, h2, h3, h4⟩
end Att
namespace L2
open PySem PySem.Spec PyProof.Rows
/-- law's promise: a list of at most 63 ints of at most 2^20 bits is handed in, True comes out -/
def spLaw (K : PySem.W.Frag) : Sp := fun vs H Q _ => ∃ (a : Addr) (ns : List Int), vs = [.ref a] ∧ SqL K H a (ns.map V.int) ∧ ns.length ≤ 63 ∧ (∀ n ∈ ns, Bt 1048576 n) ∧ ∀ H', Q (.bl true) H'
theorem walk_ofB {l : PySem.W.OpenLaw} {k : Nat} {q : Program} {loose : List Str} {XP : (Str → Option Value) → Heap → Prop} {YP : World → Heap → Prop} {d : DefRec} {K : Params → PySem.W.Frag}
    (hn : l.most = some 63) (hdf : d.params.defaults = []) (hr : Room k callerA)
    (hY : ∀ (w : World) (h : Heap), YP w h → (K w.params).In h)
    (F : ∀ (w : World) (mg : Str → Option Value) (fa : Addr) (h : Heap), (K w.params).In h → h.Ns mainGlobals mg → mg d.name = some (.ref fa) →
      ∃ fd : FuncData, (∀ (s : Shared) (u : Value), BindsTo s fd ⟨[u], []⟩ [("_law_script", u)]) ∧
        ∀ base : Heap, (K w.params).In base → base.Ns mainGlobals mg → FnOk l.prog w (K w.params) mg base CX0 k fa fd ["_law_script"] (spLaw (K w.params))) :
    PySem.W.WalkO q loose XP YP l.row.toRowW d [] (fun f vs => PySem.call f vs) := by
  refine Att.attach_callB hn hdf fun w s₀ s₁ mg mb fa o pm cd doc a vs ns G Y ho hd hcd hmg hobj hints hlen hbits hg => ?_
  have KX := hY w _ Y
  obtain ⟨fd, hb, hF⟩ := F w mg fa _ KX G.T.g hmg
  exact law_call KX G.T.g G.T.b G.T.builtins G.T.nolimit hg hobj hints (Nat.le_trans hlen (by decide)) hr hF hb (fun H hO hS => ⟨a, ns, rfl, hS, hlen, hbits, fun _ => rfl⟩) fun H e s' => fun z => z
end L2

set_option Elab.async false
set_option linter.all false
set_option maxRecDepth 100000
set_option maxHeartbeats 4000000
namespace L2
open PySem PySem.Spec PyProof.Rows
/-- the context of a comprehension's block: its own name first, then the names around it -/
def compCx (X : Cx) (M : List Str) (x : Str) (scope : Scope) (cl : List (Str × Addr)) (C : Addr) (s₀ : Shared) (H₀ : Hp) (fp : List Addr) : Cx :=
  { X with N := x :: M, s₀ := s₀, H₀ := H₀, env := compEnvC scope cl C X.env, outer := X.stack, ex := fp, fn := fun _ => false, pn := [], xe := fun _ _ => False }
structure CompOk (X : Cx) (M : List Str) (x : Str) (scope : Scope) (cl : List (Str × Addr)) : Prop where
  clos : closureFor scope X.env = pure cl
  cell : ∀ y ∈ scope.names, y.2 ≠ .cell
  kind : scope.kind = .function
  names : ∀ y ∈ scope.names, y.2 = .local → scope.names.lookup y.1 = some .local
  xl : scope.names.lookup x = some .local
  nd : (x :: M).Nodup
  len : M.length = X.N.length
  sub : ∀ y c, cl.lookup y = some c → X.env.cells.lookup y = some c
  has : ∀ y, ((relabel scope X.env).names.lookup y = some .cell ∨ (relabel scope X.env).names.lookup y = some .free) → ∃ c, cl.lookup y = some c
  vis : ∀ (i : Nat) (y : Str), M[i]? = some y → Vis (relabel scope X.env) y → X.N[i]? = some y ∧ ((relabel scope X.env).names.lookup y = some .cell ∨ (relabel scope X.env).names.lookup y = some .free) ∧ (X.env.scope.names.lookup y = some .cell ∨ X.env.scope.names.lookup y = some .free)
/-- the tests of a clause -/
def PIfs (X : Cx) (ifs : List Expr) (t : TT) : Prop :=
  ∀ (pins : List (Addr × Obj)) (s : Shared) (σ : St) (H : Hp) (Q : Bool → Hp → Prop), Inv X pins σ H s → t σ H Q →
    wpAny (model X.prog X.w) X.A (forIn ifs true fun c r => if r = true then do let ok ← isTrue c X.env (eval c X.env); pure (ForInStep.yield ok) else pure (ForInStep.yield r)) (TP X pins σ Q) X.xe s
def tTrue : TT := fun _ H Q => Q true H
section
variable {X : Cx}
theorem pifs_nil : PIfs X [] tTrue := fun pins s σ H Q I h => by
  rw [List.forIn_nil]
  exact wpAny_pure ⟨H, I, h⟩
theorem pifs_one {c : Expr} {t : TT} (hc : PT X c t) : PIfs X [c] t := fun pins s σ H Q I h => by
  rw [List.forIn_cons]
  refine wpAny_bind ?_
  rw [if_pos rfl]
  refine wpAny_bind (thn (hc pins s σ H Q I h) fun b s1 q => wpAny_pure ?_)
  dsimp only
  rw [List.forIn_nil]
  exact wpAny_pure q
/-- W: the invariant by the turn, a measure, the items so far, the heap (in which the list stands at D) -/
def tComp (wi : TI) (tt : TT) (te : TE) : TE := fun σ H Q => wi σ H fun J H1 => ∀ D, H1 D = none → ∃ W : Nat → Nat → List V → Hp → Prop, (∃ m, W 0 m [] (upd H1 D (.lst []))) ∧
  ∀ i m ys H2, W i m ys H2 → H2 D = some (.lst ys) ∧ ((J.stop i H2 ∧ Q (.ref D) H2) ∨ (J.go i H2 ∧ ys.length < sizeLine ∧ ∃ m', m' < m ∧ ∀ x H3, J.yld i H2 x H3 →
    tt (some x :: σ) H3 fun b H4 => if b = true then te (some x :: σ) H4 fun y H5 => H5 D = some (.lst ys) ∧ W (i + 1) m' (ys ++ [y]) (upd H5 D (.lst (ys ++ [y]))) else W (i + 1) m' ys H4))

theorem comp_ok {M : List Str} {pins : List (Addr × Obj)} {σ : St} {H : Hp} {s : Shared} {x : Str} {scope : Scope} {cl : List (Str × Addr)} {C : Addr} {fp : List Addr} (I : Inv X pins σ H s) (ok : CompOk X M x scope cl) (hC : s.heap.objs.size ≤ C)
    (hf : ∀ b ∈ fp, FpOk X pins H b) (hb : ∀ b ∈ fp, b < s.heap.objs.size) : (compCx X M x scope cl C s H fp).Ok where
  mod := I.ok.mod
  kind := ok.kind
  glob := I.ok.glob
  blt := I.ok.blt
  above := hC
  inj := fun y z c h1 h2 => I.ok.inj y z c (ok.sub y c h1) (ok.sub z c h2)
  has := ok.has
  cab := fun y c h => by cases h
  hd := I.ok.hd
  frames := I.ok.frames
  stk := .inl rfl
  exf := fun b h => ⟨Nat.ne_of_lt (Nat.lt_of_lt_of_le (hb b h) hC), fun y c e => (hf b h).2.2.2.2.1 y c (ok.sub y c e)⟩
  bs := I.bs
  bsz := Nat.le_trans I.ok.bsz I.sz
  noex := fun b o e h => by
    rcases (hf b h).2.2.2.1 with z | z
    · exact I.ok.noex b o e z
    · exact absurd (Nat.lt_of_lt_of_le (Heap.lt_size (I.ok.bs b o e).1) z) (Nat.lt_irrefl _)
  exfs := fun b h z => by
    rcases List.mem_cons.mp (I.stkSub b z) with e | e
    · exact (hf b h).2.1 e
    · exact (hf b h).2.2.1 e
  funs := I.stack
  frf := I.stkFree

def CompR (tt : TT) (te : TE) (σ : St) (Q : VK) : It → Hp → Prop := fun J H1 => ∀ D, H1 D = none → ∃ W : Nat → Nat → List V → Hp → Prop, (∃ m, W 0 m [] (upd H1 D (.lst []))) ∧
  ∀ i m ys H2, W i m ys H2 → H2 D = some (.lst ys) ∧ ((J.stop i H2 ∧ Q (.ref D) H2) ∨ (J.go i H2 ∧ ys.length < sizeLine ∧ ∃ m', m' < m ∧ ∀ x H3, J.yld i H2 x H3 →
    tt (some x :: σ) H3 fun b H4 => if b = true then te (some x :: σ) H4 fun y H5 => H5 D = some (.lst ys) ∧ W (i + 1) m' (ys ++ [y]) (upd H5 D (.lst (ys ++ [y]))) else W (i + 1) m' ys H4))
theorem comp_core {M : List Str} {elt iter : Expr} {x : Str} {px pos : Pos} {ifs : List Expr} {scope : Scope} {cl : List (Str × Addr)} {tt : TT} {te : TE} (hc : X.calm = true) (ok : CompOk X M x scope cl)
    (ht : ∀ C s₀ H₀ fp, PIfs (compCx X M x scope cl C s₀ H₀ fp) ifs tt) (he : ∀ C s₀ H₀ fp, PE (compCx X M x scope cl C s₀ H₀ fp) elt te)
    {pins : List (Addr × Obj)} {σ : St} {H2 : Hp} {s2 : Shared} {it : Addr} {fp : List Addr} {tn : Nat → Heap → Prop} {J : It} {Q : VK} (I2 : Inv X pins σ H2 s2) (T : Turn X.prog X.w X.K (.Name x px) J fp it tn) (st2 : tn 0 s2.heap) (f2 : ∀ b ∈ fp, FpOk X pins H2 b)
    (hW : CompR tt te σ Q J H2) (post : Value → Addr → Result → Shared → Prop)
    (fin : ∀ D C H3 s4, Inv X pins σ H3 s4 → (∃ m, s4.heap.Ns C m) → FpOk X pins H3 C → Q (.ref D) H3 → post (.ref D) C (.ok .next) s4) :
    wpAny (model X.prog X.w) X.A (newList []) (fun acc s₃ => wpAny (model X.prog X.w) X.A (newFunctionEnv scope X.env.globals cl [] X.env.qual none .none (some X.env)) (fun cenv s₄ =>
      codeAny (model X.prog X.w) X.A (.compStart (.ListComp elt [⟨.Name x px, iter, ifs, 0⟩] scope pos) 0 (.ref it) acc { cenv with scope := relabel scope X.env }) (post acc cenv.locals) s₄) X.xe s₃) X.xe s2 := by
  refine wpAny_newObj_type (wpAny_newFunctionEnv ok.cell (by intro y hy; simp at hy) (fun h₁ hns₁ hsb₁ => ?_) ok.kind)
  dsimp only at hns₁ hsb₁ ⊢
  generalize hH2 : s2.heap.push { cls := .type "list", dict := none, data := .seq ([] : List Value).toArray } = G2 at hns₁ hsb₁ ⊢
  have hC : G2.objs.size = s2.heap.objs.size + 1 := by rw [← hH2, Heap.size_push]
  have hDC : s2.heap.objs.size ≠ G2.objs.size := by rw [hC]; exact Nat.ne_of_lt (Nat.lt_succ_self _)
  have hCle : s2.heap.objs.size ≤ G2.objs.size := by rw [hC]; exact Nat.le_succ _
  have below : ∀ b, b < s2.heap.objs.size → b ≠ G2.objs.size ∧ b ≠ s2.heap.objs.size := fun b hb => ⟨by rw [hC]; exact Nat.ne_of_lt (Nat.lt_succ_of_lt hb), Nat.ne_of_lt hb⟩
  have old : ∀ b o, s2.heap.get? b = some o → h₁.get? b = some o := fun b o e => hsb₁.extBut b o (below b (Heap.lt_size e)).1 (Heap.get?_push_of_some _ (hH2 ▸ Heap.get?_push_of_some _ e))
  have hacc : h₁.get? s2.heap.objs.size = some { cls := .type "list", data := .seq ([] : List Value).toArray } := hsb₁.extBut _ _ hDC (Heap.get?_push_of_some _ (hH2 ▸ Heap.get?_push_size _ rfl))
  have fpb : ∀ b ∈ fp, b < s2.heap.objs.size := fun b hb => by
    obtain ⟨o, e, _⟩ := T.obj _ _ st2 b hb
    exact Heap.lt_size e
  have hD0 : H2 s2.heap.objs.size = none := I2.hok.fresh (Nat.le_refl _)
  have hC0 : H2 G2.objs.size = none := I2.hok.fresh hCle
  generalize hDD : s2.heap.objs.size = D at *
  generalize hCC : G2.objs.size = C at *
  obtain ⟨W, ⟨m0, w0⟩, turn⟩ := hW D hD0
  have okX : (compCx X M x scope cl C s2 H2 fp).Ok := comp_ok I2 ok (by rw [hDD]; exact hCle) f2 (by rw [hDD]; exact fpb)
  have lenN : (none :: σ : St).length = (compCx X M x scope cl C s2 H2 fp).N.length := by
    show (none :: σ).length = (x :: M).length
    rw [List.length_cons, List.length_cons, I2.len, ok.len]
  -- the values of the names around it, seen from within
  have locs : ∀ (h' : Heap) (m : Str → Option Value) (w' : Option V), (∀ y c, X.env.cells.lookup y = some c → ∀ v, s2.heap.IsCell c v → h'.IsCell c v) → w' = none →
      ∀ (i : Nat) (y : Str) (v : V), (x :: M)[i]? = some y → (w' :: σ : St)[i]? = some (some v) → Vis (relabel scope X.env) y → ∃ u, RelV v u ∧ Look (compEnvC scope cl C X.env) h' m y u := by
    intro h' m w' hcell hw i y v e1 e2 e3
    subst hw
    cases i with
    | zero => simp at e2
    | succ i =>
      have e0 : M[i]? = some y := by simpa using e1
      have e2' : σ[i]? = some (some v) := by simpa using e2
      obtain ⟨e1', k1, k2⟩ := ok.vis i y e0 e3
      obtain ⟨m2, _, hl⟩ := I2.loc
      obtain ⟨u, r, l⟩ := hl i y v e1' e2' (k2.elim (fun z => .inr (.inl z)) fun z => .inr (.inr z))
      obtain ⟨c', hc'⟩ := ok.has y k1
      rcases l with ⟨z, _⟩ | ⟨_, c, hcc, z⟩
      · have z' : X.env.scope.names.lookup y = some .local := z
        rcases k2 with q | q <;> (rw [q] at z'; cases z')
      · have q := ok.sub y c' hc'
        rw [hcc] at q
        cases q
        exact ⟨u, r, .inr ⟨k1, c', hc', hcell y c' hcc _ z⟩⟩
  have I0 : Inv (compCx X M x scope cl C s2 H2 fp) [] (none :: σ) (upd H2 D (.lst [])) { s2 with heap := h₁, toks := s2.toks + ([] : List (Str × Value)).length } := by
    refine ⟨okX, rfl, I2.bare, ?_, ⟨_, hns₁, locs h₁ _ none (fun y c e v z => ?_) rfl⟩, fun y c e => ?_, ?_, fun y c e => ?_, fun p hp => ?_, ?_, lenN⟩
    · exact Un.laid old (Nat.le_of_eq hDD) hD0
    · obtain ⟨o, ho, hd⟩ := z
      exact ⟨o, old c o ho, hd⟩
    · obtain ⟨v, o, ho, hd⟩ := I2.cell y c (ok.sub y c e)
      exact ⟨v, o, old c o ho, hd⟩
    · show upd H2 D (.lst []) C = none
      rw [upd_ne (Ne.symm hDC)]
      exact hC0
    · have hn := I2.freeC y c (ok.sub y c e)
      obtain ⟨v, o, ho, hd⟩ := I2.cell y c (ok.sub y c e)
      rw [upd_ne (fun z => by have := Heap.lt_size ho; rw [hDD, z] at this; exact Nat.lt_irrefl _ this)]
      exact hn
    · exact absurd hp (by show p ∉ ([] ++ [] : List (Addr × Obj)); simp)
    · refine I2.hok.laid old (Nat.le_of_eq hDD) ⟨Nat.zero_le _, [], _, .nil, hacc⟩
  have fpk : ∀ {H' : Hp}, (∀ b ∈ fp, H' b = none) → ∀ b ∈ fp, FpOk (compCx X M x scope cl C s2 H2 fp) [] H' b := fun hn b hb => by
    refine ⟨hn b hb, (below b (fpb b hb)).1, okX.exfs b hb, .inl hb, fun y c e => (f2 b hb).2.2.2.2.1 y c (ok.sub y c e), fun p hp => ?_⟩
    exact absurd hp (by show p ∉ ([] ++ [] : List (Addr × Obj)); simp)
  have loop : ∀ s₃ : Shared, s₃ = { s2 with heap := h₁, toks := s2.toks + ([] : List (Str × Value)).length } →
      codeAny (model X.prog X.w) X.A (.compLoop (.ListComp elt [⟨.Name x px, iter, ifs, 0⟩] scope pos) 0 (.ref it) (.ref D) (compEnvC scope cl C X.env))
        (post (.ref D) C) s₃ := by
    rintro s₃ rfl
    refine codeAny_compLoop_tests (fun n s' => ∃ i ys w' H', Inv (compCx X M x scope cl C s2 H2 fp) [] (w' :: σ) H' s' ∧ tn i s'.heap ∧ (∀ b ∈ fp, H' b = none) ∧ W i n ys H') ?_ m0
      ⟨0, [], none, _, I0, T.keep _ _ _ st2 (fun b _ o e => old b o e), fun b hb => by rw [upd_ne (below b (fpb b hb)).2]; exact (f2 b hb).1, w0⟩
    rintro n s3 ⟨i, ys, w3, H3, I3, st3, fr3, wt⟩
    obtain ⟨hD3, hh⟩ := turn i n ys H3 wt
    rcases hh with ⟨stop, q⟩ | ⟨go, hlen, m', hm, step⟩
    · refine thn (T.done (compCx X M x scope cl C s2 H2 fp) rfl rfl rfl hc i [] s3 (w3 :: σ) H3 _ I3 (fpk fr3) st3 stop) fun r s4 ⟨hr, I4⟩ => ?_
      subst hr
      obtain ⟨m4, hn4, _⟩ := id I4.loc
      have hC4 : H3 C = none := I4.free
      exact fin D C H3 s4 (I2.call' (ch := fp) I4.os I4.base I4.hok I4.bare fun b hb => ⟨(f2 b hb).2.2.2.1, (f2 b hb).2.1, (f2 b hb).2.2.2.2.1, (f2 b hb).2.2.2.2.2⟩) ⟨m4, hn4⟩ (I2.fpOk (by rw [hDD]; exact hCle) hC4) q
    · refine wpAny_mono (T.item (compCx X M x scope cl C s2 H2 fp) rfl rfl rfl hc i [] s3 (w3 :: σ) H3 (fun _ _ => False) I3 (fpk fr3) st3 go) (fun r s4 h4 => ?_) (fun _ _ z => z.elim)
      obtain ⟨u, hr, h4⟩ := h4
      subst hr
      refine (show wpAny (model X.prog X.w) X.A (letOwnedTupleGo (.Name x px) (.ref it) u >>= fun _ => assign (.Name x px) (compEnvC scope cl C X.env) u) _ _ _ from wpAny_bind (wpAny_mono h4 (fun _ s4 h4 => ?_) (fun _ _ z => z.elim)))
      obtain ⟨x', H5, I5, r5, y5, st5, fr5⟩ := h4
      have I5' := I5.pinned (fpk fr5) (T.obj _ _ st5)
      refine wpAny_assign_Name (store_ok (X := compCx X M x scope cl C s2 H2 fp) (i := 0) I5' ok.nd rfl (.inl (lookup_relabel_local ok.xl)) r5 (fun s6 I6 => ?_) (.inr (lookup_relabel_local ok.xl)))
      have I6' : Inv (compCx X M x scope cl C s2 H2 fp) ([] ++ pinsAt fp s4.heap) (some x' :: σ) H5 s6 := I6
      have back : ∀ {s7 : Shared} {H7 : Hp} {w7 : Option V}, Inv (compCx X M x scope cl C s2 H2 fp) ([] ++ pinsAt fp s4.heap) (w7 :: σ) H7 s7 → tn (i + 1) s7.heap ∧ (∀ b ∈ fp, H7 b = none) ∧ Inv (compCx X M x scope cl C s2 H2 fp) [] (w7 :: σ) H7 s7 := fun {s7 H7 w7} I7 => by
        refine ⟨T.keep _ _ _ st5 fun b hb o e => (I7.pin (b, o) (List.mem_append_right _ (List.mem_append_right _ (mem_pinsAt hb e)))).1, fun b hb => ?_, I7.unpinned⟩
        obtain ⟨o, e, d⟩ := T.obj _ _ st5 b hb
        exact (I7.pin (b, o) (List.mem_append_right _ (List.mem_append_right _ (mem_pinsAt hb e)))).2.1
      refine wpAny_mono (ht C s2 H2 fp _ s6 _ H5 _ I6' (step x' H5 y5)) (fun ok' s7 h7 => ?_) (fun _ _ z => z.elim)
      obtain ⟨H7, I7, q7⟩ := h7
      cases ok' with
      | false =>
        have q7' : W (i + 1) m' ys H7 := by simpa using q7
        rw [if_neg Bool.false_ne_true]
        obtain ⟨b1, b2, b3⟩ := back I7
        exact ⟨m', hm, i + 1, ys, _, H7, b3, b1, b2, q7'⟩
      | true =>
        rw [if_pos rfl] at q7 ⊢
        refine wpAny_mono (he C s2 H2 fp _ s7 _ H7 _ I7 q7) (fun y s8 h8 => ?_) (fun _ _ z => z.elim)
        obtain ⟨v8, H8, I8, r8, hD8, w8⟩ := h8
        refine wpAny_mono (mt_append (X := compCx X M x scope cl C s2 H2 fp) _ s8 _ H8 (.ref D) [v8] (.ref D) [y] (fun _ H9 => H9 = upd H8 D (.lst (ys ++ [v8]))) I8 rfl (.cons r8 .nil) ⟨D, ys, v8, rfl, rfl, hD8, hlen, rfl⟩) (fun _ s9 h9 => ?_) (fun _ _ z => z.elim)
        obtain ⟨v9, H9, I9, _, e9⟩ := h9
        subst e9
        obtain ⟨b1, b2, b3⟩ := back I9
        exact ⟨m', hm, i + 1, _, _, _, b3, b1, b2, w8⟩
  exact codeAny_compStart_list (loop _ rfl) (T.self _ 0 _ _ _ (T.keep _ _ _ st2 (fun b _ o e => old b o e)) (loop _ rfl))
theorem pe_comp {M : List Str} {elt iter : Expr} {x : Str} {px pos : Pos} {ifs : List Expr} {scope : Scope} {cl : List (Str × Addr)} {wi : TI} {tt : TT} {te : TE} (hc : X.calm = true) (ok : CompOk X M x scope cl) (hi : PI X (.Name x px) iter wi)
    (ht : ∀ C s₀ H₀ fp, PIfs (compCx X M x scope cl C s₀ H₀ fp) ifs tt) (he : ∀ C s₀ H₀ fp, PE (compCx X M x scope cl C s₀ H₀ fp) elt te)
    (hs : ∀ x, foldedSetIterable iter X.env x = pure x := by intro _; rfl) :
    PE X (.ListComp elt [⟨.Name x px, iter, ifs, 0⟩] scope pos) (tComp wi tt te) := by
  intro pins s σ H Q I h
  rw [eval_ListComp]
  refine wpAny_comprehension_free (use := none) rfl hs ok.clos ok.kind ok.names (thn (hi pins s σ H _ I h) fun xv s1 h1 => thn h1 fun itv s2 h2 => ?_)
  obtain ⟨it, fp, tn, J, H2, e, I2, T, st2, f2, hW⟩ := h2
  subst e
  refine comp_core hc ok ht he I2 T st2 f2 hW (compPost (model X.prog X.w) X.A X.xe none (EP X pins σ Q)) fun D C H3 s4 I4 hm fC q => ?_
  obtain ⟨m, hn⟩ := hm
  exact ⟨m, hn, fun h' hsb => ⟨.ref D, H3, I4.turned (t' := s4.toks) (fun b o hb e => hsb.extBut b o hb e) fC.1 fC.2.1 fC.2.2.2.1 fC.2.2.2.2.1 fC.2.2.2.2.2, rfl, q⟩⟩
/-- name = [.. for x in ..] -/
theorem ps_setComp {M : List Str} {elt iter : Expr} {x y : Str} {px py pos spos : Pos} {ifs : List Expr} {scope : Scope} {cl : List (Str × Addr)} {wi : TI} {tt : TT} {te : TE} {i : Nat} (hN : X.N.Nodup) (hiy : X.N[i]? = some y) (hy : Loc X.env.scope y)
    (hc : X.calm = true) (ok : CompOk X M x scope cl) (hi : PI X (.Name x px) iter wi)
    (ht : ∀ C s₀ H₀ fp, PIfs (compCx X M x scope cl C s₀ H₀ fp) ifs tt) (he : ∀ C s₀ H₀ fp, PE (compCx X M x scope cl C s₀ H₀ fp) elt te)
    (hsw : swapsWith (.ListComp elt [⟨.Name x px, iter, ifs, 0⟩] scope pos) (some (.Name y py)) spos.line X.env = pure true := by with_unfolding_all rfl)
    (hf : X.fn y = true ∨ X.env.scope.names.lookup y = some .local := by first | exact .inl rfl | exact .inr rfl | assumption)
    (hs : ∀ x, foldedSetIterable iter X.env x = pure x := by intro _; rfl) :
    PS X (.Assign [.Name y py] (.ListComp elt [⟨.Name x px, iter, ifs, 0⟩] scope pos) spos) (tAsg (tComp wi tt te) (gName i)) := by
  intro pins s σ H D I h
  rw [exec_Assign_Name_used _ _ _ _ hsw]
  refine wpAny_bind (wpAny_standAt (wpAny_bind ?_))
  show wpAny _ X.A (do let _ ← comprehension (.ListComp elt [⟨.Name x px, iter, ifs, 0⟩] scope pos) scope X.env _ (newList []) false (eval iter X.env) (some (assign (.Name y py) X.env))) _ _ s
  refine wpAny_bind (wpAny_mono (wpAny_comprehension_free (use := some (assign (.Name y py) X.env)) (Q := fun _ s' => SP X pins D .next s') rfl hs ok.clos ok.kind ok.names
    (thn (hi pins s σ H _ I h) fun xv s1 h1 => thn h1 fun itv s2 h2 => ?_)) (fun _ s' hq => wpAny_pure (wpAny_pure hq)) fun _ _ e => e)
  obtain ⟨it, fp, tn, J, H2, e, I2, T, st2, f2, hW⟩ := h2
  subst e
  refine comp_core (Q := fun x H1 => gName i x σ H1 D.nx) hc ok ht he I2 T st2 f2 hW (compPost (model X.prog X.w) X.A X.xe (some (assign (.Name y py) X.env)) (fun _ s' => SP X pins D .next s')) fun Dd C H3 s4 I4 hm fC q => ?_
  obtain ⟨m, hn⟩ := hm
  show wpAny _ X.A (assign (.Name y py) X.env (.ref Dd)) _ _ _
  refine wpAny_assign_Name (store_ok2 I4 hN hiy hy (v := .ref Dd) rfl (fun s5 I5 hsb => ?_) hf)
  obtain ⟨a, sb, ha⟩ := hsb
  have hCa : C ≠ a := by
    rcases ha with rfl | ha
    · exact fC.2.1
    · exact (fC.2.2.2.2.1 _ _ ha).symm
  exact ⟨m, hn.sameBut sb hCa, fun h' hsb' => ⟨_, H3, I5.turned (t' := s5.toks) (fun b o hb e => hsb'.extBut b o hb e) fC.1 fC.2.1 fC.2.2.2.1 fC.2.2.2.2.1 fC.2.2.2.2.2, q⟩⟩

theorem vals_bls : ∀ {bs : List Bool} {us : List Value}, Vals (bs.map V.bl) us → us = bs.map Value.bool
  | [], _, .nil => rfl
  | b :: bs, u :: us, .cons r t => by
    cases (show u = Value.bool b from r)
    rw [vals_bls t]
    rfl
theorem range_allB (bs : List Bool) : ((List.range bs.length).all fun i => (bs[i]?).getD true) = bs.all id := by
  induction bs with
  | nil => rfl
  | cons b bs ih =>
    rw [List.length_cons, List.range_succ_eq_map, List.all_cons, List.all_map, List.all_cons, ← ih]
    rfl
theorem kept_it {s : Shared} {h' : Heap} {o : Obj} (hk : ∀ b x, b ∉ [s.heap.objs.size] → (s.heap.push o).get? b = some x → h'.get? b = some x) : ∀ b x, s.heap.get? b = some x → h'.get? b = some x :=
  fun b x e => hk b x (fun hm => by rw [List.mem_singleton.mp hm] at e; exact Nat.lt_irrefl _ (Heap.lt_size e)) (Heap.get?_push_of_some _ e)
theorem call_all (hc : X.calm = true) : CallR X (.builtin "all") (fun xs H Q => ∃ (p : Addr) (bs : List Bool), xs = [.ref p] ∧ SqL X.K H p (bs.map V.bl) ∧ Q (.bl (bs.all id)) H) := by
  intro pins s σ H xs us Q I r h
  obtain ⟨p, bs, rfl, hq, q⟩ := h
  obtain ⟨u, rfl, ru⟩ := vals1 r
  cases (show u = Value.ref p from ru)
  obtain ⟨its, rv, pl, _⟩ := I.list hq
  obtain rfl := vals_bls rv
  have hl := pl.isList
  have hlt : p < s.heap.objs.size := by obtain ⟨_, e, _⟩ := id hl; exact Heap.lt_size e
  refine call_all_walk (wpAny_pyIter_list hl ?_)
  refine ⟨s.heap.objs.size, [s.heap.objs.size, p], [s.heap.objs.size], (bs.map Value.bool).toArray.size, _, _, fun i => (bs[i]?).getD true, rfl, Walks.list (A := X.A.in1) (I.ok.hd hc) _ p (Nat.ne_of_lt hlt) (bs.map Value.bool).toArray,
    ⟨⟨_, Heap.get?_push_size _ rfl, rfl, rfl⟩, hl.push _⟩, fun i v s' Q' E' hP hQ => ?_, fun h' tk hk => ?_⟩
  · have hP' : (bs.map Value.bool)[i]? = some v := by simpa using hP
    rw [List.getElem?_map] at hP'
    cases e : bs[i]? with
    | none => rw [e] at hP'; cases hP'
    | some b =>
      rw [e] at hP'
      cases hP'
      simp only [e, Option.getD_some] at hQ
      exact wpAny_truthy_bool hQ
  · have e : ((List.range (bs.map Value.bool).toArray.size).all fun i => (bs[i]?).getD true) = bs.all id := by
      rw [List.size_toArray, List.length_map]; exact range_allB bs
    rw [e]
    exact ⟨.bl _, H, I.kept (kept_it hk), rfl, q⟩
theorem lookup_mem {κ β : Type} [BEq κ] [LawfulBEq κ] {k : κ} {v : β} : ∀ {l : List (κ × β)}, l.lookup k = some v → (k, v) ∈ l
  | (a, b) :: r, h => by
    rw [List.lookup_cons] at h
    cases e : k == a with
    | true =>
      rw [e] at h
      cases h
      rw [eq_of_beq e]
      exact List.mem_cons_self
    | false =>
      rw [e] at h
      exact List.mem_cons_of_mem _ (lookup_mem h)
theorem relabel_plain {scope : Scope} {env : Env} (h : ∀ y ∈ scope.names, y.2 ≠ .free) : (relabel scope env).names = scope.names :=
  map_eq_self fun x hx => by
    obtain ⟨n, k⟩ := x
    have : (k == NameKind.free) = false := by simpa using h _ hx
    simp [this]
/-- a comprehension that names nothing of the frame around it -/
theorem compOk_nil {x : Str} {scope : Scope} (N : List Str) (hN : X.N = N) (hf : ∀ y ∈ scope.names, y.2 ≠ .free ∧ y.2 ≠ .cell) (hk : scope.kind = .function) (hn : ∀ y ∈ scope.names, y.2 = .local → scope.names.lookup y.1 = some .local)
    (hx : scope.names.lookup x = some .local) (nd : (x :: N).Nodup) (vis : ∀ y ∈ N, scope.names.lookup y ≠ some .local) : CompOk X N x scope [] := by
  have e := relabel_plain (env := X.env) fun y hy => (hf y hy).1
  refine ⟨closureFor_none fun y hy => (hf y hy).1, fun y hy => (hf y hy).2, hk, hn, hx, nd, by rw [hN], fun y c h => (by cases h), fun y h => ?_, fun i y hy h => ?_⟩
  · rw [e] at h
    rcases h with h | h
    · exact absurd rfl (hf _ (lookup_mem h)).2
    · exact absurd rfl (hf _ (lookup_mem h)).1
  · rcases h with h | h | h
    · rw [e] at h; exact absurd h (vis y (List.mem_of_getElem? hy))
    · rw [e] at h; exact absurd rfl (hf _ (lookup_mem h)).2
    · rw [e] at h; exact absurd rfl (hf _ (lookup_mem h)).1
/-- what an iterator goes through, where the heap is as ok says -/
structure Walk (J : It) (ok : Hp → Prop) (xs : List V) : Prop where
  go : ∀ i H, ok H → i < xs.length → J.go i H
  yld : ∀ i H x H', ok H → J.yld i H x H' → i < xs.length → H' = H ∧ xs[i]? = some x
  stop : ∀ i H, ok H → xs.length ≤ i → J.stop i H
theorem walk_l {K : PySem.W.Frag} {a : Addr} {xs : List V} : Walk (Itl K a) (fun H => SqL K H a xs) xs :=
  ⟨fun i H h hi => ⟨xs, xs[i], h, by simp [hi]⟩, fun i H x H' h y hi => ⟨y.1, y.2 xs h⟩, fun i H h hi => ⟨xs, h, hi⟩⟩
theorem walk_t {K : PySem.W.Frag} {a : Addr} {xs : List V} : Walk (Itt K a) (fun H => SqT K H a xs) xs :=
  ⟨fun i H h hi => ⟨xs, xs[i], h, by simp [hi]⟩, fun i H x H' h y hi => ⟨y.1, y.2 xs h⟩, fun i H h hi => ⟨xs, h, hi⟩⟩
theorem walk_r {lo : Int} {n : Nat} : Walk (Itr lo n) (fun _ => True) ((List.range n).map fun i => V.int (lo + (i : Nat))) :=
  ⟨fun i H _ hi => (by show i < n; simpa using hi), fun i H x H' _ y hi => ⟨y.1, by
    have hi' : i < n := by simpa using hi
    rw [y.2]
    simp [hi']⟩, fun i H _ hi => (by show n ≤ i; simpa using hi)⟩
/-- the comprehension's list: f of the items that p lets through; tests and elements leave the heap as it is -/
theorem comp_by {J : It} {ok : Hp → Prop} {xs : List V} {σ : St} {H : Hp} {Q : VK} {tt : TT} {te : TE} (Wk : Walk J ok xs) (hz : xs.length < sizeLine) (hok : ∀ D ys, H D = none → ok (upd H D (.lst ys))) (p : V → Bool) (f : V → V)
    (ht : ∀ x ∈ xs, ∀ D ys (Q' : Bool → Hp → Prop), H D = none → Q' (p x) (upd H D (.lst ys)) → tt (some x :: σ) (upd H D (.lst ys)) Q')
    (he : ∀ x ∈ xs, p x = true → ∀ D ys (Q' : VK), H D = none → Q' (f x) (upd H D (.lst ys)) → te (some x :: σ) (upd H D (.lst ys)) Q')
    (h : ∀ D, H D = none → Q (.ref D) (upd H D (.lst ((xs.filter p).map f)))) :
    ∀ D, H D = none → ∃ W : Nat → Nat → List V → Hp → Prop, (∃ m, W 0 m [] (upd H D (.lst []))) ∧
      ∀ i m ys H2, W i m ys H2 → H2 D = some (.lst ys) ∧ ((J.stop i H2 ∧ Q (.ref D) H2) ∨ (J.go i H2 ∧ ys.length < sizeLine ∧ ∃ m', m' < m ∧ ∀ x H3, J.yld i H2 x H3 →
        tt (some x :: σ) H3 fun b H4 => if b = true then te (some x :: σ) H4 fun y H5 => H5 D = some (.lst ys) ∧ W (i + 1) m' (ys ++ [y]) (upd H5 D (.lst (ys ++ [y]))) else W (i + 1) m' ys H4)) := by
  intro D hD
  refine ⟨fun i m ys H2 => i ≤ xs.length ∧ m = xs.length - i ∧ ys = ((xs.take i).filter p).map f ∧ H2 = upd H D (.lst ys), ⟨_, Nat.zero_le _, rfl, by simp, rfl⟩, ?_⟩
  rintro i m ys H2 ⟨hi, rfl, hys, rfl⟩
  refine ⟨upd_same, ?_⟩
  by_cases hlt : i < xs.length
  · have hl : ys.length ≤ i := by
      rw [hys, List.length_map]
      exact Nat.le_trans (List.length_filter_le _ _) (by rw [List.length_take]; omega)
    refine .inr ⟨Wk.go i _ (hok D ys hD) hlt, by omega, xs.length - (i + 1), by omega, fun x H3 hy => ?_⟩
    obtain ⟨e3, ex⟩ := Wk.yld i _ x H3 (hok D ys hD) hy hlt
    subst e3
    have hm : x ∈ xs := List.mem_of_getElem? ex
    have et : xs.take (i + 1) = xs.take i ++ [x] := by rw [List.take_add_one, ex]; rfl
    refine ht x hm D ys _ hD ?_
    cases hp : p x with
    | false =>
      rw [if_neg Bool.false_ne_true]
      refine ⟨hlt, rfl, ?_, rfl⟩
      rw [et, List.filter_append, hys]
      simp [hp]
    | true =>
      rw [if_pos rfl]
      refine he x hm hp D ys _ hD ⟨upd_same, hlt, rfl, ?_, by rw [upd_upd]⟩
      rw [et, List.filter_append, hys]
      simp [hp]
  · have e : i = xs.length := by omega
    subst e
    refine .inl ⟨Wk.stop _ _ (hok D ys hD) (Nat.le_refl _), ?_⟩
    rw [hys, List.take_length]
    exact h D hD
theorem rd_rng1 {ta : TA} {σ : St} {H : Hp} {R : It → Hp → Prop} (h : ta σ H fun vs H1 => ∃ j : Int, vs = [.int j] ∧ -(2 ^ 62) ≤ j ∧ j < 2 ^ 62 ∧ R (Itr 0 j.toNat) H1) : iRng1 ta σ H R := h
theorem rd_rng2 {ta : TA} {σ : St} {H : Hp} {R : It → Hp → Prop} (h : ta σ H fun vs H1 => ∃ i j : Int, vs = [.int i, .int j] ∧ (-(2 ^ 62) ≤ i ∧ i < 2 ^ 62 ∧ -(2 ^ 62) ≤ j ∧ j < 2 ^ 62) ∧ R (Itr i (j - i).toNat) H1) : iRng2 ta σ H R := h
theorem rd_comp {wi : TI} {tt : TT} {te : TE} {σ : St} {H : Hp} {Q : VK} (h : wi σ H (CompR tt te σ Q)) : tComp wi tt te σ H Q := h
theorem comp_go {J : It} {ok : Hp → Prop} {xs : List V} {σ : St} {H : Hp} {Q : VK} {tt : TT} {te : TE} (Wk : Walk J ok xs) (hz : xs.length < sizeLine) (hok : ∀ D ys, H D = none → ok (upd H D (.lst ys))) (p : V → Bool) (f : V → V)
    (ht : ∀ x ∈ xs, ∀ D ys (Q' : Bool → Hp → Prop), H D = none → Q' (p x) (upd H D (.lst ys)) → tt (some x :: σ) (upd H D (.lst ys)) Q')
    (he : ∀ x ∈ xs, p x = true → ∀ D ys (Q' : VK), H D = none → Q' (f x) (upd H D (.lst ys)) → te (some x :: σ) (upd H D (.lst ys)) Q')
    (h : ∀ D, H D = none → Q (.ref D) (upd H D (.lst ((xs.filter p).map f)))) : CompR tt te σ Q J H := comp_by Wk hz hok p f ht he h
theorem comp_t {K : PySem.W.Frag} {i : Nat} {a : Addr} {xs : List V} {σ : St} {H : Hp} {Q : VK} {tt : TT} {te : TE} (ei : σ[i]? = some (some (.ref a))) (hS : SqT K H a xs) (hz : xs.length < sizeLine) (p : V → Bool) (f : V → V)
    (ht : ∀ x ∈ xs, ∀ D ys (Q' : Bool → Hp → Prop), H D = none → Q' (p x) (upd H D (.lst ys)) → tt (some x :: σ) (upd H D (.lst ys)) Q')
    (he : ∀ x ∈ xs, p x = true → ∀ D ys (Q' : VK), H D = none → Q' (f x) (upd H D (.lst ys)) → te (some x :: σ) (upd H D (.lst ys)) Q')
    (h : ∀ D, H D = none → Q (.ref D) (upd H D (.lst ((xs.filter p).map f)))) : tComp (iTup K (tVar i)) tt te σ H Q :=
  ⟨_, ei, a, rfl, ⟨_, hS⟩, comp_by walk_t hz (fun D ys hD => (same_new hD _).tup hS) p f ht he h⟩
theorem comp_l {K : PySem.W.Frag} {i : Nat} {a : Addr} {xs : List V} {σ : St} {H : Hp} {Q : VK} {tt : TT} {te : TE} (ei : σ[i]? = some (some (.ref a))) (hS : SqL K H a xs) (hz : xs.length < sizeLine) (p : V → Bool) (f : V → V)
    (ht : ∀ x ∈ xs, ∀ D ys (Q' : Bool → Hp → Prop), H D = none → Q' (p x) (upd H D (.lst ys)) → tt (some x :: σ) (upd H D (.lst ys)) Q')
    (he : ∀ x ∈ xs, p x = true → ∀ D ys (Q' : VK), H D = none → Q' (f x) (upd H D (.lst ys)) → te (some x :: σ) (upd H D (.lst ys)) Q')
    (h : ∀ D, H D = none → Q (.ref D) (upd H D (.lst ((xs.filter p).map f)))) : tComp (iList K (tVar i)) tt te σ H Q :=
  ⟨_, ei, a, rfl, ⟨_, hS⟩, comp_by walk_l hz (fun D ys hD => (same_new hD _).seq hS) p f ht he h⟩
theorem rd_true {σ : St} {H : Hp} {Q : Bool → Hp → Prop} (h : Q true H) : tTrue σ H Q := h

/-- a comprehension that names what its frame holds in cells -/
theorem compOk_freeM {x : Str} {scope : Scope} {cl : List (Str × Addr)} (M N : List Str) (hl : M.length = N.length) (hN : X.N = N) (clos : closureFor scope X.env = pure cl) (hc : (scope.names.all fun y => y.2 != .cell) = true) (hk : scope.kind = .function)
    (hn : (scope.names.all fun y => y.2 != .local || scope.names.lookup y.1 == some .local) = true) (hx : scope.names.lookup x = some .local) (nd : (x :: M).Nodup)
    (hs : ∀ p ∈ cl, X.env.cells.lookup p.1 = some p.2)
    (hh : ((relabel scope X.env).names.all fun p => (p.2 != .cell && p.2 != .free) || (cl.lookup p.1).isSome) = true)
    (hv : ((M.zip N).all fun q => match (relabel scope X.env).names.lookup q.1 with
      | some .local => false
      | some .cell => q.1 == q.2 && (X.env.scope.names.lookup q.1 == some .cell || X.env.scope.names.lookup q.1 == some .free)
      | some .free => q.1 == q.2 && (X.env.scope.names.lookup q.1 == some .cell || X.env.scope.names.lookup q.1 == some .free)
      | _ => true) = true) : CompOk X M x scope cl := by
  refine ⟨clos, fun y hy => ?_, hk, fun y hy hl => ?_, hx, nd, by rw [hN]; exact hl, fun y c h => hs _ (lookup_mem h), fun y h => ?_, fun i y hy h => ?_⟩
  · have := List.all_eq_true.mp hc y hy
    simpa using this
  · have := List.all_eq_true.mp hn y hy
    simpa [hl] using this
  · rcases h with h | h
    · have := List.all_eq_true.mp hh _ (lookup_mem h)
      exact Option.isSome_iff_exists.mp (by simpa using this)
    · have := List.all_eq_true.mp hh _ (lookup_mem h)
      exact Option.isSome_iff_exists.mp (by simpa using this)
  · have hi : i < N.length := by
      have := (List.getElem?_eq_some_iff.mp hy).1
      omega
    have hz : (y, N[i]) ∈ M.zip N := by
      have : (M.zip N)[i]? = some (y, N[i]) := List.getElem?_zip_eq_some.mpr ⟨hy, by simp [hi]⟩
      exact List.mem_of_getElem? this
    have z := List.all_eq_true.mp hv _ hz
    have fin : y = N[i] → X.N[i]? = some y := fun e => by rw [hN, e]; simp [hi]
    rcases h with h | h | h
    · dsimp only at z
      rw [h] at z; cases z
    · dsimp only at z
      rw [h] at z
      simp only [Bool.and_eq_true, beq_iff_eq, Bool.or_eq_true] at z
      exact ⟨fin z.1, .inl h, z.2⟩
    · dsimp only at z
      rw [h] at z
      simp only [Bool.and_eq_true, beq_iff_eq, Bool.or_eq_true] at z
      exact ⟨fin z.1, .inr h, z.2⟩
def ItrS (lo c : Int) (n : Nat) : It := ⟨fun i _ => i < n, fun i H x H' => H' = H ∧ x = .int (lo + i * c), fun i _ => n ≤ i⟩
theorem turn_rangeS {P : Program} {w : World} {K : PySem.W.Frag} {tg : Expr} (it : Addr) (lo c : Int) (n : Nat) : Turn P w K tg (ItrS lo c n) [it] it (fun i h => IsRangeIter h it (lo + (i : Nat) * c) ((n : Int) - (i : Nat)) c) where
  mem := by simp
  obj := fun i h st b hb => by
    have e : b = it := by simpa using hb
    subst e
    exact ⟨_, st, fun v z => by
      have z' : Data.fields _ = Data.cell v := z
      cases z'⟩
  keep := fun i h h' st k => k it (by simp) _ st
  item := by
    intro X hP hw hK hc i pins s σ H E I hf st hg
    subst hP hw hK
    obtain ⟨f0, f1, f2, f3, f4, f5⟩ := hf it (by simp)
    have W := Walks.range (prog := X.prog) (w := X.w) (I.ok.hd hc) it lo c n
    refine W.item i s _ _ hg st fun v h' tk hv st' kk => ?_
    obtain ⟨t, rfl⟩ := hv
    have I1 : Inv X pins σ H { s with heap := h', toks := tk } := I.turned (fun b o hb e => kk b o (by simpa using hb) e) f0 f1 f3 f4 f5
    exact ⟨_, rfl, go_of (s := { s with heap := h', toks := tk }) (n := "range_iterator") st' rfl rfl (by decide) ⟨.int (lo + i * c), H, I1, ⟨t, rfl⟩, ⟨rfl, rfl⟩, st', fun b hb => (hf b hb).1⟩⟩
  done := by
    intro X hP hw hK hc i pins s σ H E I hf st hg
    subst hP hw hK
    obtain ⟨f0, f1, f2, f3, f4, f5⟩ := hf it (by simp)
    exact wpAny_pyNext_range_end (I.ok.hd hc) st (by have : n ≤ i := hg; omega) fun h' eb => ⟨rfl, I.turned (t' := s.toks) (fun b o hb e => eb b o hb e) f0 f1 f3 f4 f5⟩
  self := fun _ _ _ _ _ st h => wpAny_pyIter_rangeiter st h
def iRng3 (ta : TA) : TI := fun σ H R => ta σ H fun vs H1 => ∃ i j c : Int, vs = [.int i, .int j, .int c] ∧ 0 < c ∧ c < 1073741824 ∧ Builtin.Range.small i j c = true ∧ ∃ n : Nat, (n : Int) = Builtin.Range.rangeSize i j c ∧ R (ItrS i c n) H1
theorem pi_range3 {tg : Expr} {a b d : Expr} {ta : TA} {p pos : Pos} (hg : Gl X "range") (hm : X.mg "range" = none) (ha : PA X [a, b, d] ta) (hs : starEach [a, b, d] X.env = (false, eval a X.env) :: starEach [b, d] X.env := by rfl)
    (hpl : (backTo pos (starEach [b, d] X.env)).any (·.1) = false := by rfl) : PI X tg (.Call (.Name "range" p) [a, b, d] [] pos) (iRng3 ta) := by
  intro pins s σ H R I h
  refine Call_ (ld_blt I hg hm boot_range (PyProof.Rows.callWith_type1 (thn (ha pos pins s σ H _ I h) fun us s1 ⟨vs, H1, I1, r1, q1⟩ => ?_) hs hpl))
  obtain ⟨lo, hi, c, e, c0, c1, sm, n, hn, q⟩ := q1
  subst e
  cases r1 with
  | cons r rr =>
    cases rr with
    | cons r' rr =>
      cases rr with
      | cons r'' rr =>
        cases rr
        obtain ⟨t, rfl⟩ := r
        obtain ⟨t', rfl⟩ := r'
        obtain ⟨t'', rfl⟩ := r''
        refine PySem.call_range_3 (by omega) ?_ (Or.inl (PyProof.noPylong_small (by omega)))
        refine wpAny_pyIter_range (IsRange.new ..) sm ?_
        have I2 : Inv X pins σ H1 { s1 with heap := s1.heap.push { cls := .type "range", data := .fields #[.int lo t, .int hi t', .int c t''] }, toks := s1.toks } := I1.kept fun b o e => Heap.get?_push_of_some _ e
        refine ⟨(s1.heap.push { cls := .type "range", data := .fields #[.int lo t, .int hi t', .int c t''] }).objs.size, [(s1.heap.push { cls := .type "range", data := .fields #[.int lo t, .int hi t', .int c t''] }).objs.size], _, _, H1, rfl,
          I2.kept (t' := s1.toks) fun b o e => Heap.get?_push_of_some _ e, turn_rangeS _ lo c n, ?_, fun b hb => ?_, q⟩
        · have e1 : lo + ((0 : Nat) : Int) * c = lo := by simp
          have e2 : (n : Int) - ((0 : Nat) : Int) = Builtin.Range.rangeSize lo hi c := by rw [← hn]; simp
          show IsRangeIter _ _ (lo + ((0 : Nat) : Int) * c) ((n : Int) - ((0 : Nat) : Int)) c
          rw [e1, e2]
          exact Heap.get?_push_size _ rfl
        · have e : b = (s1.heap.push { cls := .type "range", data := .fields #[.int lo t, .int hi t', .int c t''] }).objs.size := by simpa using hb
          subst e
          exact I2.fpOk (Nat.le_refl _) (I2.hok.fresh (Nat.le_refl _))
theorem rd_rng3 {ta : TA} {σ : St} {H : Hp} {R : It → Hp → Prop} (h : ta σ H fun vs H1 => ∃ i j c : Int, vs = [.int i, .int j, .int c] ∧ 0 < c ∧ c < 1073741824 ∧ Builtin.Range.small i j c = true ∧ ∃ n : Nat, (n : Int) = Builtin.Range.rangeSize i j c ∧ R (ItrS i c n) H1) : iRng3 ta σ H R := h
theorem dec_int0 {a b : Int} : decide (V.int a = V.int b) = decide (a = b) := by
  rw [Bool.eq_iff_iff]
  simp
theorem small_step {i j c : Int} (i0 : 0 ≤ i) (i1 : i < 4294967296) (j0 : 0 ≤ j) (j1 : j < 4294967296) (c0 : 0 < c) (c1 : c < 4294967296) : Builtin.Range.small i j c = true := by
  have e : Builtin.Range.rangeSize i j c = if i < j then (j - i - 1) / c + 1 else 0 := by
    unfold Builtin.Range.rangeSize
    rw [if_pos c0]
  have b1 : ∀ x : Int, 0 ≤ x → x / c ≤ x := fun x hx => Int.ediv_le_self _ hx
  have b2 : ∀ x : Int, 0 ≤ x → 0 ≤ x / c := fun x hx => Int.ediv_nonneg hx (by omega)
  unfold Builtin.Range.small
  rw [e]
  simp only [Builtin.Range.rangeFitsLong, Bool.and_eq_true, Bool.or_eq_true, decide_eq_true_eq, beq_iff_eq, if_pos c0]
  split
  · have := b1 (j - i - 1) (by omega)
    have := b2 (j - i - 1) (by omega)
    omega
  · omega
theorem rd_append {K : PySem.W.Frag} {i : Nat} {t : TA} {σ : St} {H : Hp} {Q : VK} {l : Addr} {xs : List V} (e : σ[i]? = some (some (.ref l))) (h : H l = some (.lst xs))
    (g : t σ H fun ys H2 => rAppend (.ref l) ys H2 Q) : tBM K "list" rAppend (tVar i) t σ H Q := ⟨_, e, .inl ⟨rfl, _, SqL.of h⟩, g⟩
theorem rd_app {l : Addr} {xs : List V} {y : V} {H : Hp} {Q : VK} (h : H l = some (.lst xs)) (hz : xs.length < sizeLine) (q : Q .non (upd H l (.lst (xs ++ [y])))) : rAppend (.ref l) [y] H Q := ⟨l, xs, y, rfl, rfl, h, hz, q⟩
theorem rd_for {wi : TI} {g : TG} {tb : TS} {D : Ends} {σ : St} {H : Hp} (h : wi σ H fun J H1 => ∃ W : Nat → Nat → St → Hp → Prop, (∃ m, W 0 m σ H1) ∧ ∀ i m σ H, W i m σ H →
  (J.stop i H ∧ D.nx σ H) ∨ (J.go i H ∧ ∃ N : St → Hp → Prop, (∀ σ' H', N σ' H' → ∃ m', m' < m ∧ W (i + 1) m' σ' H') ∧ ∀ x H', J.yld i H x H' → g x σ H' fun σ2 H2 => tb { D with nx := N, ct := N, bk := D.nx } σ2 H2)) : tFor wi g tb D σ H := h
theorem rd_iL {K : PySem.W.Frag} {tl : TE} {σ : St} {H : Hp} {R : It → Hp → Prop} (h : tl σ H fun x H1 => ∃ a, x = .ref a ∧ (∃ xs, SqL K H1 a xs) ∧ R (Itl K a) H1) : iList K tl σ H R := h
theorem rd_iT {K : PySem.W.Frag} {tl : TE} {σ : St} {H : Hp} {R : It → Hp → Prop} (h : tl σ H fun x H1 => ∃ a, x = .ref a ∧ (∃ xs, SqT K H1 a xs) ∧ R (Itt K a) H1) : iTup K tl σ H R := h
theorem same_app {H H' : Hp} {l : Addr} {o : HO} (h : H l = none) (s : Same H H') : Same H (upd H' l o) := fun b u e => by
  rw [upd_ne (ne_of_none e h)]
  exact s b u e
end
end L2

set_option Elab.async false
set_option linter.all false
set_option maxRecDepth 100000
set_option maxHeartbeats 4000000
namespace L2
open PySem PySem.Spec PyProof.Rows
/-- the object at e: its class, its dict, its head of tracebacks -/
def XObj (h : Heap) (e : Addr) (cls : Value) (dd : Option Addr) (head : Value) : Prop := ∃ vs sl, h.get? e = some ⟨cls, dd, .fields vs, sl⟩ ∧ vs[1]? = some head
/-- a traceback stands at its head, with the flight mark fl -/
def XTr (h base : Heap) (e : Addr) (cls : Value) (dd : Option Addr) (fl : Value) : Prop := ∃ T, XObj h e cls dd (.ref T) ∧ base.get? T = none ∧ T ≠ e ∧ ∃ oT ts, h.get? T = some oT ∧ oT.data = .fields ts ∧ ts[3]? = some fl
structure Sea (base : Heap) (l : List Env) (e : Addr) (h : Heap) : Prop where
  stays : base.StaysIn h
  new : base.get? e = none
  frames : h.FunFrames base l
section
variable {M : Model} {A : Around} {E : Value → Shared → Prop} {s : Shared} {base : Heap} {env : Env} {outer l : List Env} {L e : Addr} {cls : Value} {dd : Option Addr}
theorem fields_set {o : Obj} {vs : Array Value} (hd : o.data = .fields vs) (i : Nat) (x : Value) : Obj.mapFields (·.setIfInBounds i x) o = ⟨o.cls, o.dict, .fields (vs.setIfInBounds i x), o.slots⟩ := by
  obtain ⟨c, d, dt, sl⟩ := o
  cases hd
  rfl
/-- the entry is laid and put at the exception's head -/
theorem entry_x {head : Value} {nx : Bool} {Q : Unit → Shared → Prop} (hfr : A.frames = some (env :: outer)) (hf : env.frame = some L) (S : Sea base (env :: outer) e s.heap) {hd0 : Value} (O : XObj s.heap e cls dd hd0)
    (k : ∀ h', Sea base (env :: outer) e h' → XTr h' base e cls dd (rawInt L) → s.heap.UpToSlots h' → Q () { s with heap := h' }) :
    wpAny M A (do let a ← frameOf env; let pl ← entryPlaceOf L nx; let b ← EntryCells.newEntry head a .none (rawInt L) .none pl; setField (.ref e) 1 b) Q E s := by
  obtain ⟨vs, sl, he, h1⟩ := O
  have nofr : e ∉ (env :: outer).filterMap (·.frame) := fun z => by
    obtain ⟨_, o, ho, hn⟩ := S.frames.mem z
    rw [he] at ho
    cases ho
    exact hn vs rfl
  refine wpAny_bind (wpAny_frameOf_fun hfr S.frames hf fun g1 so => wpAny_bind (wpAny_entryPlaceOf fun pl hpl => ?_))
  unfold EntryCells.newEntry newFields; refine wpAny_bind (wpAny_newObj_type ?_ (hpl.sizeOk5 _ _ _ _ _))
  generalize hob : ({ cls := .type "traceback", dict := none, data := .fields ([head, .ref L, .none, rawInt L, .none] ++ (if pl.isEmpty then List.replicate 6 Value.none else pl)).toArray } : Obj) = tb
  have e1 : g1.get? e = some ⟨cls, dd, .fields vs, sl⟩ := (so.2.1 e nofr).trans he
  have b1 : base.StaysIn g1 := fun b o q => (so.2.1 b fun z => by rw [(S.frames.mem z).1] at q; cases q).trans (S.stays b o q)
  have e2 : (g1.push tb).get? e = some ⟨cls, dd, .fields vs, sl⟩ := Heap.get?_push_of_some _ e1
  have ne : g1.objs.size ≠ e := Nat.ne_of_gt (Heap.lt_size e1)
  have sz : 1 < vs.size := (Array.getElem?_eq_some_iff.mp h1).1
  have tbf : tb.isFreed = false := by rw [← hob]; rfl
  refine wpAny_setField e2 rfl sz (k _ ⟨fun b o q => ?_, S.new, ?_⟩ ?_ ?_)
  · have hbe : b ≠ e := fun z => by rw [z, S.new] at q; cases q
    rw [Heap.get?_update_other _ _ (Ne.symm hbe)]
    exact Heap.get?_push_of_some _ (b1 b o q)
  · refine S.frames.of_keeps fun b o q hn => ?_
    have hbe : b ≠ e := fun z => by rw [z, he] at q; cases q; exact hn vs rfl
    obtain ⟨sl', q'⟩ := so.2.2 b o q
    refine ⟨{ o with slots := sl' }, ?_, rfl⟩
    rw [Heap.get?_update_other _ _ (Ne.symm hbe)]
    exact Heap.get?_push_of_some _ q'
  · refine ⟨g1.objs.size, ⟨vs.setIfInBounds 1 (.ref g1.objs.size), sl, ?_, ?_⟩, b1.fresh, ne, tb, ([head, .ref L, .none, rawInt L, .none] ++ (if pl.isEmpty then List.replicate 6 Value.none else pl)).toArray, ?_, by rw [← hob], ?_⟩
    · rw [Heap.get?_update_self _ e2 (by rw [fields_set rfl]; rfl), fields_set rfl]
    · rw [Array.getElem?_setIfInBounds_self_of_lt sz]
    · rw [Heap.get?_update_other _ _ (Ne.symm ne)]
      exact Heap.get?_push_size _ tbf
    · simp
  · intro b o q hn
    have hbe : b ≠ e := fun z => by rw [z, he] at q; cases q; exact hn vs rfl
    obtain ⟨sl', q'⟩ := so.2.2 b o q
    refine ⟨sl', ?_⟩
    rw [Heap.get?_update_other _ _ (Ne.symm hbe)]
    exact Heap.get?_push_of_some _ q'
/-- the exception is new: no frame has noted it -/
theorem note_new {Q : Unit → Shared → Prop} (hfr : A.frames = some (env :: outer)) (hf : env.frame = some L) (S : Sea base (env :: outer) e s.heap) (O : XObj s.heap e cls dd .none)
    (k : ∀ h', Sea base (env :: outer) e h' → XTr h' base e cls dd (rawInt L) → s.heap.UpToSlots h' → Q () { s with heap := h' }) : wpAny M A (noteFrame (.ref e) env) Q E s := by
  obtain ⟨vs, sl, he, h1⟩ := id O
  unfold noteFrame
  simp only [hf]
  refine wpAny_bind (wpAny_field he rfl h1 ?_)
  rw [if_neg (by decide)]
  exact entry_x hfr hf S O k
/-- it flies in from a callee -/
theorem note_on {Q : Unit → Shared → Prop} (hfr : A.frames = some (env :: outer)) (hf : env.frame = some L) (S : Sea base (env :: outer) e s.heap) (O : XTr s.heap base e cls dd .none)
    (k : ∀ h', Sea base (env :: outer) e h' → XTr h' base e cls dd (rawInt L) → s.heap.UpToSlots h' → Q () { s with heap := h' }) : wpAny M A (noteFrame (.ref e) env) Q E s := by
  obtain ⟨T, ⟨vs, sl, he, h1⟩, tb, ne, oT, ts, hT, dT, h3⟩ := O
  unfold noteFrame
  simp only [hf]
  refine wpAny_bind (wpAny_field he rfl h1 ?_)
  rw [if_pos (show (Value.ref T != Value.none) = true by simp)]
  refine wpAny_bind (wpAny_field hT dT h3 ?_)
  rw [if_neg (show ¬ ((Value.none == rawInt L) = true) by simp [rawInt])]
  refine wpAny_bind (wpAny_setField hT dT (Array.getElem?_eq_some_iff.mp h3).1 ?_)
  have oth : ∀ b, b ≠ T → (s.heap.update T (Obj.mapFields (·.setIfInBounds 3 Value.none))).get? b = s.heap.get? b := fun b hb => Heap.get?_update_other _ _ (Ne.symm hb)
  have nT : ∀ b o, s.heap.get? b = some o → (∀ ws, o.data ≠ .fields ws) → b ≠ T := fun b o q hn z => by
    rw [z, hT] at q
    cases q
    exact hn ts dT
  refine entry_x (hd0 := .ref T) (s := { s with heap := s.heap.update T (Obj.mapFields (·.setIfInBounds 3 Value.none)) }) hfr hf ⟨fun b o q => ?_, S.new, ?_⟩ ⟨vs, sl, (oth e (Ne.symm ne)).trans he, h1⟩ fun h' a b c => k h' a b fun x o q hn => ?_
  · exact (oth b fun z => by rw [z, tb] at q; cases q).trans (S.stays b o q)
  · exact S.frames.of_keeps fun b o q hn => ⟨o, (oth b (nT b o q hn)).trans q, rfl⟩
  · exact c x o ((oth x (nT x o q hn)).trans q) hn
theorem flight_off {fl : Value} {Q : Unit → Shared → Prop} (S : Sea base l e s.heap) (O : XTr s.heap base e cls dd fl)
    (k : ∀ h', Sea base l e h' → XTr h' base e cls dd .none → s.heap.UpToSlots h' → Q () { s with heap := h' }) : wpAny M A (setFlight (.ref e) none) Q E s := by
  obtain ⟨T, ⟨vs, sl, he, h1⟩, tb, ne, oT, ts, hT, dT, h3⟩ := O
  have sz : 3 < ts.size := (Array.getElem?_eq_some_iff.mp h3).1
  unfold setFlight
  refine wpAny_bind (wpAny_field he rfl h1 ?_)
  rw [if_pos (show (Value.ref T != Value.none) = true by simp)]
  have oth : ∀ b, b ≠ T → (s.heap.update T (Obj.mapFields (·.setIfInBounds 3 ((none : Option Addr).elim Value.none fun f => rawInt f)))).get? b = s.heap.get? b := fun b hb => Heap.get?_update_other _ _ (Ne.symm hb)
  have nT : ∀ b o, s.heap.get? b = some o → (∀ ws, o.data ≠ .fields ws) → b ≠ T := fun b o q hn z => by
    rw [z, hT] at q
    cases q
    exact hn ts dT
  refine wpAny_setField hT dT sz (k _ ⟨fun b o q => ?_, S.new, ?_⟩ ⟨T, ⟨vs, sl, (oth e (Ne.symm ne)).trans he, h1⟩, tb, ne, _, ts.setIfInBounds 3 .none, Heap.get?_update_self _ hT ?_, ?_, ?_⟩ fun b o q hn => ⟨o.slots, (oth b (nT b o q hn)).trans q⟩)
  · exact (oth b fun z => by rw [z, tb] at q; cases q).trans (S.stays b o q)
  · exact S.frames.of_keeps fun b o q hn => ⟨o, (oth b (nT b o q hn)).trans q, rfl⟩
  · rw [fields_set dT]; rfl
  · rw [fields_set dT]; rfl
  · rw [Array.getElem?_setIfInBounds_self_of_lt sz]
theorem Sea.tail (S : Sea base (env :: outer) e s.heap) : Sea base outer e s.heap := ⟨S.stays, S.new, S.frames.2.2⟩
theorem leave_new {Q : Unit → Shared → Prop} (hfr : A.frames = some (env :: outer)) (hf : env.frame = some L) (S : Sea base (env :: outer) e s.heap) (O : XObj s.heap e cls dd .none)
    (k : ∀ h', Sea base outer e h' → XTr h' base e cls dd .none → s.heap.UpToSlots h' → Q () { s with heap := h' }) : wpAny M A (leaving env (.ref e)) Q E s := by
  unfold leaving
  refine wpAny_bind (note_new hfr hf S O fun h1 S1 O1 u1 => ?_)
  exact flight_off (s := { s with heap := h1 }) S1 O1 fun h2 S2 O2 u2 => k h2 (Sea.tail (s := { s with heap := h2 }) S2) O2 (u1.trans u2)
theorem leave_on {Q : Unit → Shared → Prop} (hfr : A.frames = some (env :: outer)) (hf : env.frame = some L) (S : Sea base (env :: outer) e s.heap) (O : XTr s.heap base e cls dd .none)
    (k : ∀ h', Sea base outer e h' → XTr h' base e cls dd .none → s.heap.UpToSlots h' → Q () { s with heap := h' }) : wpAny M A (leaving env (.ref e)) Q E s := by
  unfold leaving
  refine wpAny_bind (note_on hfr hf S O fun h1 S1 O1 u1 => ?_)
  exact flight_off (s := { s with heap := h1 }) S1 O1 fun h2 S2 O2 u2 => k h2 (Sea.tail (s := { s with heap := h2 }) S2) O2 (u1.trans u2)
end
end L2

set_option Elab.async false
set_option linter.all false
set_option maxRecDepth 100000
set_option maxHeartbeats 4000000
namespace L2
open PySem PySem.Spec PyProof.Rows
/-- B holds what stood in h (but the frames at fs), what H does not track unchanged -/
def Old (fs : List Addr) (H : Hp) (h B : Heap) : Prop := ∀ b u, h.get? b = some u → b ∉ fs → ∃ u', B.get? b = some u' ∧ (H b = none → u' = u)
/-- B holds what is tracked -/
def Tra (H : Hp) (h B : Heap) : Prop := ∀ b o, H b = some o → ∃ u, h.get? b = some u ∧ B.get? b = some u
section
variable {P : Program} {w : World} {fs : List Addr} {H H' : Hp} {h h1 h2 B : Heap}
theorem un_flown (u : Un fs [] H H' h h1) (o : Old fs H h B) (st : B.StaysIn h2) (up : h1.UpToSlots h2) (fr : ∀ b ∈ fs, ∃ ob, h1.get? b = some ob ∧ ∀ vs, ob.data ≠ .fields vs) : Un fs [] H H' h h2 where
  keep := fun b ob q n hb hx => by
    obtain ⟨u', e, z⟩ := o b ob q hb
    rw [z n] at e
    exact st _ _ e
  slot := fun b ob q n hb hx => by
    obtain ⟨sl, e⟩ := u.slot b ob q n hb hx
    obtain ⟨o2, e2, nf⟩ := fr b hb
    rw [e] at e2
    cases e2
    obtain ⟨sl', e3⟩ := up b _ e nf
    exact ⟨sl', e3⟩
  free := u.free
  there := fun b ob q hx => by
    by_cases hb : b ∈ fs
    · obtain ⟨o2, e2, nf⟩ := fr b hb
      obtain ⟨sl, e3⟩ := up b _ e2 nf
      exact ⟨_, e3⟩
    · obtain ⟨u', e, _⟩ := o b ob q hb
      exact ⟨u', st _ _ e⟩
  tups := u.tups
  frzs := u.frzs
  tbls := u.tbls
theorem hok_flown (ok : HOk P w H' h1) (t : Tra H' h1 B) (st : B.StaysIn h2) : HOk P w H' h2 := fun a o e => by
  refine (ok a o e).stay (fun b u hb q => ?_) (fun _ q => q) fun _ _ q => q
  have go : ∀ ob, H' b = some ob → h2.get? b = some u := fun ob z => by
    obtain ⟨u', e1, e2⟩ := t b ob z
    rw [q] at e1
    cases e1
    exact st _ _ e2
  rcases hb with z | z
  · exact go o (z ▸ e)
  · exact go _ z
theorem Tra.later (t : Tra H' h1 B) (st : B.StaysIn h2) : Tra H' h2 B := fun b o e => by
  obtain ⟨u, _, q⟩ := t b o e
  exact ⟨u, st _ _ q, q⟩
end
/-- how an exception lies behind a call -/
def CX1 (P : Program) (w : World) : CXT := fun outer H s E e s' => ∃ (ea : Addr) (cls : Value) (dx : Option Addr) (B : Heap) (H' : Hp), e = .ref ea ∧ s'.os = s.os ∧ AllBare s'.gens ∧ Un (frs outer) [] H H' s.heap s'.heap ∧
  HOk P w H' s'.heap ∧ Sea B outer ea s'.heap ∧ XTr s'.heap B ea cls dx .none ∧ Old (frs outer) H s.heap B ∧ Tra H' s'.heap B ∧ E cls dx H'
/-- how a new exception lies, ahead of the first frame that notes it -/
def CXM (P : Program) (w : World) : CXT := fun outer H s E e s' => ∃ (ea : Addr) (cls : Value) (dx : Option Addr) (B : Heap) (H' : Hp), e = .ref ea ∧ s'.os = s.os ∧ AllBare s'.gens ∧ Un (frs outer) [] H H' s.heap s'.heap ∧
  HOk P w H' s'.heap ∧ Sea B outer ea s'.heap ∧ XObj s'.heap ea cls dx .none ∧ Old (frs outer) H s.heap B ∧ Tra H' s'.heap B ∧ E cls dx H'
/-- what a context makes of exceptions; EE: what is wanted of the class, the dict, the names and the heap -/
structure Thr (X : Cx) (EE : Value → Option Addr → St → Hp → Prop) : Prop where
  call : ∀ (pins : List (Addr × Obj)) (σ : St) (H : Hp) (s : Shared) (e : Value) (s' : Shared), Inv X pins σ H s → CX1 X.prog X.w X.stack H s (fun c d H' => EE c d σ H') e s' → X.xe e s'
  made : ∀ (pins : List (Addr × Obj)) (σ : St) (H : Hp) (s : Shared) (e : Value) (s' : Shared), Inv X pins σ H s → CXM X.prog X.w X.stack H s (fun c d H' => EE c d σ H') e s' → X.xe e s'
section
variable {X : Cx} {pins : List (Addr × Obj)} {σ : St} {H H' : Hp} {s : Shared}
theorem frames_are (I : Inv X pins σ H s) {s' : Shared} (u : Un (frs X.stack) [] H H' s.heap s'.heap) : ∀ b ∈ frs X.stack, ∃ ob, s'.heap.get? b = some ob ∧ ∀ vs, ob.data ≠ .fields vs := fun b hb => by
  obtain ⟨_, o, ho, hn⟩ := I.stack.mem hb
  obtain ⟨sl, e⟩ := u.any ho (I.stkFree b hb) (by simp)
  exact ⟨_, e, hn⟩
/-- from a body's frame to its callers' -/
theorem un_out {s2 : Heap} (I : Inv X pins σ H s) (hx : X.ex = []) (hst : X.stack = X.env :: X.outer) (hfr : X.env.frame = some X.env.locals) (u : Un (frs X.stack) [] H H' s.heap s2) : Un X.fs [] X.H₀ H' X.s₀.heap s2 := by
  have nl : ∀ b o, X.s₀.heap.get? b = some o → b ≠ X.env.locals := fun b o e => Nat.ne_of_lt (Nat.lt_of_lt_of_le (Heap.lt_size e) I.ok.above)
  have sub : ∀ b, b ∈ frs X.stack → b = X.env.locals ∨ b ∈ X.fs := fun b hb => List.mem_cons.mp (I.stkSub b hb)
  have sup : ∀ b, b ∈ X.fs → b ∈ frs X.stack := fun b hb => by
    rw [hst]
    show b ∈ (X.env :: X.outer).filterMap (·.frame)
    rw [List.filterMap_cons, hfr]
    exact List.mem_cons_of_mem _ hb
  have ie : ∀ b, b ∉ X.ex := fun b => by rw [hx]; simp
  exact {
    keep := fun b o e n hb _ => u.keep b o (I.base.keep b o e n hb (ie b)) (I.base.free b o e n (ie b)) (fun z => (sub b z).elim (nl b o e) hb) (by simp)
    slot := fun b o e n hb _ => by
      obtain ⟨sl, e1⟩ := I.base.slot b o e n hb (ie b)
      obtain ⟨sl', e2⟩ := u.slot b _ e1 (I.base.free b o e n (ie b)) (sup b hb) (by simp)
      exact ⟨sl', e2⟩
    free := fun b o e n _ => by
      obtain ⟨o', e1⟩ := I.base.there b o e (ie b)
      exact u.free b o' e1 (I.base.free b o e n (ie b)) (by simp)
    there := fun b o e _ => by
      obtain ⟨o', e1⟩ := I.base.there b o e (ie b)
      exact u.there b o' e1 (by simp)
    tups := fun b xs e => u.tups b xs (I.base.tups b xs e)
    frzs := fun b o xs e => u.frzs b o xs (I.base.frzs b o xs e)
    tbls := fun b ps e => by
      obtain ⟨m1, e1⟩ := I.base.tbls b ps e
      obtain ⟨m2, e2⟩ := u.tbls b _ e1
      exact ⟨m1 ++ m2, by rw [e2, Array.append_assoc]⟩ }
theorem old_out {B : Heap} (I : Inv X pins σ H s) (hx : X.ex = []) (o : Old (frs X.stack) H s.heap B) : Old X.fs X.H₀ X.s₀.heap B := fun b u e hb => by
  have ie : b ∉ X.ex := by rw [hx]; simp
  have hs : b ∉ frs X.stack := fun z => (List.mem_cons.mp (I.stkSub b z)).elim (fun q => Nat.lt_irrefl _ (Nat.lt_of_lt_of_le (Heap.lt_size e) (q ▸ I.ok.above))) hb
  obtain ⟨o', e1⟩ := I.base.there b u e ie
  obtain ⟨u', e2, z⟩ := o b o' e1 hs
  refine ⟨u', e2, fun n => ?_⟩
  have e3 := I.base.keep b u e n hb ie
  rw [e1] at e3
  cases e3
  exact z (I.base.free b _ e n ie)
end
theorem ObjOk.obj {P : Program} {w : World} {H : Hp} {h : Heap} {a : Addr} {o : HO} (x : ObjOk P w H h a o) : ∃ u, h.get? a = some u := by
  cases o with
  | lst xs => obtain ⟨_, _, _, _, e⟩ := x; exact ⟨_, e⟩
  | tup xs => obtain ⟨_, _, _, ob, e, _⟩ := x; exact ⟨_, e⟩
  | dK kvs => obtain ⟨_, _, _, _, ob, _, _, e, _⟩ := x; exact ⟨_, e⟩
  | dT kvs => obtain ⟨_, _, _, _, ob, _, _, e, _⟩ := x; exact ⟨_, e⟩
  | set S n => obtain ⟨ob, _, _, _, e, _⟩ := x; exact ⟨_, e⟩
  | ins C dx fs => obtain ⟨_, _, _, e, _⟩ := x; exact ⟨_, e⟩
  | own y => exact x
  | xd fs => obtain ⟨_, ⟨ob, _, _, e, _⟩, _⟩ := x; exact ⟨_, e⟩
  | rng lo hi => obtain ⟨_, _, _, e⟩ := x; exact ⟨_, e⟩
  | frz ob u => exact ⟨_, x.1⟩
  | tbl ps => exact ⟨_, x⟩
  | met f y => exact ⟨_, x⟩
  | ext φ => exact x.2.1
/-- an exception just made -/
theorem cxm_made {X : Cx} {pins : List (Addr × Obj)} {σ : St} {H H' : Hp} {s s' : Shared} {e : Addr} {cls : Value} {dx : Option Addr} {E : XK} (I : Inv X pins σ H s) (I' : Inv X pins σ H' s') (un : Un (frs X.stack) [] H H' s.heap s'.heap) (os : s'.os = s.os) (O : XObj s'.heap e cls dx .none) (hn : s.heap.get? e = none) (hn' : H' e = none)
    (q : E cls dx H') : CXM X.prog X.w X.stack H s E (.ref e) s' := by
  refine ⟨e, cls, dx, PySem.W.hideAll s'.heap (e :: frs X.stack), H', rfl, os, I'.bare, un, I'.hok, ⟨fun b o z => PySem.W.of_hideAll _ z, PySem.W.hideAll_none _ (by simp), ?_⟩, O, fun b u z hb => ?_, fun b o z => ?_, q⟩
  · refine PySem.W.funFrames_hide I'.stack fun env he a ha => List.mem_cons_of_mem _ ?_
    exact List.mem_filterMap.mpr ⟨env, he, ha⟩
  · have ne : b ∉ e :: frs X.stack := fun hm => (List.mem_cons.mp hm).elim (fun r => by rw [r, hn] at z; cases z) hb
    obtain ⟨u', e1⟩ := un.there b u z (by simp)
    refine ⟨u', PySem.W.hideAll_get _ e1 ne, fun n => ?_⟩
    have e2 := un.keep b u z n hb (by simp)
    rw [e1] at e2
    cases e2
    rfl
  · obtain ⟨u, hu⟩ := (I'.hok b o z).obj
    refine ⟨u, hu, PySem.W.hideAll_get _ hu fun hm => ?_⟩
    rcases List.mem_cons.mp hm with r | r
    · rw [r, hn'] at z; cases z
    · rw [I'.stkFree b r] at z; cases z
/-- a def's body: an exception leaves the frame -/
theorem thr_fn {P : Program} {w : World} {K : PySem.W.Frag} {mg : Str → Option Value} {base : Heap} {N : List Str} {qual : Str} {scope : Scope} {f : Addr} {cd : Value} {A : Around} {outer : List Env} {s₀ : Shared} {H₀ : Hp} {E : XK} :
    Thr (cxOf (CX1 P w) P w K mg base N qual scope f cd A outer s₀ H₀ E) (fun c d _ H' => E c d H') where
  call := by
    rintro pins σ H s e s' I ⟨ea, cls, dx, B, H', rfl, os, bare, un, hok, sea, tr, old, tra, q⟩
    refine leave_on (A := (cxOf (CX1 P w) P w K mg base N qual scope f cd A outer s₀ H₀ E).A) (I.ok.frames) rfl sea tr fun h2 S2 O2 u2 => ?_
    refine ⟨ea, cls, dx, B, H', rfl, os.trans I.os, bare, ?_, hok_flown hok tra S2.stays, S2, O2, old_out I rfl old, tra.later S2.stays, q⟩
    exact un_out I rfl rfl rfl (un_flown un old S2.stays u2 (frames_are I un))
  made := by
    rintro pins σ H s e s' I ⟨ea, cls, dx, B, H', rfl, os, bare, un, hok, sea, tr, old, tra, q⟩
    refine leave_new (A := (cxOf (CX1 P w) P w K mg base N qual scope f cd A outer s₀ H₀ E).A) (I.ok.frames) rfl sea tr fun h2 S2 O2 u2 => ?_
    refine ⟨ea, cls, dx, B, H', rfl, os.trans I.os, bare, ?_, hok_flown hok tra S2.stays, S2, O2, old_out I rfl old, tra.later S2.stays, q⟩
    exact un_out I rfl rfl rfl (un_flown un old S2.stays u2 (frames_are I un))
end L2

set_option Elab.async false
set_option linter.all false
set_option maxRecDepth 100000
set_option maxHeartbeats 4000000
namespace L2
open PySem PySem.Spec PyProof.Rows
section
variable {P : Program} {w : World} {K : PySem.W.Frag} {mg : Str → Option Value} {base : Heap}
theorem Fun.okE {x qual : Str} {st : Stmt} {f : Addr} {fd : FuncData} {N ps : List Str} {k : Nat} {sp : Sp} (F : Fun K x qual st f fd) (S : FnScope N ps (defScope st)) (len : ∀ vs H Q E, sp vs H Q E → vs.length = ps.length)
    (hbody : ∀ (cdv : Value) (A : Around) (outer : List Env) (s : Shared) (H : Hp) (vs : List V) (Q : VK) (E : XK), Room k (A.deeper (envOfC qual (defScope st) s.heap.objs.size f cdv)) → sp vs H Q E →
      Thr (cxOf (CX1 P w) P w K mg base N qual (defScope st) f cdv A outer s H E) (fun c d _ H' => E c d H') →
      ∃ t, PSs (cxOf (CX1 P w) P w K mg base N qual (defScope st) f cdv A outer s H E) (defBody st) t ∧ t { nx := fun _ H' => Q .non H', rt := Q } (start N vs) H) : FnOk P w K mg base (CX1 P w) (k + 1) f fd ps sp := by
  obtain ⟨oc, od, kV, doc, pm, an, cdv, ct, osl, rfl, lk, hcd⟩ := F.ex
  exact fn_of lk hcd S len fun A outer s H vs Q E hr hsp => hbody cdv A outer s H vs Q E hr hsp thr_fn
end
structure CalE (P : Program) (w : World) (K : PySem.W.Frag) (mg : Str → Option Value) (base : Heap) (k : Nat) (x : Str) (ps : List Str) (sp : Sp) : Prop where
  ex : ∃ (f : Addr) (fd : FuncData), FnOk P w K mg base (CX1 P w) k f fd ps sp ∧ Binds K fd ps [] ∧ PySem.W.keepIn K (.ref f) = true ∧ mg x = some (.ref f)
def tCallE (sp : Sp) (EE : Value → Option Addr → St → Hp → Prop) (t : TA) : TE := fun σ H Q => t σ H fun vs H1 => sp (vs ++ []) H1 Q (fun c d H' => EE c d σ H')
section
variable {X : Cx} {EE : Value → Option Addr → St → Hp → Prop}
theorem pe_calE {k : Nat} {x : Str} {ps : List Str} {sp : Sp} {e : Expr} {es : List Expr} {t : TA} {p pos : Pos} (T : Thr X EE) (C : CalE X.prog X.w X.K X.mg X.base k x ps sp) (hr : Room k X.A) (hg : Gl X x) (ha : PA X (e :: es) t)
    (hdb : (x == ("__debug__" : Str)) = false := by decide) (he : starEach (e :: es) X.env = (false, eval e X.env) :: starEach es X.env := by rfl) (hpl : (backTo pos (starEach es X.env)).any (·.1) = false := by rfl) :
    PE X (.Call (.Name x p) (e :: es) [] pos) (tCallE sp EE t) := by
  intro pins s σ H Q I h
  obtain ⟨f, fd, F, b, kp, m⟩ := C.ex
  refine wpAny_Call_Name_kw (ld_glob I hg m ?_ hdb)
  refine PySem.W.callWith_K (h₀ := X.base) I.ok.mod.kin kp (thn (ha pos pins s σ H _ I h) fun us s1 ⟨vs, H1, I1, r, q⟩ => ⟨I1.kIn, ?_⟩) he hpl
  dsimp only at q
  rw [List.append_nil] at q
  have hl : us.length = ps.length := by rw [← r.length]; exact F.len _ _ _ _ q
  have hb := b s1 us I1.kIn (by rw [List.append_nil]; exact hl)
  rw [List.append_nil] at hb
  show wpAny _ _ (call (.ref f) us) _ _ _
  refine wpAny_call (codeAny_mono (F.run X.A X.stack s1 H1 ⟨us, []⟩ us vs Q _ hr I1.env0 hb r q) fun z s' hq => ?_)
  cases z with
  | error e => exact T.call pins σ H1 s1 e s' I1 hq
  | ok fl =>
    cases fl with
    | ret u => exact I1.after hq
    | next => exact False.elim hq
    | brk => exact False.elim hq
    | cont => exact False.elim hq
theorem exc_cls {K : PySem.W.Frag} {h : Heap} {C : Addr} {bmB : List Value} {newId : String} (KX : K.In h) (q : PySem.W.excIn K C bmB newId = true) :
    ∃ bm N nm qn bs hd sn sub ab col dd k0 k1 k2 k3 k5 mN, h.get? C = some (excClassObj nm qn C N bs bm hd sn sub ab col dd k0 k1 k2 k3 k5 newId) ∧ h.Ns N mN ∧ mN "__init__" = none ∧ OwnTail h bmB bm := by
  unfold PySem.W.excIn at q
  split at q
  · rename_i dd cd sl ho
    split at q
    · rename_i C' bm k0 k1 k2 k3 n k5 hm hs
      simp only [Bool.and_eq_true, beq_iff_eq, Bool.not_eq_true'] at q
      obtain ⟨⟨⟨⟨⟨e1, e2⟩, hdel⟩, ht⟩, hok⟩, hni⟩ := q
      subst e1 e2
      obtain ⟨nm, bs, mro, ns, qn, hd, sn, sub, ab, col, del⟩ := cd
      dsimp only at hm hdel hok hni
      subst hm hdel
      obtain ⟨l⟩ := sl
      dsimp only at hs
      subst hs
      exact ⟨bm, ns, nm, qn, bs, hd, sn, sub, ab, col, dd, k0, k1, k2, k3, k5, _, KX _ _ ho, .of_isNs (PySem.W.isNs_of_in KX hok), PySem.W.nsMap_none_of_in KX hok hni, PySem.W.tail_of_in KX ht⟩
    · cases q
  · cases q
abbrev bmV : List Value := [.type "ValueError", .type "Exception", .type "BaseException", .type "object"]
/-- a class of the text under ValueError, without an __init__ of its own or of those between -/
structure XCls (K : PySem.W.Frag) (mg : Str → Option Value) (x : Str) (C : Addr) : Prop where
  bound : mg x = some (.ref C)
  exc : PySem.W.excIn K C bmV "ValueError.__new__" = true
def tRaise (C : Addr) (EE : Value → Option Addr → St → Hp → Prop) (ta : TA) : TS := fun _ σ H => ta σ H fun vs H1 => vs.length ≤ sizeLine ∧ EE (.ref C) none σ H1
theorem ps_raise {x : Str} {C : Addr} {e : Expr} {es : List Expr} {t : TA} {np cpos pos : Pos} (T : Thr X EE) (hc : X.calm = true) (O : XCls X.K X.mg x C) (hg : Gl X x) (ha : PA X (e :: es) t)
    (hdb : (x == ("__debug__" : Str)) = false := by decide) (he : starEach (e :: es) X.env = (false, eval e X.env) :: starEach es X.env := by rfl) (hpl : (backTo cpos (starEach es X.env)).any (·.1) = false := by rfl) :
    PS X (.Raise (some (.Call (.Name x np) (e :: es) [] cpos)) none pos) (tRaise C EE t) := by
  intro pins s σ H D I h
  obtain ⟨tl, N, nm, qn, bs, hd, sn, sub, ab, col, dd, k0, k1, k2, k3, k5, mN, hC, hN, hni, TL⟩ := exc_cls I.ok.mod.kin O.exc
  have FV := PySem.F.excBase_ValueError
  refine wpAny_Raise_call_subU (C := C) (nm := nm) (q := qn) (N := N) (bs := bs) (bm := tl) (hdct := hd) (sn := sn) (sub := sub) (ab := ab) (col := col) (dd := dd) (k0 := k0) (k1 := k1) (k2 := k2) (k3 := k3) (k5 := k5)
    FV (by decide +kernel) FV (mN := mN) (TL.hasType FV.hasBase) (I.ok.hd hc) ?_ hni (ld_glob I hg O.bound ⟨rfl, ?_⟩ hdb)
  · rw [he]
    show (false || (backTo cpos (starEach es X.env)).any (·.1)) = false
    rw [hpl]; rfl
  have hh := thn (ha cpos pins s σ H _ I h) (Q' := fun vs s₂ => vs.length ≤ sizeLine ∧ (∀ b o, X.base.get? b = some o → s₂.heap.get? b = some o) ∧ ∀ h' ea, Heap.MadeExcOf s₂.heap h' ea (.ref C) vs → X.xe (.ref ea) { s₂ with heap := h' }) fun us s1 ⟨vs, H1, I1, r, hz, q⟩ => by
    refine ⟨by rw [← r.length]; exact hz, I1.bk, fun h' ea M => ?_⟩
    obtain ⟨ta, e1, _, _⟩ := M.there
    have I2 : Inv X pins σ H1 { s1 with heap := h' } := I1.kept (t' := s1.toks) M.keeps
    have hn : H1 ea = none := by
      cases z : H1 ea with
      | none => rfl
      | some o =>
        obtain ⟨u, hu⟩ := (I1.hok ea o z).obj
        rw [M.new] at hu; cases hu
    exact T.made pins σ H1 s1 _ _ I1 (cxm_made I1 I2 (Un.kept M.keeps) rfl ⟨_, #[], e1, rfl⟩ M.new hn q)
  rw [he] at hh ⊢
  exact Calls.evalArgs_plain (thn hh fun vs s₂ h₂ => ⟨rfl, h₂.1, h₂.2.1 _ _ hC, hN.keeps h₂.2.1, TL.keeps h₂.2.1, h₂.2.2⟩)
end
end L2

set_option Elab.async false
set_option linter.all false
set_option maxRecDepth 100000
set_option maxHeartbeats 4000000
namespace L2
open PySem PySem.Spec PyProof.Rows
theorem Inv.re {X Y : Cx} {pins pins' : List (Addr × Obj)} {σ : St} {H : Hp} {s : Shared} (I : Inv X pins σ H s) (ok : Y.Ok) (e1 : Y.prog = X.prog) (e2 : Y.w = X.w) (e3 : Y.s₀ = X.s₀) (e4 : Y.outer = X.outer) (e5 : Y.ex = X.ex) (e6 : Y.H₀ = X.H₀) (e7 : Y.env = X.env) (e8 : Y.N = X.N)
    (hp : ∀ p ∈ Y.pn ++ pins', p ∈ X.pn ++ pins) : Inv Y pins' σ H s := by
  obtain ⟨P, w, K, mg, base, A, N, s₀, H₀, env, outer, stack, ex, fn, calm, pn, xe⟩ := X
  obtain ⟨P', w', K', mg', base', A', N', s₀', H₀', env', outer', stack', ex', fn', calm', pn', xe'⟩ := Y
  dsimp only at e1 e2 e3 e4 e5 e6 e7 e8
  subst e1 e2 e3 e4 e5 e6 e7 e8
  exact ⟨ok, I.os, I.bare, I.base, I.loc, I.cell, I.free, I.freeC, fun p h => I.pin p (hp p h), I.hok, I.len⟩
/-- within a try: another wish, the pins kept -/
abbrev Cx.tr (X : Cx) (xe : Value → Shared → Prop) (pn : List (Addr × Obj)) : Cx := { X with xe := xe, pn := pn }
/-- within a handler: the exception is marked, nothing is raised -/
abbrev Cx.hd (X : Cx) (e : Addr) : Cx := { X with A := X.A.mark (some (.ref e)), calm := false, xe := fun _ _ => False }
theorem Cx.Ok.tr {X : Cx} (ok : X.Ok) (xe : Value → Shared → Prop) (pn : List (Addr × Obj)) : (X.tr xe pn).Ok :=
  ⟨ok.mod, ok.kind, ok.glob, ok.blt, ok.above, ok.inj, ok.has, ok.cab, ok.hd, ok.frames, ok.stk, ok.exf, ok.bs, ok.bsz, ok.noex, ok.exfs, ok.funs, ok.frf⟩
theorem Cx.Ok.hdl {X : Cx} (ok : X.Ok) (e : Addr) : (X.hd e).Ok :=
  ⟨ok.mod, ok.kind, ok.glob, ok.blt, ok.above, ok.inj, ok.has, ok.cab, (fun h => nomatch h), ok.frames, ok.stk, ok.exf, ok.bs, ok.bsz, ok.noex, ok.exfs, ok.funs, ok.frf⟩
/-- the exception object at ea, tracked: its class and its dict -/
def ExcO (a : Addr) (cls : Value) (dx : Option Addr) : HO := .ext fun h => ∃ vs sl, h.get? a = some ⟨cls, dx, .fields vs, sl⟩
structure Fl (X : Cx) (pins : List (Addr × Obj)) (σ : St) (H : Hp) (s' : Shared) (ea : Addr) (cls : Value) (dx : Option Addr) : Prop where
  ex : ∃ (s₀ : Shared) (H₀ : Hp) (B : Heap), Inv X pins σ H₀ s₀ ∧ s'.os = s₀.os ∧ AllBare s'.gens ∧ Un (frs X.stack) [] H₀ H s₀.heap s'.heap ∧ HOk X.prog X.w H s'.heap ∧ Sea B X.stack ea s'.heap ∧ XTr s'.heap B ea cls dx .none ∧ Old (frs X.stack) H₀ s₀.heap B ∧ Tra H s'.heap B
section
variable {X : Cx} {pins : List (Addr × Obj)} {σ : St} {H : Hp} {s : Shared} {ea : Addr} {cls : Value} {dx : Option Addr}
theorem Fl.inv (F : Fl X pins σ H s ea cls dx) : Inv X pins σ H s := by
  obtain ⟨s₀, H₀, B, I, os, bare, un, hok, _⟩ := F.ex
  exact I.call' (ch := []) os un hok bare (fun b z => nomatch z)
theorem Fl.obj (F : Fl X pins σ H s ea cls dx) : ∃ vs sl, s.heap.get? ea = some ⟨cls, dx, .fields vs, sl⟩ := by
  obtain ⟨s₀, H₀, B, I, os, bare, un, hok, sea, ⟨T, ⟨vs, sl, e, _⟩, _⟩, _⟩ := F.ex
  exact ⟨vs, sl, e⟩
/-- it was not there at the call -/
theorem Fl.free (F : Fl X pins σ H s ea cls dx) : H ea = none := by
  obtain ⟨s₀, H₀, B, I, os, bare, un, hok, sea, _, _, tra⟩ := F.ex
  cases z : H ea with
  | none => rfl
  | some o =>
    obtain ⟨u, _, q⟩ := tra ea o z
    rw [sea.new] at q; cases q
/-- the exception's flight is ended, and it is tracked from here on -/
theorem Fl.land {Q : Unit → Shared → Prop} {A : Around} {E : Value → Shared → Prop} (F : Fl X pins σ H s ea cls dx) (k : ∀ s', Inv X pins σ (upd H ea (ExcO ea cls dx)) s' → Q () s') : wpAny (model X.prog X.w) A (setFlight (.ref ea) none) Q E s := by
  have hn := F.free
  obtain ⟨s₀, H₀, B, I, os, bare, un, hok, sea, tr, old, tra⟩ := F.ex
  refine flight_off sea tr fun h2 S2 O2 u2 => k _ ?_
  have un2 := un_flown un old S2.stays u2 (frames_are I un)
  have hok2 := hok_flown hok tra S2.stays
  obtain ⟨T, ⟨vs, sl, e, _⟩, _⟩ := O2
  have nf : ea ∉ frs X.stack := fun z => by
    obtain ⟨_, o, ho, hn⟩ := S2.frames.mem z
    rw [e] at ho
    cases ho
    exact hn vs rfl
  have new0 : s₀.heap.get? ea = none := by
    cases z : s₀.heap.get? ea with
    | none => rfl
    | some u =>
      obtain ⟨u', q, _⟩ := old ea u z nf
      rw [S2.new] at q; cases q
  have ne : ∀ b u, s₀.heap.get? b = some u → b ≠ ea := fun b u q z => by rw [z, new0] at q; cases q
  refine I.call' (ch := []) (s' := { s with heap := h2 }) os ?_ ?_ bare (fun b z => nomatch z)
  · exact ⟨un2.keep, un2.slot, fun b o q n hx => by rw [upd_ne (ne b o q)]; exact un2.free b o q n hx, un2.there, fun b xs q => by rw [upd_ne (ne_of_none (un2.tups b xs q) hn)]; exact un2.tups b xs q,
      fun b o u q => by rw [upd_ne (ne_of_none (un2.frzs b o u q) hn)]; exact un2.frzs b o u q, fun b ps q => by
        obtain ⟨more, z⟩ := un2.tbls b ps q
        exact ⟨more, by rw [upd_ne (ne_of_none z hn)]; exact z⟩⟩
  · intro a o q
    by_cases ha : a = ea
    · subst ha
      rw [upd_same] at q
      cases q
      refine ⟨⟨vs, sl, e⟩, ⟨_, e⟩, ?_⟩
      rintro h1 h3 ⟨vs', sl', q⟩ kk
      exact ⟨vs', sl', kk _ q⟩
    · rw [upd_ne ha] at q
      refine (hok2 a o q).stay (fun b u _ z => z) (fun b z => ?_) fun b xs z => ?_
      · rw [upd_ne (ne_of_none z hn)]; exact z
      · rw [upd_ne (ne_of_none z hn)]; exact z
structure HCls (K : PySem.W.Frag) (mg : Str → Option Value) (x : Str) (C : Addr) : Prop where
  bound : mg x = some (.ref C)
  ty : PySem.W.typeIn K (.ref C) = some (.type "type")
  cls : (PySem.W.clsIn K C).isSome = true
  base : PySem.W.mroIn K C (.type "BaseException") = some true
theorem exc_match {K : PySem.W.Frag} {mg : Str → Option Value} {x : Str} {M : Model} {A : Around} {E : Value → Shared → Prop} {s : Shared} {e C C' : Addr} {dx : Option Addr} {vs : Array Value} {sl : Array (Option Value)} {b : Bool} {Q : Bool → Shared → Prop} (KX : K.In s.heap) (O : HCls K mg x C)
    (he : s.heap.get? e = some ⟨.ref C', dx, .fields vs, sl⟩) (hm : PySem.W.mroIn K C' (.ref C) = some b) (q : Q b s) : wpAny M A (excMatches (.ref e) (.ref C)) Q E s := by
  have L1 : PySem.W.Looks M s.heap (isInstance (.ref C) (.type "tuple")) false := (PySem.W.looks_typeIn KX O.ty).andThen (.of_pure tc_notTuple)
  have L2 : PySem.W.Looks M s.heap (isType (.ref C)) true := by
    have hc := O.cls
    unfold PySem.W.clsIn at hc
    split at hc
    · rename_i c' d' cd' sl' ho
      intro A' Q' E' s' k q
      unfold isType loadHead
      exact wpAny_bind (wpAny_loadPart (k _ _ (KX _ _ ho)) (wpAny_pure q))
    · cases hc
  have L3 := PySem.W.looks_mroIn (M := M) KX O.base
  have L4 : PySem.W.Looks M s.heap (typeOf (.ref e)) (.ref C') := (PySem.W.Looks.ld he).andThen .now
  have L5 := PySem.W.looks_mroIn (M := M) KX hm
  unfold excMatches
  refine wpAny_bind (L1.here ?_)
  simp only [Bool.false_eq_true, if_false]
  refine wpAny_bind (wpAny_pure ?_)
  refine wpAny_bind ?_
  rw [List.forIn_cons]
  refine wpAny_bind (wpAny_bind ?_)
  unfold isExcClass
  refine wpAny_bind (L2.here ?_)
  rw [if_pos rfl]
  refine L3.here ?_
  simp only [Bool.not_true, Bool.false_eq_true, if_false]
  refine wpAny_pure ?_
  dsimp only
  rw [List.forIn_nil]
  refine wpAny_pure (wpAny_bind (L4.here (wpAny_bind ?_)))
  rw [List.forIn_cons]
  refine wpAny_bind (wpAny_bind (L5.here ?_))
  cases b with
  | true =>
    rw [if_pos rfl]
    exact wpAny_pure (wpAny_pure (wpAny_pure q))
  | false =>
    rw [if_neg Bool.false_ne_true]
    refine wpAny_pure ?_
    dsimp only
    rw [List.forIn_nil]
    exact wpAny_pure (wpAny_pure q)
end
end L2

set_option Elab.async false
set_option linter.all false
set_option maxRecDepth 100000
set_option maxHeartbeats 4000000
namespace L2
open PySem PySem.Spec PyProof.Rows
theorem SP.re {X Y : Cx} {pins pins' : List (Addr × Obj)} {D : Ends} {f : Flow} {s : Shared} (h : SP X pins D f s) (k : ∀ σ H, Inv X pins σ H s → Inv Y pins' σ H s) : SP Y pins' D f s := by
  cases f with
  | next => obtain ⟨σ, H, I, q⟩ := h; exact ⟨σ, H, k _ _ I, q⟩
  | brk => obtain ⟨σ, H, I, q⟩ := h; exact ⟨σ, H, k _ _ I, q⟩
  | cont => obtain ⟨σ, H, I, q⟩ := h; exact ⟨σ, H, k _ _ I, q⟩
  | ret u => obtain ⟨v, σ, H, I, r, q⟩ := h; exact ⟨v, σ, H, k _ _ I, r, q⟩
section
variable {X : Cx} {pins : List (Addr × Obj)} {σ : St} {H : Hp} {s : Shared}
theorem Inv.toHd (I : Inv X pins σ H s) (e : Addr) : Inv (X.hd e) pins σ H s := I.re (I.ok.hdl e) rfl rfl rfl rfl rfl rfl rfl rfl fun _ h => h
theorem Inv.ofHd {e : Addr} (o : X.Ok) (I : Inv (X.hd e) pins σ H s) : Inv X pins σ H s := I.re o rfl rfl rfl rfl rfl rfl rfl rfl fun _ h => h
theorem Inv.toTr (I : Inv X pins σ H s) (xe : Value → Shared → Prop) : Inv (X.tr xe (X.pn ++ pins)) [] σ H s := I.re (I.ok.tr _ _) rfl rfl rfl rfl rfl rfl rfl rfl fun p h => by simpa using h
theorem Inv.ofTr {pins' : List (Addr × Obj)} {xe : Value → Shared → Prop} (o : X.Ok) (I : Inv (X.tr xe (X.pn ++ pins)) pins' σ H s) : Inv X pins σ H s :=
  I.re o rfl rfl rfl rfl rfl rfl rfl rfl fun p h => List.mem_append_left _ h
end
abbrev TH := Value → Option Addr → Addr → Ends → St → Hp → Prop
def PHs (X : Cx) (hs : List ExceptHandler) (t : TH) : Prop := ∀ (pins : List (Addr × Obj)) (s : Shared) (σ : St) (H : Hp) (D : Ends) (ea : Addr) (cls : Value) (dx : Option Addr), Fl X pins σ H s ea cls dx → t cls dx ea D σ H →
  wpAny (model X.prog X.w) X.A (handleBy (.ref ea) X.env hs) (SP X pins D) X.xe s
def tNoHand : TH := fun _ _ _ _ _ _ => False
def tHand (K : PySem.W.Frag) (C : Addr) (ts : Addr → TS) (tr : TH) : TH := fun cls dx ea D σ H => ∃ C' b, cls = .ref C' ∧ PySem.W.mroIn K C' (.ref C) = some b ∧ if b = true then ts ea D σ (upd H ea (ExcO ea cls dx)) else tr cls dx ea D σ H
section
variable {X : Cx}
theorem phs_nil : PHs X [] tNoHand := fun _ _ _ _ _ _ _ _ _ h => h.elim
theorem phs_cons {x : Str} {C : Addr} {b₀ : Stmt} {suite : List Stmt} {np pos : Pos} {rest : List ExceptHandler} {ts : Addr → TS} {tr : TH} (O : HCls X.K X.mg x C) (hg : Gl X x) (hs : ∀ ea, PSs (X.hd ea) (b₀ :: suite) (ts ea)) (hr : PHs X rest tr)
    (hdb : (x == ("__debug__" : Str)) = false := by decide) : PHs X (.ExceptHandler (some (.Name x np)) none (b₀ :: suite) pos :: rest) (tHand X.K C ts tr) := by
  intro pins s σ H D ea cls dx F h
  obtain ⟨C', b, rfl, hm, q⟩ := h
  obtain ⟨vs, sl, he⟩ := F.obj
  have I := F.inv
  refine wpAny_handleBy_cons (codeAny_handlers_test ?_) (by intro z; cases z)
  refine ld_glob (X := X.hd ea) (I.toHd ea) hg O.bound ?_ hdb
  refine exc_match I.kIn O he hm ?_
  cases b with
  | true =>
    rw [if_pos rfl] at q
    refine codeAny_handlers_suite (F.land fun s' I' => ?_)
    exact wpAny_mono (hs ea pins s' σ _ D (I'.toHd ea) q) (fun f s2 z => z.re fun _ _ J => J.ofHd I.ok) (fun _ _ z => z.elim)
  | false =>
    rw [if_neg Bool.false_ne_true] at q
    exact hr pins s σ H D ea _ dx F q
abbrev XE := Value → Option Addr → St → Hp → Prop
def tTry (tb : XE → TS) (th : TH) : TS := fun D σ H => tb (fun c d σ' H' => ∀ ea, H' ea = none → th c d ea D σ' H') D σ H
theorem ps_try {body : List Stmt} {h₀ : ExceptHandler} {hs : List ExceptHandler} {pos : Pos} {tb : XE → TS} {th : TH} (hst : X.stack = X.env :: X.outer) (hf : X.env.frame = some X.env.locals)
    (hb : ∀ xe pn EE, Thr (X.tr xe pn) EE → PSs (X.tr xe pn) body (tb EE)) (hh : PHs X (h₀ :: hs) th) : PS X (.Try body (h₀ :: hs) [] [] pos) (tTry tb th) := by
  intro pins s σ H D I h
  refine wpAny_Try_except ?_
  have fr : X.A.frames = some (X.env :: X.outer) := by rw [← hst]; exact I.ok.frames
  generalize hxe : (fun (e : Value) (s1 : Shared) => wpAny (model X.prog X.w) X.A (noteFrame e X.env) (fun _ s2 => wpAny (model X.prog X.w) X.A (setFlight e none) (fun _ s3 => wpAny (model X.prog X.w) X.A (handleBy e X.env (h₀ :: hs)) (SP X pins D) X.xe s3) X.xe s2) X.xe s1) = xe
  have fin : ∀ (pins' : List (Addr × Obj)) (σ' : St) (H2 H' : Hp) (s2 s' : Shared) (ea : Addr) (cls : Value) (dx : Option Addr) (B h4 : Heap), Inv (X.tr xe (X.pn ++ pins)) pins' σ' H2 s2 → s'.os = s2.os → AllBare s'.gens → Un (frs X.stack) [] H2 H' s2.heap s'.heap → HOk X.prog X.w H' s'.heap →
      Old (frs X.stack) H2 s2.heap B → Tra H' s'.heap B → Sea B X.stack ea h4 → XTr h4 B ea cls dx .none → s'.heap.UpToSlots h4 → (∀ ea, H' ea = none → th cls dx ea D σ' H') →
      wpAny (model X.prog X.w) X.A (handleBy (.ref ea) X.env (h₀ :: hs)) (SP X pins D) X.xe { s' with heap := h4 } := by
    intro pins' σ' H2 H' s2 s' ea cls dx B h4 I2 os bare un hok old tra S4 O4 u4 q
    have I3 := I2.ofTr I.ok
    refine hh pins _ σ' H' D ea cls dx ⟨s2, H2, B, I3, os, bare, un_flown un old S4.stays u4 (frames_are I3 un), hok_flown hok tra S4.stays, S4, O4, old, tra.later S4.stays⟩ (q ea ?_)
    cases z : H' ea with
    | none => rfl
    | some o =>
      obtain ⟨u, _, e⟩ := tra ea o z
      rw [S4.new] at e; cases e
  have T : Thr (X.tr xe (X.pn ++ pins)) (fun c d σ' H' => ∀ ea, H' ea = none → th c d ea D σ' H') := by
    constructor
    · rintro pins' σ' H2 s2 e s' I2 ⟨ea, cls, dx, B, H', rfl, os, bare, un, hok, sea, tr, old, tra, q⟩
      show xe (.ref ea) s'
      rw [← hxe]
      have sea' : Sea B (X.env :: X.outer) ea s'.heap := by rw [← hst]; exact sea
      refine note_on fr hf sea' tr fun h3 S3 O3 u3 => flight_off (s := { s' with heap := h3 }) S3 O3 fun h4 S4 O4 u4 => ?_
      exact fin pins' σ' H2 H' s2 s' ea cls dx B h4 I2 os bare un hok old tra (by rw [hst]; exact S4) O4 (u3.trans u4) q
    · rintro pins' σ' H2 s2 e s' I2 ⟨ea, cls, dx, B, H', rfl, os, bare, un, hok, sea, tr, old, tra, q⟩
      show xe (.ref ea) s'
      rw [← hxe]
      have sea' : Sea B (X.env :: X.outer) ea s'.heap := by rw [← hst]; exact sea
      refine note_new fr hf sea' tr fun h3 S3 O3 u3 => flight_off (s := { s' with heap := h3 }) S3 O3 fun h4 S4 O4 u4 => ?_
      exact fin pins' σ' H2 H' s2 s' ea cls dx B h4 I2 os bare un hok old tra (by rw [hst]; exact S4) O4 (u3.trans u4) q
  refine wpAny_mono (hb xe _ _ T [] s σ H D (I.toTr xe) h) (fun f s1 z => ?_) (fun e s1 z => ?_)
  · have z' : SP X pins D f s1 := z.re fun _ _ J => J.ofTr I.ok
    cases f with
    | next => exact wpAny_execs_nil z'
    | brk => exact z'
    | cont => exact z'
    | ret u => exact z'
  · exact z
end
end L2

set_option Elab.async false
set_option linter.all false
set_option maxRecDepth 100000
set_option maxHeartbeats 4000000
namespace L2
open PySem PySem.Spec PyProof.Rows
section
variable {prog : Program} {w : World} {A : Around} {E : Value → Shared → Prop} {s : Shared} {K : PySem.W.Frag} {x D : Addr} {ox : Obj} {odo : Option Obj} {name : Str}
/-- what the class of an exception must have of the text -/
structure XGet (K : PySem.W.Frag) (D : Addr) : Prop where
  ga : PySem.W.findIn K (.ref D) "__getattribute__" = some (some (.builtin "BaseException.__getattribute__"))
  gk : PySem.W.findIn K (.ref D) "__getattr__" = some none
  be : PySem.W.mroIn K D (.type "BaseException") = some true
  ob : PySem.W.mroIn K D (.type "object") = some true
  ca : PySem.W.findIn K (.ref D) "__class__" = some (some (.builtin "object.__class__"))
  cl : (PySem.W.clsIn K D).isSome = true
  sp : PySem.W.specialIn K (.builtin "object.__class__") "__get__" = some (some (.builtin "getset_descriptor.__get__"))
  tk : PySem.W.takesIn K (.builtin "object.__class__") = some true
end
section
variable {X : Cx}
end
end L2

set_option Elab.async false
set_option linter.all false
set_option maxRecDepth 100000
set_option maxHeartbeats 4000000
namespace L2
open PySem PySem.Spec PyProof.Rows
structure RoomN (k : Nat) (A : Around) : Prop where
  dp : A.depth + 3 * k + 5 < recursionLimit
  un : A.units + 16 * k + 200 < cLine
  gd : A.guards = some []
theorem RoomN.mono {j k : Nat} {A : Around} (r : RoomN k A) (h : j ≤ k) : RoomN j A := ⟨by have := r.dp; omega, by have := r.un; omega, r.gd⟩
theorem RoomN.deeper {k : Nat} {A : Around} (r : RoomN (k + 1) A) (env : Env) : RoomN k (A.deeper env) :=
  ⟨by have := r.dp; show A.depth + 1 + 3 * k + 5 < _; omega, by have := r.un; show A.units + 3 + 16 * k + 200 < _; omega, r.gd⟩
theorem Room.marked {k : Nat} {A : Around} (r : Room k A) (e : Option Value) : RoomN k (A.mark e) := ⟨r.dp, r.un, r.gd⟩
theorem Room.toN {k : Nat} {A : Around} (r : Room k A) : RoomN k A := ⟨r.dp, r.un, r.gd⟩
theorem RoomN.depth {k : Nat} {A : Around} (r : RoomN k A) : A.depth < recursionLimit := by have := r.dp; omega
section
variable {P : Program} {w : World} {K : PySem.W.Frag} {mg : Str → Option Value} {base : Heap}
end
section
variable {X : Cx}
end
theorem has_cls {K : PySem.W.Frag} {C : Addr} (h : PySem.W.hasDictIn K C = true) : (PySem.W.clsIn K C).isSome = true := by
  obtain ⟨cd, e, _⟩ := PySem.W.any_some h
  rw [e]; rfl
theorem rd_callE {sp : Sp} {EE : XE} {t : TA} {σ : St} {H : Hp} {Q : VK} (h : t σ H fun vs H1 => sp (vs ++ []) H1 Q (fun c d H' => EE c d σ H')) : tCallE sp EE t σ H Q := h
theorem rd_raise {C : Addr} {EE : XE} {ta : TA} {D : Ends} {σ : St} {H : Hp} (h : ta σ H fun vs H1 => vs.length ≤ sizeLine ∧ EE (.ref C) none σ H1) : tRaise C EE ta D σ H := h
theorem rd_try {tb : XE → TS} {th : TH} {D : Ends} {σ : St} {H : Hp} (h : tb (fun c d σ' H' => ∀ ea, H' ea = none → th c d ea D σ' H') D σ H) : tTry tb th D σ H := h
theorem rd_hand {K : PySem.W.Frag} {C C' : Addr} {ts : Addr → TS} {tr : TH} {dx : Option Addr} {ea : Addr} {D : Ends} {σ : St} {H : Hp} (hm : PySem.W.mroIn K C' (.ref C) = some true) (h : ts ea D σ (upd H ea (ExcO ea (.ref C') dx))) : tHand K C ts tr (.ref C') dx ea D σ H := ⟨C', true, rfl, hm, by rw [if_pos rfl]; exact h⟩
section
variable {X : Cx}
end
end L2

set_option Elab.async false
set_option linter.all false
set_option maxRecDepth 100000
set_option maxHeartbeats 4000000
namespace L2
open PySem PySem.Spec PyProof.Rows
section
variable {prog : Program} {w : World} {A : Around} {E : Value → Shared → Prop} {h : Heap} {g : Array GenState} {d : Drawn} {t : Nat} {os : OsState} {K : PySem.W.Frag} {f : Addr}
variable {nm q : Str} {C N : Addr} {bs bm : List Value} {hdct : Bool} {sn : List Str} {sub : List Value} {ab : Bool} {col : Option Bool} {dd : Option Addr} {k0 k1 k2 k3 k5 : Option Value}
theorem make_exc {rest : List Value} {Q : Value → Shared → Prop} (T : OwnTail h bmV bm) (KX : K.In h)
    (hC : h.get? C = some (excClassObj nm q C N bs bm hdct sn sub ab col dd k0 k1 k2 k3 k5 "ValueError.__new__")) (hi : PySem.W.findIn K (.ref C) "__init__" = some (some (.ref f))) (hf : PySem.W.typeIn K (.ref f) = some (.type "function"))
    (hrest : rest.length ≤ sizeLine)
    (hq : ∀ h' e, Heap.MadeExcOf h h' e (.ref C) rest → codeAny (model prog w) (A.under (.builtin "type.__call__" ⟨.ref C :: rest, []⟩)) (.call (.ref f) ⟨.ref e :: rest, []⟩) (fun r s' => match r with | .ok (.ret u) => u = .none ∧ Q (.ref e) s' | .ok _ => False | .error x => E x s') ⟨h', g, d, t, os⟩) :
    wpAny (model prog w) A (call (.ref C) rest) Q E ⟨h, g, d, t, os⟩ := by
  have FV := PySem.F.excBase_ValueError
  have f1 := tc_lookup
  have f2 := tc_bind (.ref C)
  have hT : (⟨h, g, d, t, os⟩ : Shared).TypeIs (.ref C) "type" := ⟨_, hC, rfl⟩
  refine wpAny_call (codeAny_of_tree ?_)
  show wpAny _ _ (callAny (.ref C) _) _ _ _
  repeat (any_goals (first | assumption | with_reducible refine wpAny_loadPart_at hC ?_ | wp_step))
  refine ⟨rfl, ?_⟩
  refine codeAny_call_builtin_at (Code.quiet_builtin _ (by decide +kernel)) entry_typeCall (wpAny_check_type_call_sub hC ?_)
  repeat (first | with_reducible refine wpAny_loadPart_at hC ?_ | with_reducible refine wpAny_madeBy_exc hC ?_ | wp_step)
  refine codeAny_call_builtin_code (Code.quiet_builtin _ FV.quiet) (wpAny_check_new_subU FV (by decide +kernel) T hC ?_)
  refine codeAny_exc_new_subU FV (by decide +kernel) FV T hC ?_ hrest
  have keeps : ∀ b o, h.get? b = some o → ((h.push { cls := .type "tuple", data := .seq rest.toArray }).push { cls := .ref C, data := .fields #[.ref h.objs.size, .none, .none, .none, .bool false, .none] }).get? b = some o := fun b o z => Heap.get?_push_of_some _ (Heap.get?_push_of_some _ z)
  have he : ((h.push { cls := .type "tuple", data := .seq rest.toArray }).push { cls := .ref C, data := .fields #[.ref h.objs.size, .none, .none, .none, .bool false, .none] }).get? (h.objs.size + 1) = some { cls := .ref C, data := .fields #[.ref h.objs.size, .none, .none, .none, .bool false, .none] } :=
    Heap.get?_push_at (by simp only [Heap.size_push]) rfl
  have ht : ((h.push { cls := .type "tuple", data := .seq rest.toArray }).push { cls := .ref C, data := .fields #[.ref h.objs.size, .none, .none, .none, .bool false, .none] }).get? h.objs.size = some { cls := .type "tuple", data := .seq rest.toArray } :=
    Heap.get?_push_of_some _ (Heap.get?_push_size _ rfl)
  have M : Heap.MadeExcOf h ((h.push { cls := .type "tuple", data := .seq rest.toArray }).push { cls := .ref C, data := .fields #[.ref h.objs.size, .none, .none, .none, .bool false, .none] }) (h.objs.size + 1) (.ref C) rest :=
    ⟨keeps, Heap.get?_none_of_le (Nat.le_succ _), h.objs.size, he, Heap.get?_none_of_le (Nat.le_refl _), ht⟩
  have go := hq _ _ M
  show wpAny _ _ _ _ _ (⟨((h.push { cls := .type "tuple", data := .seq rest.toArray }).push { cls := .ref C, data := .fields #[.ref h.objs.size, .none, .none, .none, .bool false, .none] }), g, d, t, os⟩ : Shared)
  generalize ((h.push { cls := .type "tuple", data := .seq rest.toArray }).push { cls := .ref C, data := .fields #[.ref h.objs.size, .none, .none, .none, .bool false, .none] }) = h2 at keeps he M go ⊢
  have KX2 : K.In h2 := KX.keeps keeps
  have L0 : PySem.W.Looks (model prog w) h2 (typeOf (.ref (h.objs.size + 1))) (.ref C) := (PySem.W.Looks.ld he).andThen .now
  have L1 := PySem.W.looks_findIn (M := model prog w) KX2 hi
  have L2 := PySem.W.bind_fn (M := model prog w) KX2 (.ref (h.objs.size + 1)) hf
  have hC2 := keeps _ _ hC
  have hcC : (Value.ref C :: bm).contains (.ref C) = true := by simp
  unfold isInstance
  refine wpAny_bind (wpAny_bind (L0.at (wpAny_isSubtype_exc hC2 ?_)))
  rw [hcC]
  simp only [Bool.not_true, Bool.false_eq_true, if_false]
  refine wpAny_bind (wpAny_holding ?_)
  unfold callSpecial? specialOf
  refine wpAny_bind (wpAny_bind (L0.at (L1.at ?_)))
  refine wpAny_holding (wpAny_bind (L2.at (wpAny_bind (wpAny_call (codeAny_mono go fun r s' z => ?_)))))
  cases r with
  | error x => exact z
  | ok fl =>
    cases fl with
    | ret u =>
      obtain ⟨rfl, z⟩ := z
      exact wpAny_pure (wpAny_pure z)
    | next => exact z.elim
    | brk => exact z.elim
    | cont => exact z.elim
end
end L2

set_option Elab.async false
set_option linter.all false
set_option maxRecDepth 100000
set_option maxHeartbeats 4000000
namespace L2
open PySem PySem.Spec PyProof.Rows
section
variable {prog : Program} {w : World} {A : Around} {E : Value → Shared → Prop} {h : Heap} {g : Array GenState} {d : Drawn} {t : Nat} {os : OsState} {K : PySem.W.Frag} {e : Addr}
variable {nm q : Str} {C N : Addr} {bs bm : List Value} {hdct : Bool} {sn : List Str} {sub : List Value} {ab : Bool} {col : Option Bool} {dd : Option Addr} {k0 k1 k2 k3 k5 : Option Value} {newId : String}
/-- ValueError.__init__(e, v ..): the exception's args -/
theorem init_exc {rest : List Value} {dx : Option Addr} {vs : Array Value} {sl : Array (Option Value)} {Q : Value → Shared → Prop} (T : OwnTail h bmV bm)
    (hC : h.get? C = some (excClassObj nm q C N bs bm hdct sn sub ab col dd k0 k1 k2 k3 k5 newId)) (he : h.get? e = some ⟨.ref C, dx, .fields vs, sl⟩) {t1 : Addr} (h0 : vs[0]? = some (.ref t1)) (hrest : rest.length ≤ sizeLine)
    (hq : ∀ h' t0, (∀ b o, b ≠ e → h.get? b = some o → h'.get? b = some o) → h'.get? e = some ⟨.ref C, dx, .fields (vs.setIfInBounds 0 (.ref t0)), sl⟩ → Q .none ⟨h', g, d, t, os⟩) :
    wpAny (model prog w) A (call (.builtin "ValueError.__init__") (.ref e :: rest)) Q E ⟨h, g, d, t, os⟩ := by
  have FV := PySem.F.excBase_ValueError
  refine wpAny_call (codeAny_call_builtin FV.init.plain FV.initEntry (wpAny_check_init_subU FV T hC he rfl ?_))
  wp_walk
  rw [h0]
  refine wpAny_pure ?_
  have sz : 0 < vs.size := (Array.getElem?_eq_some_iff.mp h0).1
  have he2 : (h.push { cls := .type "tuple", data := .seq rest.toArray }).get? e = some ⟨.ref C, dx, .fields vs, sl⟩ := Heap.get?_push_of_some _ he
  refine wpAny_bind (wpAny_setField he2 rfl sz ?_)
  refine wpAny_letGo (wpAny_pure (hq _ h.objs.size (fun b o hb z => ?_) ?_))
  · rw [Heap.get?_update_other _ _ (Ne.symm hb)]
    exact Heap.get?_push_of_some _ z
  · rw [Heap.get?_update_self _ he2 (by rw [fields_set rfl]; rfl), fields_set rfl]
variable {x CF : Addr} {cd : ClassData} {name : Str} {v : Value} {vs : Array Value} {sl : Array (Option Value)}
/-- up to the dict -/
theorem xset_open {dx : Option Addr} {Q : Unit → Shared → Prop} (KX : K.In h) (hx : h.get? x = some ⟨.ref C, dx, .fields vs, sl⟩) (hcd : PySem.W.clsIn K C = some cd) (hm : cd.mro = .ref C :: .ref CF :: bmV)
    (hs : PySem.W.findIn K (.ref C) "__setattr__" = some (some (.builtin "object.__setattr__"))) (hna : PySem.W.findIn K (.ref C) name = some none)
    (hq : wpAny (model prog w) A.in1 (Builtin.ObjectAttr.storeInOwnDict (.ref x) (.ref C) (.str name t) name v false) (fun fin s' => match fin with | .done (.ret _) => Q () s' | _ => False) (fun _ _ => False) ⟨h, g, d, t + 1, os⟩) :
    wpAny (model prog w) A (setAttr (.ref x) name v) Q E ⟨h, g, d, t, os⟩ := by
  have SF := PySem.F.store_ValueError
  have L0 : PySem.W.Looks (model prog w) h (typeOf (.ref x)) (.ref C) := (PySem.W.Looks.ld hx).andThen .now
  have L1 := PySem.W.looks_findIn (M := model prog w) KX hs
  have L2 := PySem.W.looks_findIn (M := model prog w) KX hna
  have L3 : PySem.W.Looks (model prog w) h (mroOf (.ref C)) cd.mro := (PySem.W.looks_clsIn KX hcd).andThen .now
  have ob : PySem.W.mroIn K C (.type "object") = some true := by
    unfold PySem.W.mroIn
    rw [hcd, Option.bind_some, hm]
    rfl
  have L4 : PySem.W.Looks (model prog w) h (isInstance (.ref x) (.type "object")) true := L0.andThen (PySem.W.looks_mroIn KX ob)
  unfold setAttr
  refine wpAny_bind (wpAny_mkText (wpAny_bind ?_))
  unfold callSpecial? specialOf
  refine wpAny_bind (wpAny_bind (L0.at (L1.at ?_)))
  refine wpAny_holding (wpAny_bind ?_)
  rw [SF.slot.bind (.ref x)]
  refine wpAny_pure (wpAny_bind (wpAny_call (codeAny_call_builtin SF.slot.plain SF.entry
    (@PySem.W.check_slot (model prog w) _ _ (⟨h, g, d, t + 1, os⟩ : Shared) "object.__setattr__" "object" "__setattr__" (.ref x) [.str name t, v] [] _ SF.kind SF.split L4 (SF.args (.ref x) (.str name t) v) ?_))))
  show wpAny _ _ (Builtin.«object.__setattr__» ⟨[.ref x, .str name t, v], []⟩) _ _ _
  rw [PySem.W.osa_eq, refuse_eq]
  refine wpAny_bind (wpAny_bind (L0.at (wpAny_bind (L3.at ?_))))
  rw [hm, refuseLoop_ref, refuseLoop_ref, SF.passes]
  refine wpAny_pure (wpAny_bind (L0.at (wpAny_bind (L2.at (wpAny_bind (wpAny_pure ?_))))))
  refine wpAny_mono hq (fun fin s' z => ?_) (fun _ _ z => z.elim)
  rcases fin with (_ | _ | _ | _) | _ <;> first | exact z.elim | exact wpAny_pure (wpAny_pure z)
theorem xset_new {Q : Unit → Shared → Prop} (KX : K.In h) (hx : h.get? x = some ⟨.ref C, none, .fields vs, sl⟩) (hcd : PySem.W.clsIn K C = some cd) (hm : cd.mro = .ref C :: .ref CF :: bmV) (hh : cd.hasDict = true)
    (hs : PySem.W.findIn K (.ref C) "__setattr__" = some (some (.builtin "object.__setattr__"))) (hna : PySem.W.findIn K (.ref C) name = some none)
    (hq : ∀ h' tk', h'.get? x = some ⟨.ref C, some h.objs.size, .fields vs, sl⟩ → h'.Ns1 h.objs.size (fun y => if y = name then some v else none) → (∀ b o, b ≠ x → h.get? b = some o → h'.get? b = some o) → Q () ⟨h', g, d, tk', os⟩) :
    wpAny (model prog w) A (setAttr (.ref x) name v) Q E ⟨h, g, d, t, os⟩ := by
  refine xset_open KX hx hcd hm hs hna ?_
  refine wpAny_bind (wpAny_pure (wpAny_bind (wpAny_bind (wpAny_loadPart hx (wpAny_bind ((PySem.W.looks_clsIn KX hcd).at ?_))))))
  rw [hh]
  have hx1 : (h.push { cls := .type "dict", data := .dict #[] }).get? x = some ⟨.ref C, none, .fields vs, sl⟩ := Heap.get?_push_of_some _ hx
  have hxs : x ≠ h.objs.size := Nat.ne_of_lt (Heap.lt_size hx)
  refine wpAny_bind (wpAny_alloc' (wpAny_bind (wpAny_update' hx1 (wpAny_pure ?_))))
  have hgd : ((h.push { cls := .type "dict", data := .dict #[] }).update x fun o => { cls := o.cls, dict := some h.objs.size, data := o.data, slots := o.slots }).get? h.objs.size = some { cls := .type "dict", data := .dict #[] } :=
    (Heap.get?_update_ne _ _ _ _ hxs.symm).trans (Heap.get?_push_at rfl rfl)
  have hgx : ((h.push { cls := .type "dict", data := .dict #[] }).update x fun o => { cls := o.cls, dict := some h.objs.size, data := o.data, slots := o.slots }).get? x = some ⟨.ref C, some h.objs.size, .fields vs, sl⟩ := Heap.get?_update_self _ hx1 rfl
  have hgo : ∀ b o, b ≠ x → h.get? b = some o → ((h.push { cls := .type "dict", data := .dict #[] }).update x fun o => { cls := o.cls, dict := some h.objs.size, data := o.data, slots := o.slots }).get? b = some o := fun b o hb z =>
    (Heap.get?_update_ne _ _ _ _ hb).trans (Heap.get?_push_of_some _ z)
  generalize ((h.push { cls := .type "dict", data := .dict #[] }).update x fun o => { cls := o.cls, dict := some h.objs.size, data := o.data, slots := o.slots }) = h2 at hgd hgx hgo ⊢
  have hnd : h2.Ns h.objs.size (fun _ => none) := ⟨_, #[], _, hgd, rfl, fun e he => absurd he (by simp), fun _ => rfl⟩
  show wpAny _ _ (Builtin.ObjectAttr.storeInDict h.objs.size (.str name t) name v) _ _ _
  unfold Builtin.ObjectAttr.storeInDict Builtin.ObjectAttr.newKeyGuard
  refine wpAny_bind (wpAny_pure (wpAny_bind (wpAny_nsSet1 (Heap.Ns1.of_empty hnd) fun h' hn' hs' => ?_)))
  obtain ⟨oD, esD, epD, hoD, hdD, hcD⟩ := hn'.count (Within.cons name v Within.nil)
  refine wpAny_bind (wpAny_lookBehind hoD (by rw [hdD]; exact pastItsLine_dict (Nat.le_trans hcD (by rw [List.length_cons, List.length_nil, sizeLine_eq]; omega))) (wpAny_pure ?_))
  exact hq h' _ ((hs'.2 x hxs).trans hgx) hn' fun b o hb z => (hs'.2 b (Nat.ne_of_lt (Heap.lt_size z))).trans (hgo b o hb z)
end
end L2

set_option Elab.async false
set_option linter.all false
set_option maxRecDepth 100000
set_option maxHeartbeats 4000000
namespace L2
open PySem PySem.Spec PyProof.Rows
structure XOwn (K : PySem.W.Frag) (C CF : Addr) : Prop where
  obj : ∃ dd cd k0 k1 k2 k3 k5, K.lookup C = some ⟨.type "type", dd, .cls cd, #[k0, k1, k2, k3, some (.builtin "ValueError.__new__"), k5]⟩ ∧ cd.mro = .ref C :: .ref CF :: bmV ∧ cd.hasDel = false ∧ cd.hasDict = true
  base : PySem.W.excIn K CF bmV "ValueError.__new__" = true
  sa : PySem.W.findIn K (.ref C) "__setattr__" = some (some (.builtin "object.__setattr__"))
section
variable {K : PySem.W.Frag} {C CF : Addr} {h : Heap}
theorem XOwn.cls (O : XOwn K C CF) : ∃ cd, PySem.W.clsIn K C = some cd ∧ cd.mro = .ref C :: .ref CF :: bmV ∧ cd.hasDict = true := by
  obtain ⟨dd, cd, k0, k1, k2, k3, k5, e, m, _, hd⟩ := O.obj
  refine ⟨cd, ?_, m, hd⟩
  unfold PySem.W.clsIn
  rw [e]
theorem XOwn.tail (O : XOwn K C CF) (KX : K.In h) : OwnTail h bmV (.ref CF :: bmV) := by
  obtain ⟨tl, N, nm, qn, bs, hd, sn, sub, ab, col, dd, k0, k1, k2, k3, k5, mN, hC, hN, hni, TL⟩ := exc_cls KX O.base
  exact .own hC hN hni .base
theorem XOwn.at (O : XOwn K C CF) (KX : K.In h) : ∃ N nm qn bs hd sn sub ab col dd k0 k1 k2 k3 k5, h.get? C = some (excClassObj nm qn C N bs (.ref CF :: bmV) hd sn sub ab col dd k0 k1 k2 k3 k5 "ValueError.__new__") := by
  obtain ⟨dd, cd, k0, k1, k2, k3, k5, e, m, hdel, hd⟩ := O.obj
  obtain ⟨nm, bs, mro, ns, qn, hd, sn, sub, ab, col, del⟩ := cd
  dsimp only at m hdel
  subst m hdel
  exact ⟨_, _, _, _, _, _, _, _, _, _, _, _, _, _, _, KX _ _ e⟩
end
/-- a new exception at a, tracked: its class and its dict; it has not been raised -/
def ExcN (a : Addr) (cls : Value) (dx : Option Addr) : HO := .ext fun h => ∃ vs sl t1, h.get? a = some ⟨cls, dx, .fields vs, sl⟩ ∧ vs[0]? = some (.ref t1) ∧ vs[1]? = some .none
section
variable {X : Cx} {pins : List (Addr × Obj)} {σ : St} {H : Hp} {s : Shared} {h' : Heap}
/-- x is changed, a new d is laid -/
theorem Inv.write2 {x d : Addr} {o od : HO} {t' : Nat} (I : Inv X pins σ H s) (mu : Mut (H x)) (hd : s.heap.objs.size ≤ d) (k : ∀ b u, b ≠ x → s.heap.get? b = some u → h'.get? b = some u) (hx : ∃ u, h'.get? x = some u)
    (nx : ObjOk X.prog X.w (upd (upd H d od) x o) h' x o) (nd : ObjOk X.prog X.w (upd (upd H d od) x o) h' d od) : Inv X pins σ (upd (upd H d od) x o) { s with heap := h', toks := t' } := by
  have hn : H d = none := I.hok.fresh hd
  have hnx : ∀ b, H b = none → b ≠ x := fun b n z => by subst z; rw [n] at mu; exact mu
  have dx : d ≠ x := hnx d hn
  have hm : ∀ b u, H b = some u → ¬ Mut (some u) → b ≠ x := fun b u q nm z => by subst z; rw [q] at mu; exact nm mu
  have go : ∀ b u, H b = some u → ¬ Mut (some u) → upd (upd H d od) x o b = some u := fun b u q nm => by
    rw [upd_ne (hm b u q nm), upd_ne (ne_of_none q hn)]; exact q
  refine I.un ⟨fun b u q n _ _ => k b u (hnx b n) q, fun b u q n _ _ => ⟨u.slots, k b u (hnx b n) q⟩, fun b u q n _ => ?_, fun b u q _ => ?_, fun b xs q => go b _ q fun z => z, fun b u xs q => go b _ q fun z => z, fun b ps q => ⟨#[], by rw [go b _ q fun z => z]; simp⟩⟩ fun b u q => ?_
  · rw [upd_ne (hnx b n), upd_ne (Nat.ne_of_lt (Nat.lt_of_lt_of_le (Heap.lt_size q) hd))]; exact n
  · by_cases hb : b = x
    · subst hb; exact hx
    · exact ⟨u, k b u hb q⟩
  · by_cases hb : b = x
    · subst hb; rw [upd_same] at q; cases q; exact nx
    · rw [upd_ne hb] at q
      by_cases hbd : b = d
      · subst hbd; rw [upd_same] at q; cases q; exact nd
      · rw [upd_ne hbd] at q
        refine (I.hok b u q).stay (fun c v hc r => k c v ?_ r) (fun c r => go c _ r fun z => z) fun c xs r => go c _ r fun z => z
        rcases hc with rfl | hc
        · exact hb
        · exact hm c _ hc fun z => z
theorem excN_obj {a : Addr} {cls : Value} {dx : Option Addr} (I : Inv X pins σ H s) (h : H a = some (ExcN a cls dx)) : ∃ vs sl t1, s.heap.get? a = some ⟨cls, dx, .fields vs, sl⟩ ∧ vs[0]? = some (.ref t1) ∧ vs[1]? = some .none :=
  (show ObjOk X.prog X.w H s.heap a (ExcN a cls dx) from I.hok a _ h).1
theorem excN_ok {P : Program} {w : World} {H : Hp} {h : Heap} {a : Addr} {cls : Value} {dx : Option Addr} {vs : Array Value} {sl : Array (Option Value)} {t1 : Addr} (e : h.get? a = some ⟨cls, dx, .fields vs, sl⟩) (e0 : vs[0]? = some (.ref t1)) (e1 : vs[1]? = some .none) : ObjOk P w H h a (ExcN a cls dx) :=
  ⟨⟨vs, sl, t1, e, e0, e1⟩, ⟨_, e⟩, fun h1 h3 ⟨vs', sl', t', q, r⟩ kk => ⟨vs', sl', t', kk _ q, r⟩⟩
def sXF1 (K : PySem.W.Frag) (ta tv : TE) (f : Str) : TS := fun D σ H => tv σ H fun y H1 => ta σ H1 fun x H2 => ∃ a C CF, x = .ref a ∧ H2 a = some (ExcN a (.ref C) none) ∧ XOwn K C CF ∧ PySem.W.findIn K (.ref C) f = some none ∧
  ∀ d, H2 d = none → D.nx σ (upd (upd H2 d (.xd [(f, y)])) a (ExcN a (.ref C) (some d)))
def sXF2 (K : PySem.W.Frag) (ta tv : TE) (f : Str) : TS := fun D σ H => tv σ H fun y H1 => ta σ H1 fun x H2 => ∃ a C CF d fs, x = .ref a ∧ H2 a = some (ExcN a (.ref C) (some d)) ∧ H2 d = some (.xd fs) ∧ fs.length ≤ 900 ∧ XOwn K C CF ∧ PySem.W.findIn K (.ref C) f = some none ∧
  D.nx σ (upd H2 d (.xd (putF f y fs)))
variable {o value : Expr} {f : Str} {pos pos' : Pos} {ta tv : TE}
theorem ps_xf1 (ha : PE X o ta) (hv : PE X value tv) (hs : swapsWith value (some (.Attribute o f pos')) pos.line X.env = pure false) : PS X (.Assign [.Attribute o f pos'] value pos) (sXF1 X.K ta tv f) := by
  intro pins s σ H D I h
  refine plainObj_wpAny_Assign_Attribute (thn (hv pins s σ H _ I h) fun u s1 ⟨y, H1, I1, ry, q⟩ => thn (ha pins s1 σ H1 _ I1 q) fun ov s2 ⟨x, H2, I2, rx, a, C, CF, ex, ea, O, hna, q2⟩ => ?_) hs
  subst ex
  obtain rfl : ov = Value.ref a := rx
  obtain ⟨vs, sl, t1, e, e0, e1⟩ := excN_obj I2 ea
  obtain ⟨cd, hcd, hm, hh⟩ := O.cls
  obtain ⟨hh2, g2, d2, t2, os2⟩ := s2
  refine xset_new I2.kIn e hcd hm hh O.sa hna fun h' tk' hx hn k => ?_
  have hne : hh2.objs.size ≠ a := Nat.ne_of_gt (Heap.lt_size e)
  refine ⟨σ, _, ?_, q2 hh2.objs.size (I2.hok.fresh (Nat.le_refl _))⟩
  refine I2.write2 (by rw [ea]; trivial) (Nat.le_refl _) k ⟨_, hx⟩ (excN_ok hx e0 e1) ?_
  refine ⟨_, hn, fun z => ?_⟩
  show RelO (List.lookup z [(f, y)]) (if z = f then some u else none)
  by_cases q : z = f
  · subst q; rw [if_pos rfl, List.lookup_cons_self]; exact ry
  · rw [if_neg q, List.lookup_cons, beq_eq_false_iff_ne.mpr q]; trivial
structure FInit (K : PySem.W.Frag) (mg : Str → Option Value) (x : Str) (CF : Addr) : Prop where
  bound : mg x = some (.ref CF)
  sp : PySem.W.specialIn K (.ref CF) "__getattribute__" = some (some (.builtin "type.__getattribute__"))
  rd : PySem.W.readsIn K CF (.type "type") = true
  fc : PySem.W.findCls K (.ref CF) (.type "type") "__init__" = some (.val (.builtin "ValueError.__init__"))
def tXI (K : PySem.W.Frag) (t : TA) : TE := fun σ H Q => t σ H fun vs H1 => ∃ a C CF dx rest, vs = .ref a :: rest ∧ H1 a = some (ExcN a (.ref C) dx) ∧ XOwn K C CF ∧ rest.length ≤ sizeLine ∧ Q .non H1
theorem call_init {C CF a : Addr} {dx : Option Addr} {rest : List Value} {Q : VK} (I : Inv X pins σ H s) (ea : H a = some (ExcN a (.ref C) dx)) (O : XOwn X.K C CF) (hl : rest.length ≤ sizeLine) (q : Q .non H) :
    wpAny (model X.prog X.w) X.A (call (.builtin "ValueError.__init__") (.ref a :: rest)) (EP X pins σ Q) X.xe s := by
  obtain ⟨vs, sl, t1, e, e0, e1⟩ := excN_obj I ea
  obtain ⟨N, nm, qn, bs, hd, sn, sub, ab, col, dd, k0, k1, k2, k3, k5, hC⟩ := O.at I.kIn
  obtain ⟨hh, g, d, t, os⟩ := s
  have sz : 0 < vs.size := (Array.getElem?_eq_some_iff.mp e0).1
  refine init_exc (O.tail I.kIn) hC e e0 hl fun h' t0 k he => ?_
  have J : Inv X pins σ (upd H a (ExcN a (.ref C) dx)) (⟨h', g, d, t, os⟩ : Shared) := I.write (x := a) (e := a) (t' := t) (by rw [ea]; trivial) (.inl rfl) k ⟨_, he⟩
    (excN_ok he (by rw [Array.getElem?_setIfInBounds_self_of_lt sz]) (by rw [Array.getElem?_setIfInBounds_ne (by decide)]; exact e1))
  have eq : upd H a (ExcN a (.ref C) dx) = H := by
    funext b
    by_cases hb : b = a
    · subst hb; rw [upd_same, ea]
    · rw [upd_ne hb]
  rw [eq] at J
  exact ⟨.non, H, J, rfl, q⟩
theorem pe_xinit {x : Str} {CF : Addr} {e : Expr} {es : List Expr} {t : TA} {p apos pos : Pos} {pl : Sem Bool} (N : FInit X.K X.mg x CF) (hg : Gl X x) (ha : PA X (e :: es) t)
    (hdb : (x == ("__debug__" : Str)) = false := by decide) (hst : starEach (e :: es) X.env = (false, eval e X.env) :: starEach es X.env := by rfl) (hpl : (backTo pos (starEach es X.env)).any (·.1) = false := by rfl)
    (ht : eval (.Call (.Attribute (.Name x p) "__init__" apos) (e :: es) [] pos) X.env = (do
      let ov ← eval (.Name x p) X.env
      standAt apos.atName
      let (f, first) ← holding [ov] (getMethod ov "__init__" pl)
      callWith pos f first (backTo pos (starEach (e :: es) X.env)) (backToKw pos (keywordEach [] X.env))) := by rfl) :
    PE X (.Call (.Attribute (.Name x p) "__init__" apos) (e :: es) [] pos) (tXI X.K t) := by
  intro pins s σ H Q I h
  refine PySem.W.methodCall_KW (pl := pl) (ld_glob I hg N.bound ?_ hdb) ht
  refine PySem.W.method_cls I.kIn N.sp (PySem.W.cls_value I.kIn N.rd N.fc rfl ?_)
  have I1 : Inv X pins σ H { s with toks := s.toks + 1 } := I.tok _
  refine callWith_builtin1 (thn (ha pos pins _ σ H _ I1 h) fun us s2 ⟨vs, H2, I2, r, a, C, CF, dx, rest, ev, ea, O, hl, q2⟩ => ?_) hst hpl
  subst ev
  cases r with
  | cons r1 r2 =>
    cases (show _ = Value.ref a from r1)
    exact call_init I2 ea O (by rw [← r2.length]; exact hl) q2
def era (H : Hp) (a : Addr) : Hp := fun b => if b = a then none else H b
theorem era_ne {H : Hp} {a b : Addr} (h : b ≠ a) : era H a b = H b := by unfold era; rw [if_neg h]
theorem era_same {H : Hp} {a : Addr} : era H a a = none := by unfold era; rw [if_pos rfl]
theorem era_none {H : Hp} {a b : Addr} (h : H b = none) : era H a b = none := by
  unfold era; split
  · rfl
  · exact h
theorem un_era {fs ex : List Addr} {H1 H2 : Hp} {h1 h2 : Heap} {a : Addr} {φ : Heap → Prop} (u : Un fs ex H1 H2 h1 h2) (ha : H2 a = some (.ext φ)) : Un fs ex H1 (era H2 a) h1 h2 where
  keep := u.keep
  slot := u.slot
  free := fun b o q n hx => era_none (u.free b o q n hx)
  there := u.there
  tups := fun b xs q => by
    have z := u.tups b xs q
    rw [era_ne (ne_of z ha (fun e => nomatch e))]; exact z
  frzs := fun b o xs q => by
    have z := u.frzs b o xs q
    rw [era_ne (ne_of z ha (fun e => nomatch e))]; exact z
  tbls := fun b ps q => by
    obtain ⟨more, z⟩ := u.tbls b ps q
    exact ⟨more, by rw [era_ne (ne_of z ha (fun e => nomatch e))]; exact z⟩
theorem hok_era {P : Program} {w : World} {H : Hp} {h : Heap} {a : Addr} {φ : Heap → Prop} (ok : HOk P w H h) (ha : H a = some (.ext φ)) : HOk P w (era H a) h := fun b o q => by
  by_cases hb : b = a
  · subst hb; rw [era_same] at q; cases q
  · rw [era_ne hb] at q
    refine (ok b o q).stay (fun _ _ _ z => z) (fun c z => ?_) fun c xs z => ?_
    · rw [era_ne (ne_of z ha (fun e => nomatch e))]; exact z
    · rw [era_ne (ne_of z ha (fun e => nomatch e))]; exact z
theorem Inv.era {a : Addr} {φ : Heap → Prop} (I : Inv X pins σ H s) (ha : H a = some (.ext φ)) : Inv X pins σ (era H a) s := by
  have e : s = { s with heap := s.heap, toks := s.toks } := rfl
  rw [e]
  exact I.un (un_era Un.refl ha) (hok_era I.hok ha)
theorem un_new {fs ex : List Addr} {H : Hp} {h h' : Heap} {a : Addr} {o : HO} (k : ∀ b u, h.get? b = some u → h'.get? b = some u) (hnew : h.get? a = none) (hn : H a = none) : Un fs ex H (upd H a o) h h' where
  keep := fun b u q _ _ _ => k b u q
  slot := fun b u q _ _ _ => ⟨u.slots, k b u q⟩
  free := fun b u q n _ => by rw [upd_ne (fun z => by rw [z, hnew] at q; cases q)]; exact n
  there := fun b u q _ => ⟨u, k b u q⟩
  tups := fun b xs q => by rw [upd_ne (ne_of_none q hn)]; exact q
  frzs := fun b u xs q => by rw [upd_ne (ne_of_none q hn)]; exact q
  tbls := fun b ps q => ⟨#[], by rw [upd_ne (ne_of_none q hn), q]; simp⟩
theorem hok_new {P : Program} {w : World} {H : Hp} {h h' : Heap} {a : Addr} {o : HO} (x : HOk P w H h) (k : ∀ b u, h.get? b = some u → h'.get? b = some u) (hn : H a = none) (new : ObjOk P w (upd H a o) h' a o) : HOk P w (upd H a o) h' := fun b u e => by
  by_cases hb : b = a
  · subst hb; rw [upd_same] at e; cases e; exact new
  · rw [upd_ne hb] at e
    exact (x b u e).stay (fun c v _ q => k c v q) (fun c q => by rw [upd_ne (ne_of_none q hn)]; exact q) fun c xs q => by rw [upd_ne (ne_of_none q hn)]; exact q
end
section
variable {M : Model} {A : Around} {E : Value → Shared → Prop}
theorem raise_own {env : Env} {s : Shared} {x : Sem Value} {Q : Flow → Shared → Prop} (hh : A.handled = none)
    (h : wpAny M A x (fun v s₁ => ∃ e nm q C N bs CF hdct sn sub ab col dd k0 k1 k2 k3 k5 newId dx vs sl, v = .ref e ∧ s₁.heap.get? C = some (excClassObj nm q C N bs (.ref CF :: bmV) hdct sn sub ab col dd k0 k1 k2 k3 k5 newId) ∧
      s₁.heap.get? e = some ⟨.ref C, dx, .fields vs, sl⟩ ∧ vs[1]? = some .none ∧ E (.ref e) s₁) E s) :
    wpAny M A (raiseStmt env (some x) none) Q E s := by
  unfold raiseStmt
  refine wpAny_bind (wpAny_mono h (fun v s₁ h₁ => ?_) fun _ _ x => x)
  obtain ⟨e, nm, q, C, N, bs, CF, hdct, sn, sub, ab, col, dd, k0, k1, k2, k3, k5, newId, dx, vs, sl, rfl, hC, he, h1, hE⟩ := h₁
  have hcB : (Value.ref C :: .ref CF :: bmV).contains (.type "BaseException") = true := by
    rw [List.contains_cons, List.contains_cons]; rfl
  obtain ⟨hp, g, d, tk, os⟩ := s₁
  repeat (first | with_reducible refine wpAny_field he rfl h1 ?_ | with_reducible refine wpAny_loadPart_at he ?_ | with_reducible refine wpAny_loadPart_at hC ?_ | (with_reducible refine wpAny_isSubtype_exc hC ?_; rw [hcB]) | wp_step)
  exact wpAny_raiseNew_none hh hE
end
end L2

set_option Elab.async false
set_option linter.all false
set_option maxRecDepth 100000
set_option maxHeartbeats 4000000
namespace L2
open PySem PySem.Spec PyProof.Rows
/-- what a class with an own __init__ at f must have to be made -/
structure XMk (K : PySem.W.Frag) (mg : Str → Option Value) (x : Str) (C CF f : Addr) : Prop extends XOwn K C CF where
  bound : mg x = some (.ref C)
  kp : PySem.W.keepIn K (.ref C) = true
  init : PySem.W.findIn K (.ref C) "__init__" = some (some (.ref f))
  fn : PySem.W.typeIn K (.ref f) = some (.type "function")
def tRaiseX (C : Addr) (sp : Sp) (EE : Value → Option Addr → St → Hp → Prop) (ta : TA) : TS := fun _ σ H => ta σ H fun vs H1 => vs.length ≤ sizeLine ∧ ∀ e, H1 e = none →
  sp (.ref e :: (vs ++ [])) (upd H1 e (ExcN e (.ref C) none)) (fun v H2 => v = .non ∧ ∃ dx, H2 e = some (ExcN e (.ref C) dx) ∧ EE (.ref C) dx σ (era H2 e)) E0
section
variable {X : Cx} {EE : Value → Option Addr → St → Hp → Prop}
theorem ps_raiseX {k : Nat} {x : Str} {C CF f : Addr} {fd : FuncData} {ps : List Str} {sp : Sp} {e : Expr} {es : List Expr} {t : TA} {np cpos pos : Pos} (T : Thr X EE) (hc : X.calm = true) (O : XMk X.K X.mg x C CF f) (F : FnOk X.prog X.w X.K X.mg X.base CX0 k f fd ps sp) (hr : Room (k + 1) X.A) (hb : Binds X.K fd ps [])
    (hg : Gl X x) (ha : PA X (e :: es) t)
    (hdb : (x == ("__debug__" : Str)) = false := by decide) (he : starEach (e :: es) X.env = (false, eval e X.env) :: starEach es X.env := by rfl) (hpl : (backTo cpos (starEach es X.env)).any (·.1) = false := by rfl) :
    PS X (.Raise (some (.Call (.Name x np) (e :: es) [] cpos)) none pos) (tRaiseX C sp EE t) := by
  intro pins s σ H D I h
  rw [arm_exec_Raise]
  refine wpAny_bind (wpAny_standAt (raise_own (I.ok.hd hc) ?_))
  refine wpAny_bind (wpAny_mono (Q := fun v s₁ => ∃ e nm q C N bs CF hdct sn sub ab col dd k0 k1 k2 k3 k5 newId dx vs sl, v = .ref e ∧ s₁.heap.get? C = some (excClassObj nm q C N bs (.ref CF :: bmV) hdct sn sub ab col dd k0 k1 k2 k3 k5 newId) ∧
      s₁.heap.get? e = some ⟨.ref C, dx, .fields vs, sl⟩ ∧ vs[1]? = some .none ∧ X.xe (.ref e) s₁) ?_ (fun v s₃ h₃ => wpAny_bind (wpAny_standAt (wpAny_pure h₃))) fun _ _ x => x)
  refine wpAny_Call_Name_kw (ld_glob I hg O.bound ?_ hdb)
  refine PySem.W.callWith_K (h₀ := X.base) I.ok.mod.kin O.kp (thn (ha cpos pins s σ H _ I h) fun us s1 ⟨vs, H1, I1, r, hz, q⟩ => ⟨I1.kIn, ?_⟩) he hpl
  obtain ⟨N, nm, qn, bs, hd, sn, sub, ab, col, dd, k0, k1, k2, k3, k5, hC⟩ := O.toXOwn.at I1.kIn
  obtain ⟨hp, g, d, tk, os⟩ := s1
  have hzu : us.length ≤ sizeLine := by rw [← r.length]; exact hz
  show wpAny _ _ (call (.ref C) us) _ _ _
  refine make_exc (f := f) (O.toXOwn.tail I1.kIn) I1.kIn hC O.init O.fn hzu fun h' ea M => ?_
  obtain ⟨ta, e1, _, _⟩ := M.there
  have hn : H1 ea = none := by
    cases z : H1 ea with
    | none => rfl
    | some o =>
      obtain ⟨u, hu⟩ := (I1.hok ea o z).obj
      rw [M.new] at hu; cases hu
  have I2 : Inv X pins σ (upd H1 ea (ExcN ea (.ref C) none)) (⟨h', g, d, tk, os⟩ : Shared) :=
    I1.un (t' := tk) (un_new M.keeps M.new hn) (hok_new I1.hok M.keeps hn (excN_ok e1 rfl rfl))
  have hq := q ea hn
  have r2 : Vals (V.ref ea :: (vs ++ [])) (Value.ref ea :: us) := .cons rfl (by rw [List.append_nil]; exact r)
  have hl : (Value.ref ea :: us).length = ps.length := by rw [← r2.length]; exact F.len _ _ _ _ hq
  have hb' := hb ⟨h', g, d, tk, os⟩ (Value.ref ea :: us) I2.kIn (by rw [List.append_nil]; exact hl)
  rw [List.append_nil] at hb'
  refine codeAny_mono (F.run _ X.stack _ _ ⟨Value.ref ea :: us, []⟩ (Value.ref ea :: us) _ _ E0 (hr.make C us []) (I2.env0.make C us []) hb' r2 hq) fun z s' hq' => ?_
  cases z with
  | error x => exact hq'.elim
  | ok fl =>
    cases fl with
    | next => exact hq'.elim
    | brk => exact hq'.elim
    | cont => exact hq'.elim
    | ret u =>
      obtain ⟨v, H2, os2, bare, un, hok, rv, rfl, dx, hH, qe⟩ := hq'
      have I3 : Inv X pins σ H2 s' := I2.call' (ch := []) os2 un hok bare (fun b z => nomatch z)
      obtain ⟨vs', sl', t1, g1, g2, g3⟩ := excN_obj I3 hH
      have I4 : Inv X pins σ (era H2 ea) s' := I3.era hH
      have un2 : Un (frs X.stack) [] H1 (era H2 ea) hp s'.heap := un_era ((un_new M.keeps M.new hn).trans un) hH
      obtain ⟨N', nm', qn', bs', hd', sn', sub', ab', col', dd', k0', k1', k2', k3', k5', hC'⟩ := O.toXOwn.at I3.kIn
      refine ⟨rv, ea, nm', qn', C, N', bs', CF, hd', sn', sub', ab', col', dd', k0', k1', k2', k3', k5', _, dx, vs', sl', rfl, hC', g1, g3, ?_⟩
      exact T.made pins σ H1 ⟨hp, g, d, tk, os⟩ _ _ I1 (cxm_made (dx := dx) I1 I4 un2 os2 ⟨vs', sl', g1, g3⟩ M.new era_same qe)
end
end L2

set_option Elab.async false
set_option linter.all false
set_option maxRecDepth 100000
set_option maxHeartbeats 4000000
namespace L2
open PySem PySem.Spec PyProof.Rows
def intT (i : Int) : Str := Str.ofString (toString i)
def shI (is : List Int) : Str := tupleText (is.map intT)
/-- the text that an f-string makes of a value -/
inductive FmtV (K : PySem.W.Frag) (H : Hp) : V → Str → Prop
  | int {i : Int} : i.natAbs.log2 < 1920 → FmtV K H (.int i) (intT i)
  | str {z : Str} : z.length ≤ sizeLine → FmtV K H (.str z) z
  | tup {a : Addr} {is : List Int} : SqT K H a (is.map V.int) → (∀ i ∈ is, i.natAbs.log2 < 1920) → (shI is).length ≤ sizeLine → FmtV K H (.ref a) (shI is)
theorem shownAll_ints : ∀ is : List Int, PyData.shownAll (is.map PyData.int) = is.map intT
  | [] => by simp [PyData.shownAll]
  | i :: is => by simp only [List.map_cons, PyData.shownAll, PyData.shown, shownAll_ints is]; rfl
theorem showableAll_ints : ∀ is : List Int, (∀ i ∈ is, i.natAbs.log2 < 1920) → PyData.showableAll (is.map PyData.int) = true
  | [], _ => by simp [PyData.showableAll]
  | i :: is, h => by
    simp only [List.map_cons, PyData.showableAll, PyData.showable, showableAll_ints is fun j hj => h j (List.mem_cons_of_mem _ hj), Bool.and_true, decide_eq_true_eq]
    exact h i (List.mem_cons_self ..)
theorem hasDictAll_ints : ∀ is : List Int, PyData.hasDictAll (is.map PyData.int) = false
  | [] => by simp [PyData.hasDictAll]
  | i :: is => by simp only [List.map_cons, PyData.hasDictAll, PyData.hasDict, hasDictAll_ints is, Bool.or_self]
theorem depthAll_ints : ∀ is : List Int, PyData.depthAll (is.map PyData.int) ≤ 1
  | [] => by simp [PyData.depthAll]
  | i :: is => by
    have := depthAll_ints is
    simp only [List.map_cons, PyData.depthAll, PyData.depth]
    omega
theorem readsAll_ints {h : Heap} : ∀ {is : List Int} {us : List Value}, Vals (is.map V.int) us → ReadsAll h us (is.map PyData.int) []
  | [], _, .nil => .nil
  | i :: is, _, .cons r t => by
    obtain ⟨tk, rfl⟩ := (show ∃ tk, _ = Value.int i tk from r)
    exact .cons (as := []) (bs := []) (.int i tk) (readsAll_ints t)
section
variable {X : Cx} {pins : List (Addr × Obj)} {σ : St} {H : Hp} {s : Shared}
theorem fmt_ok {k : Nat} {x : V} {u : Value} {y : Str} {Q : VK} (hr : RoomN k X.A) (I : Inv X pins σ H s) (r : RelV x u) (f : FmtV X.K H x y) (q : Q (.str y) H) : wpAny (model X.prog X.w) X.A (formatField u Str.empty) (EP X pins σ Q) X.xe s := by
  cases f with
  | int h =>
    obtain ⟨t, rfl⟩ := (show ∃ t, u = Value.int _ t from r)
    exact wpAny_formatField_int h ⟨.str (intT _), H, I.tok _, ⟨_, rfl⟩, q⟩
  | str h =>
    obtain ⟨t, rfl⟩ := (show ∃ t, u = Value.str y t from r)
    exact wpAny_formatField_str ⟨.str y, H, I, ⟨_, rfl⟩, q⟩ ⟨.str y, H, I.tok _, ⟨_, rfl⟩, q⟩ h
  | @tup a is hs hi hz =>
    cases (show u = Value.ref a from r)
    obtain ⟨its, vr, ⟨o, ho, hc, n, hd⟩, hl⟩ := I.tuple hs
    have rd : Reads s.heap (.ref a) (.tuple (is.map PyData.int)) [] := .tuple ho hc hd (readsAll_ints vr)
    have e : (PyData.tuple (is.map PyData.int)).shown = shI is := by simp only [PyData.shown, shownAll_ints]; rfl
    have hdp : (PyData.tuple (is.map PyData.int)).depth ≤ 3 := by
      have := depthAll_ints is
      simp only [PyData.depth]
      omega
    refine formatField_of_reads rd (by simp only [PyData.showable]; exact showableAll_ints is hi) (PyData.noDict_hsm (by simp only [PyData.hasDict]; exact hasDictAll_ints is)) hr.gd (by have := hr.un; omega) (fun _ _ z => z) (fun h' u tk hk => ?_) (by rw [e]; exact hz)
    rw [e]
    exact ⟨.str (shI is), H, I.kept hk, ⟨_, rfl⟩, q⟩
end
def tFmt (K : PySem.W.Frag) (tv : TE) : TE := fun σ H Q => tv σ H fun x H1 => ∃ y, FmtV K H1 x y ∧ Q (.str y) H1
abbrev TJ := Str → St → Hp → VK → Prop
def PJ (X : Cx) (es : List Expr) (t : TJ) : Prop := ∀ (pins : List (Addr × Obj)) (s : Shared) (σ : St) (H : Hp) (out : Str) (Q : VK), Inv X pins σ H s → t out σ H Q → wpAny (model X.prog X.w) X.A (joinParts out (evalEach es X.env)) (EP X pins σ Q) X.xe s
def jNil : TJ := fun out _ H Q => out.length ≤ sizeLine ∧ Q (.str out) H
def jCons (te : TE) (t : TJ) : TJ := fun out σ H Q => te σ H fun x H1 => ∃ y, x = .str y ∧ (out ++ y).length ≤ sizeLine ∧ t (out ++ y) σ H1 Q
def tJoin (t : TJ) : TE := fun σ H Q => t Str.empty σ H Q
section
variable {X : Cx} {k : Nat} {e e₂ : Expr} {es : List Expr} {te : TE} {t : TJ} {pos : Pos}
theorem pe_fmt (hr : RoomN k X.A) (h : PE X e te) : PE X (.FormattedValue e (-1) none pos) (tFmt X.K te) := by
  intro pins s σ H Q I hw
  refine FormattedValue_plain (thn (h pins s σ H _ I hw) fun u s1 ⟨x, H1, I1, r, y, f, q⟩ => ?_)
  exact fmt_ok hr I1 r f q
theorem pj_nil : PJ X [] jNil := fun pins s σ H out Q I h => joinParts_nil ⟨.str out, H, I.tok _, ⟨_, rfl⟩, h.2⟩ h.1
theorem pj_cons (h1 : PE X e te) (h2 : PJ X es t) : PJ X (e :: es) (jCons te t) := by
  intro pins s σ H out Q I h
  show wpAny _ _ (joinParts out (eval e X.env :: evalEach es X.env)) _ _ _
  refine joinParts_cons (thn (h1 pins s σ H _ I h) fun u s1 ⟨x, H1, I1, r, y, ex, hz, q⟩ => ?_)
  subst ex
  obtain ⟨tk, rfl⟩ := (show ∃ tk, u = Value.str y tk from r)
  exact ⟨hz, h2 pins s1 σ H1 (out ++ y) Q I1 q⟩
theorem pe_join (h : PJ X (e :: e₂ :: es) t) : PE X (.JoinedStr (e :: e₂ :: es) pos) (tJoin t) := fun pins s σ H Q I hw => JoinedStr_many (h pins s σ H Str.empty Q I hw)
end
def tXGet (K : PySem.W.Frag) (ta : TE) (f : Str) : TE := fun σ H Q => ta σ H fun x H1 => ∃ a C d fs v, x = .ref a ∧ H1 a = some (ExcO a (.ref C) (some d)) ∧ H1 d = some (.xd fs) ∧ XGet K C ∧ PySem.W.hasDictIn K C = true ∧ PySem.W.findIn K (.ref C) f = some none ∧ fs.lookup f = some v ∧ Q v H1
section
variable {X : Cx} {e : Expr} {f : Str} {pos : Pos} {ta : TE}
end
end L2

set_option Elab.async false
set_option linter.all false
set_option maxRecDepth 100000
set_option maxHeartbeats 4000000
namespace L2
open PySem PySem.Spec PyProof.Rows
/-- an error class with an own __init__, which keeps its promise -/
structure CalX (P : Program) (w : World) (K : PySem.W.Frag) (mg : Str → Option Value) (base : Heap) (k : Nat) (x : Str) (C CF : Addr) (ps : List Str) (sp : Sp) : Prop where
  ex : ∃ (f : Addr) (fd : FuncData), FnOk P w K mg base CX0 k f fd ps sp ∧ Binds K fd ps [] ∧ XMk K mg x C CF f
section
variable {X : Cx} {EE : Value → Option Addr → St → Hp → Prop}
theorem ps_raiseC {k : Nat} {x : Str} {C CF : Addr} {ps : List Str} {sp : Sp} {e : Expr} {es : List Expr} {t : TA} {np cpos pos : Pos} (T : Thr X EE) (hc : X.calm = true) (O : CalX X.prog X.w X.K X.mg X.base k x C CF ps sp) (hr : Room (k + 1) X.A)
    (hg : Gl X x) (ha : PA X (e :: es) t)
    (hdb : (x == ("__debug__" : Str)) = false := by decide) (he : starEach (e :: es) X.env = (false, eval e X.env) :: starEach es X.env := by rfl) (hpl : (backTo cpos (starEach es X.env)).any (·.1) = false := by rfl) :
    PS X (.Raise (some (.Call (.Name x np) (e :: es) [] cpos)) none pos) (tRaiseX C sp EE t) := by
  intro pins s σ H D I h
  obtain ⟨f, fd, F, hb, M⟩ := O.ex
  exact ps_raiseX T hc M F hr hb hg ha hdb he hpl pins s σ H D I h
structure CalM (P : Program) (w : World) (K : PySem.W.Frag) (mg : Str → Option Value) (base : Heap) (CX : CXT) (k : Nat) (C : Addr) (m : Str) (ps : List Str) (sp : Sp) : Prop where
  ex : ∃ (f : Addr) (fd : FuncData), FnOk P w K mg base CX k f fd ps sp ∧ Binds K fd ps [] ∧ Meth K C m f
structure CalI (P : Program) (w : World) (K : PySem.W.Frag) (mg : Str → Option Value) (base : Heap) (CX : CXT) (k : Nat) (x : Str) (C : Addr) (ps : List Str) (sp : Sp) : Prop where
  ex : ∃ (f : Addr) (fd : FuncData), FnOk P w K mg base CX k f fd ps sp ∧ Binds K fd ps [] ∧ Mk K C f ∧ mg x = some (.ref C)
variable {C : Addr} {m x : Str} {k : Nat} {ps : List Str} {sp : Sp} {o e : Expr} {es : List Expr} {ta : TE} {t : TA} {apos pos p : Pos}
theorem pe_mcal {pl : Sem Bool} (O : CalM X.prog X.w X.K X.mg X.base CX0 k C m ps sp) (c : Cls X.K C) (hr : Room k X.A) (he : PE X o ta) (ha : PA X (e :: es) t)
    (hst : starEach (e :: es) X.env = (false, eval e X.env) :: starEach es X.env := by rfl) (hpl : (backTo pos (starEach es X.env)).any (·.1) = false := by rfl)
    (ht : eval (.Call (.Attribute o m apos) (e :: es) [] pos) X.env = (do
      let ov ← eval o X.env
      standAt apos.atName
      let (f, first) ← holding [ov] (getMethod ov m pl)
      callWith pos f first (backTo pos (starEach (e :: es) X.env)) (backToKw pos (keywordEach [] X.env))) := by rfl) :
    PE X (.Call (.Attribute o m apos) (e :: es) [] pos) (tMeth C m sp [] E0 ta t) := by
  obtain ⟨f, fd, F, hb, M⟩ := O.ex
  exact pe_meth (pl := pl) he c M F hr hb .nil pass0 ha hst hpl ht
theorem pe_mcal0 {pl : Sem Bool} (O : CalM X.prog X.w X.K X.mg X.base CX0 k C m ps sp) (c : Cls X.K C) (hr : Room k X.A) (he : PE X o ta)
    (ht : eval (.Call (.Attribute o m apos) [] [] pos) X.env = (do
      let ov ← eval o X.env
      standAt apos.atName
      let (f, first) ← holding [ov] (getMethod ov m pl)
      callWith pos f first (backTo pos (starEach [] X.env)) (backToKw pos (keywordEach [] X.env))) := by rfl) :
    PE X (.Call (.Attribute o m apos) [] [] pos) (tMeth C m sp [] E0 ta tNil) := by
  obtain ⟨f, fd, F, hb, M⟩ := O.ex
  exact pe_meth0 (pl := pl) he c M F hr hb .nil pass0 ht
theorem pe_mk (O : CalI X.prog X.w X.K X.mg X.base CX0 k x C ps sp) (hr : Room (k + 1) X.A) (hg : Gl X x) (ha : PA X (e :: es) t)
    (hdb : (x == ("__debug__" : Str)) = false := by decide) (he : starEach (e :: es) X.env = (false, eval e X.env) :: starEach es X.env := by rfl) (hpl : (backTo pos (starEach es X.env)).any (·.1) = false := by rfl) :
    PE X (.Call (.Name x p) (e :: es) [] pos) (tMake C sp [] E0 t) := by
  obtain ⟨f, fd, F, hb, M, hm⟩ := O.ex
  exact pe_make M F hr hg hm hb .nil pass0 ha hdb he hpl
/-- o.m(..) that may raise -/
def tMethE (C : Addr) (m : Str) (sp : Sp) (EE : Value → Option Addr → St → Hp → Prop) (ta : TE) (t : TA) : TE := fun σ H Q => ta σ H fun x H1 => ∃ a dx fs, x = .ref a ∧ H1 a = some (.ins C dx fs) ∧ fs.lookup m = none ∧
  t σ H1 fun vs H2 => sp (x :: (vs ++ [])) H2 Q (fun c d H' => EE c d σ H')
def tMakeE (C : Addr) (sp : Sp) (EE : Value → Option Addr → St → Hp → Prop) (t : TA) : TE := fun σ H Q => t σ H fun vs H1 => ∀ x dx, H1 x = none → H1 dx = none → dx ≠ x →
  sp (.ref x :: (vs ++ [])) (upd (upd H1 dx (.own x)) x (.ins C dx [])) (fun v H2 => v = .non ∧ Q (.ref x) H2) (fun c d H' => EE c d σ H')
theorem run_fnE {pins : List (Addr × Obj)} {σ : St} {H : Hp} {s : Shared} {Q : VK} {f : Addr} {fd : FuncData} {us : List Value} {vs : List V} (T : Thr X EE) (F : FnOk X.prog X.w X.K X.mg X.base (CX1 X.prog X.w) k f fd ps sp) (hr : Room k X.A) (hb : Binds X.K fd ps [])
    (I : Inv X pins σ H s) (r : Vals vs us) (h : sp (vs ++ []) H Q (fun c d H' => EE c d σ H')) : wpAny (model X.prog X.w) X.A (call (.ref f) us) (EP X pins σ Q) X.xe s := by
  have r2 : Vals (vs ++ []) (us ++ []) := r.append .nil
  have hl : (us ++ []).length = ps.length := by rw [← r2.length]; exact F.len _ _ _ _ h
  refine wpAny_call (codeAny_mono (F.run X.A X.stack s H ⟨us, []⟩ (us ++ []) (vs ++ []) Q _ hr I.env0 (hb s us I.kIn hl) r2 h) fun r s' hq => ?_)
  cases r with
  | error e => exact T.call pins σ H s e s' I hq
  | ok fl =>
    cases fl with
    | ret u => exact I.after hq
    | next => exact False.elim hq
    | brk => exact False.elim hq
    | cont => exact False.elim hq
end
end L2

set_option Elab.async false
set_option linter.all false
set_option maxRecDepth 100000
set_option maxHeartbeats 4000000
namespace L2
open PySem PySem.Spec PyProof.Rows
theorem intT_len {i : Int} (h : i.natAbs.log2 < 1920) : (intT i).length ≤ 1921 := by
  have e := int_text_length_le (k := 1920) (by decide) h
  unfold intT
  rw [PySem.ofString_length]; omega
theorem fits {s : Str} {n : Nat} (h : s.length ≤ n) (hn : n ≤ 100000) : s.length ≤ sizeLine := Nat.le_trans h (Nat.le_trans hn (by decide))
theorem rd_join {t : TJ} {σ : St} {H : Hp} {Q : VK} (h : t Str.empty σ H Q) : tJoin t σ H Q := h
theorem rd_jnil {out : Str} {σ : St} {H : Hp} {Q : VK} (h : out.length ≤ sizeLine) (q : Q (.str out) H) : jNil out σ H Q := ⟨h, q⟩
/-- a written text: out is of at most n signs, the text of m -/
theorem rd_jc {x : Str} {t : TJ} {out : Str} {σ : St} {H : Hp} {Q : VK} (n : Nat) (hn : out.length ≤ n) (hz : n + x.length ≤ 100000) (h : (out ++ x).length ≤ n + x.length → t (out ++ x) σ H Q) : jCons (tC (.str x)) t out σ H Q := by
  have e : (out ++ x).length ≤ n + x.length := by rw [strLen_append]; omega
  exact ⟨x, rfl, fits e hz, h e⟩
/-- a whole number in the braces -/
theorem rd_ji {K : PySem.W.Frag} {j : Nat} {i : Int} {t : TJ} {out : Str} {σ : St} {H : Hp} {Q : VK} (n : Nat) (hn : out.length ≤ n) (hz : n + 1921 ≤ 100000) (hv : σ[j]? = some (some (.int i))) (hi : i.natAbs.log2 < 1920) (h : (out ++ intT i).length ≤ n + 1921 → t (out ++ intT i) σ H Q) :
    jCons (tFmt K (tVar j)) t out σ H Q := by
  have e : (out ++ intT i).length ≤ n + 1921 := by have := intT_len hi; rw [strLen_append]; omega
  exact ⟨.int i, hv, intT i, .int hi, intT i, rfl, fits e hz, h e⟩
theorem rd_xinit {K : PySem.W.Frag} {t : TA} {σ : St} {H : Hp} {Q : VK} (h : t σ H fun vs H1 => ∃ a C CF dx rest, vs = .ref a :: rest ∧ H1 a = some (ExcN a (.ref C) dx) ∧ XOwn K C CF ∧ rest.length ≤ sizeLine ∧ Q .non H1) : tXI K t σ H Q := h
theorem rd_xf1 {K : PySem.W.Frag} {ta tv : TE} {f : Str} {D : Ends} {σ : St} {H : Hp} (h : tv σ H fun y H1 => ta σ H1 fun x H2 => ∃ a C CF, x = .ref a ∧ H2 a = some (ExcN a (.ref C) none) ∧ XOwn K C CF ∧ PySem.W.findIn K (.ref C) f = some none ∧
  ∀ d, H2 d = none → D.nx σ (upd (upd H2 d (.xd [(f, y)])) a (ExcN a (.ref C) (some d)))) : sXF1 K ta tv f D σ H := h
theorem rd_xf2 {K : PySem.W.Frag} {ta tv : TE} {f : Str} {D : Ends} {σ : St} {H : Hp} (h : tv σ H fun y H1 => ta σ H1 fun x H2 => ∃ a C CF d fs, x = .ref a ∧ H2 a = some (ExcN a (.ref C) (some d)) ∧ H2 d = some (.xd fs) ∧ fs.length ≤ 900 ∧ XOwn K C CF ∧ PySem.W.findIn K (.ref C) f = some none ∧
  D.nx σ (upd H2 d (.xd (putF f y fs)))) : sXF2 K ta tv f D σ H := h
theorem rd_xget {K : PySem.W.Frag} {ta : TE} {f : Str} {σ : St} {H : Hp} {Q : VK} (h : ta σ H fun x H1 => ∃ a C d fs v, x = .ref a ∧ H1 a = some (ExcO a (.ref C) (some d)) ∧ H1 d = some (.xd fs) ∧ XGet K C ∧ PySem.W.hasDictIn K C = true ∧ PySem.W.findIn K (.ref C) f = some none ∧ fs.lookup f = some v ∧ Q v H1) : tXGet K ta f σ H Q := h
/-- the promise of an __init__ that keeps one field -/
def spInit1 (C : Addr) (f : Str) (ok : V → Prop) : Sp := fun vs H Q _ => ∃ (e : Addr) (v : V), vs = [.ref e, v] ∧ ok v ∧ H e = some (ExcN e (.ref C) none) ∧ ∀ d, H d = none → Q .non (upd (upd H d (.xd [(f, v)])) e (ExcN e (.ref C) (some d)))
/-- raise C(v), read -/
theorem rd_raise1 {C : Addr} {f : Str} {ok : V → Prop} {EE : XE} {ta : TA} {D : Ends} {σ : St} {H : Hp} {v : V} (hv : ∀ Q : List V → Hp → Prop, Q [v] H → ta σ H Q) (hok : ok v) (h : ∀ d H', Same H H' → H' d = some (.xd [(f, v)]) → EE (.ref C) (some d) σ H') : tRaiseX C (spInit1 C f ok) EE ta D σ H := by
  refine hv _ ⟨(by show 1 ≤ sizeLine; decide), fun e he => ⟨e, v, rfl, hok, upd_same, fun d hd => ⟨rfl, some d, upd_same, ?_⟩⟩⟩
  have de : d ≠ e := fun z => by subst z; rw [upd_same] at hd; cases hd
  have hd0 : H d = none := by rw [upd_ne de] at hd; exact hd
  refine h d _ (fun b u hb => ?_) ?_
  · rw [era_ne (ne_of_none hb he), upd_ne (ne_of_none hb he), upd_ne (ne_of_none hb hd0), upd_ne (ne_of_none hb he)]; exact hb
  · rw [era_ne de, upd_ne de, upd_same]
end L2

set_option Elab.async false
set_option linter.all false
set_option maxRecDepth 100000
set_option maxHeartbeats 4000000
namespace L2
open PySem PySem.Spec PyProof.Rows
section
variable {X : Cx}
/-- where nothing is raised, what may raise may be called too -/
theorem thr_never : Thr X (fun _ _ _ _ => False) where
  call := fun _ _ _ _ _ _ _ h => by
    obtain ⟨_, _, _, _, _, _, _, _, _, _, _, _, _, _, q⟩ := h
    exact q.elim
  made := fun _ _ _ _ _ _ _ h => by
    obtain ⟨_, _, _, _, _, _, _, _, _, _, _, _, _, _, q⟩ := h
    exact q.elim
theorem rd_par {i j : Nat} {ta : TA} {D : Ends} {σ : St} {H : Hp} (h : ta σ H fun vs H1 => ∃ v w, vs = [v, w] ∧ D.nx ((σ.set i (some v)).set j (some w)) H1) : tPar i j ta D σ H := h
theorem rd_ifE {t : TT} {ta tb : TE} {σ : St} {H : Hp} {Q : VK} (h : t σ H fun c H1 => if c = true then ta σ H1 Q else tb σ H1 Q) : tIf t ta tb σ H Q := h
def rSum (K : PySem.W.Frag) : List V → Hp → VK → Prop := fun xs H Q => ∃ (p : Addr) (ns : List Int), xs = [.ref p] ∧ SqL K H p (ns.map V.int) ∧ Q (.int ns.sum) H
theorem call_sum (hc : X.calm = true) : CallR X (.builtin "sum") (rSum X.K) := by
  intro pins s σ H xs us Q I r h
  obtain ⟨p, ns, rfl, hq, q⟩ := h
  obtain ⟨u, rfl, ru⟩ := vals1 r
  cases (show u = Value.ref p from ru)
  obtain ⟨its, rv, pl, _⟩ := I.list hq
  have hi := intsAre_of rv
  obtain ⟨xs, hx⟩ := hi.allInts.items
  have hl' : s.heap.IsList p (intItems xs) := hx ▸ pl.isList
  refine sum_intListG (I.ok.hd hc) hl' fun h' tk t' hk => ?_
  have e1 : ns = xs.toList.map (·.1) := by
    rw [← nums_intItems, ← hx]
    exact (show numsOf its.toArray.toList = ns from hi.numsOf).symm
  have e2 : preSum (numAt xs) xs.size = ns.sum := by
    rw [preSum_eq, List.take_of_length_le (by simp), e1]
  rw [e2]
  exact ⟨.int ns.sum, H, I.kept hk, ⟨_, rfl⟩, q⟩
def rMinL (K : PySem.W.Frag) : List V → Hp → VK → Prop := fun xs H Q => ∃ (p : Addr) (ns : List Int), xs = [.ref p] ∧ SqL K H p (ns.map V.int) ∧ ns ≠ [] ∧ ∀ m, m ∈ ns → (∀ a ∈ ns, m ≤ a) → Q (.int m) H
def rMaxL (K : PySem.W.Frag) : List V → Hp → VK → Prop := fun xs H Q => ∃ (p : Addr) (ns : List Int), xs = [.ref p] ∧ SqL K H p (ns.map V.int) ∧ ns ≠ [] ∧ ∀ m, m ∈ ns → (∀ a ∈ ns, a ≤ m) → Q (.int m) H
theorem call_minL (hc : X.calm = true) : CallR X (.builtin "min") (rMinL X.K) := by
  intro pins s σ H xs us Q I r h
  obtain ⟨p, ns, rfl, hq, hne, q⟩ := h
  obtain ⟨u, rfl, ru⟩ := vals1 r
  cases (show u = Value.ref p from ru)
  obtain ⟨its, rv, pl, _⟩ := I.list hq
  have hi := intsAre_of rv
  obtain ⟨xs, e⟩ := hi.allInts.items
  have hns : ns = xs.toList.map (·.1) := by
    rw [← nums_intItems, ← e]
    exact (show numsOf its.toArray.toList = ns from hi.numsOf).symm
  have hsz : 0 < xs.size := by
    have h3 := List.length_pos_iff.mpr hne; rw [hns, List.length_map, Array.length_toList] at h3; exact h3
  have hl' : s.heap.IsList p (intItems xs) := e ▸ pl.isList
  refine min_intList (I.ok.hd hc) hl' hsz fun v h' tk hv hk => ?_
  obtain ⟨t, rfl⟩ := intItems_at hv
  obtain ⟨h1, h2⟩ := argBest_lt (numAt xs) (xs.size - 1)
  refine ⟨.int _, H, I.kept hk, ⟨_, rfl⟩, q _ ?_ fun a ha => ?_⟩
  · rw [hns, numAt_eq]; exact getD_mem (by rw [List.length_map, Array.length_toList]; omega)
  · rw [hns] at ha
    obtain ⟨j, hj, rfl⟩ := mem_getD ha
    rw [List.length_map, Array.length_toList] at hj
    rw [← numAt_eq]; exact h2 j (by omega)
theorem call_maxL (hc : X.calm = true) : CallR X (.builtin "max") (rMaxL X.K) := by
  intro pins s σ H xs us Q I r h
  obtain ⟨p, ns, rfl, hq, hne, q⟩ := h
  obtain ⟨u, rfl, ru⟩ := vals1 r
  cases (show u = Value.ref p from ru)
  obtain ⟨its, rv, pl, _⟩ := I.list hq
  have hi := intsAre_of rv
  obtain ⟨xs, e⟩ := hi.allInts.items
  have hns : ns = xs.toList.map (·.1) := by
    rw [← nums_intItems, ← e]
    exact (show numsOf its.toArray.toList = ns from hi.numsOf).symm
  have hsz : 0 < xs.size := by
    have h3 := List.length_pos_iff.mpr hne; rw [hns, List.length_map, Array.length_toList] at h3; exact h3
  have hl' : s.heap.IsList p (intItems xs) := e ▸ pl.isList
  refine max_intList (I.ok.hd hc) hl' hsz fun v h' tk hv hk => ?_
  obtain ⟨t, rfl⟩ := intItems_at hv
  obtain ⟨h1, h2⟩ := argBest_gt (numAt xs) (xs.size - 1)
  refine ⟨.int _, H, I.kept hk, ⟨_, rfl⟩, q _ ?_ fun a ha => ?_⟩
  · rw [hns, numAt_eq]; exact getD_mem (by rw [List.length_map, Array.length_toList]; omega)
  · rw [hns] at ha
    obtain ⟨j, hj, rfl⟩ := mem_getD ha
    rw [List.length_map, Array.length_toList] at hj
    rw [← numAt_eq]; exact h2 j (by omega)
end
section
variable {X : Cx} {M : List Str} {x : Str} {scope : Scope} {cl : List (Str × Addr)} {C : Addr} {s₀ : Shared} {H₀ : Hp} {fp : List Addr}
theorem ix_list_c : IxR (compCx X M x scope cl C s₀ H₀ fp) (rIxL X.K) := ix_list
theorem ix_tup_c : IxR (compCx X M x scope cl C s₀ H₀ fp) (rIxT X.K) := ix_tup
end
section
variable {X : Cx} {tg : Expr}
def iRng2A (ta : TA) : TI := fun σ H R => ta σ H fun vs H1 => ∃ i j : Int, vs = [.int i, .int j] ∧ R (Itr i (j - i).toNat) H1
theorem rd_rng2A {ta : TA} {σ : St} {H : Hp} {R : It → Hp → Prop} (h : ta σ H fun vs H1 => ∃ i j : Int, vs = [.int i, .int j] ∧ R (Itr i (j - i).toNat) H1) : iRng2A ta σ H R := h
end
end L2

set_option Elab.async false
set_option linter.all false
set_option maxRecDepth 100000
set_option maxHeartbeats 4000000
namespace L2
open PySem PySem.Spec PyProof.Rows
section
variable {X : Cx}
def rBits : V → List V → Hp → VK → Prop := fun x vs H Q => ∃ n : Int, x = .int n ∧ vs = [] ∧ Q (.int ((Builtin.Int.intBits n : Nat) : Int)) H
end
theorem rd_bitsV {K : PySem.W.Frag} {n : Int} {H : Hp} {Q : VK} (h : Q (.int ((Builtin.Int.intBits n : Nat) : Int)) H) : tyV K "int" (.int n) H ∧ rBits (.int n) [] H Q := ⟨rfl, n, rfl, rfl, h⟩
theorem rd_bm0 {K : PySem.W.Frag} {T : String} {r : V → List V → Hp → VK → Prop} {to : TE} {σ : St} {H : Hp} {Q : VK} (h : to σ H fun x H1 => tyV K T x H1 ∧ r x [] H1 Q) : tBM0 K T r to σ H Q := h
theorem rd_ext {K : PySem.W.Frag} {i : Nat} {t : TA} {σ : St} {H : Hp} {Q : VK} {l : Addr} {xs : List V} (e : σ[i]? = some (some (.ref l))) (h : H l = some (.lst xs))
    (g : t σ H fun ys H2 => rExtend (.ref l) ys H2 Q) : tBM K "list" rExtend (tVar i) t σ H Q := ⟨_, e, .inl ⟨rfl, _, SqL.of h⟩, g⟩
theorem rd_gsub {to ti : TE} {t : TSet} {v : V} {σ : St} {H : Hp} {Q : St → Hp → Prop} (h : to σ H fun o H1 => ti σ H1 fun i H2 => t o i v H2 fun H3 => Q σ H3) : gSub to ti t v σ H Q := h
theorem ixN_nat {m k : Nat} (h : k < m) : ixN m (k : Int) = some k := by
  unfold ixN
  rw [if_pos (by omega), if_pos (by omega), Int.toNat_natCast]
theorem rd_setL {p : Addr} {xs : List V} {k : Nat} {v : V} {H : Hp} {Q : Hp → Prop} (h : H p = some (.lst xs)) (hk : k < xs.length) (q : Q (upd H p (.lst (xs.set k v)))) : rSetL (.ref p) (.int (k : Int)) v H Q :=
  ⟨p, xs, k, k, rfl, rfl, h, ixN_nat hk, q⟩
theorem rd_rep {l : Addr} {k : Int} {xs : List V} {H : Hp} {Q : VK} (h : H l = some (.lst xs)) (h0 : 0 ≤ k) (h1 : k < 2 ^ 60) (hz : xs.length * k.toNat ≤ sizeLine) (q : ∀ p, H p = none → Q (.ref p) (upd H p (.lst (List.replicate k.toNat xs).flatten))) : rRep (.ref l) (.int k) H Q :=
  ⟨l, k, xs, rfl, rfl, h, by omega, by omega, hz, q⟩
theorem for_rangeS {lo c : Int} {n : Nat} {g : TG} {tb : TS} {D : Ends} {σ : St} {H : Hp} (Pv : Nat → St → Hp → Prop) (h0 : Pv 0 σ H)
    (hs : ∀ i σ H, i < n → Pv i σ H → g (.int (lo + i * c)) σ H fun σ2 H2 => tb { D with nx := Pv (i + 1), ct := Pv (i + 1), bk := D.nx } σ2 H2) (hd : ∀ σ H, Pv n σ H → D.nx σ H) :
    ∃ W : Nat → Nat → St → Hp → Prop, (∃ m, W 0 m σ H) ∧ ∀ i m σ H, W i m σ H →
      ((ItrS lo c n).stop i H ∧ D.nx σ H) ∨ ((ItrS lo c n).go i H ∧ ∃ N : St → Hp → Prop, (∀ σ' H', N σ' H' → ∃ m', m' < m ∧ W (i + 1) m' σ' H') ∧ ∀ x H', (ItrS lo c n).yld i H x H' → g x σ H' fun σ2 H2 => tb { D with nx := N, ct := N, bk := D.nx } σ2 H2) := by
  refine ⟨fun i m σ H => m = n - i ∧ i ≤ n ∧ Pv i σ H, ⟨n, by simp, Nat.zero_le _, h0⟩, ?_⟩
  rintro i m σ H ⟨rfl, hi, p⟩
  by_cases hlt : i < n
  · refine .inr ⟨hlt, Pv (i + 1), fun σ' H' p' => ⟨n - (i + 1), by omega, rfl, hlt, p'⟩, fun x H' y => ?_⟩
    obtain ⟨e, y⟩ := y
    subst e y
    exact hs i σ _ hlt p
  · have e : i = n := by omega
    subst e
    exact .inl ⟨Nat.le_refl _, hd σ H p⟩
theorem rangeSize_up {i j c : Int} (c0 : 0 < c) : Builtin.Range.rangeSize i j c = if i < j then (j - i - 1) / c + 1 else 0 := by
  unfold Builtin.Range.rangeSize
  rw [if_pos c0]
def tTruI (ta : TE) : TT := fun σ H Q => ta σ H fun x H' => ∃ i : Int, x = .int i ∧ Q (i != 0) H'
theorem rd_truI {i : Int} {H : Hp} {Q : Bool → Hp → Prop} (h : Q (i != 0) H) : ∃ j : Int, V.int i = .int j ∧ Q (j != 0) H := ⟨i, rfl, h⟩
theorem rd_tru {ta : TE} {σ : St} {H : Hp} {Q : Bool → Hp → Prop} (h : ta σ H fun x H' => ∃ i : Int, x = .int i ∧ Q (i != 0) H') : tTruI ta σ H Q := h
section
variable {X : Cx} {M : List Str} {x : Str} {scope : Scope} {cl : List (Str × Addr)} {C : Addr} {s₀ : Shared} {H₀ : Hp} {fp : List Addr}
end
end L2

set_option Elab.async false
set_option linter.all false
set_option maxRecDepth 100000
set_option maxHeartbeats 4000000
namespace L2
open PySem PySem.Spec PyProof.Rows
theorem rd_slice {r : V → Option Int → Option Int → Hp → VK → Prop} {te : TE} {tl th : TO} {σ : St} {H : Hp} {Q : VK} (h : te σ H fun x H1 => tl σ H1 fun l H2 => th σ H2 fun u H3 => r x l u H3 Q) : tSl r te tl th σ H Q := h
theorem rd_slL {K : PySem.W.Frag} {a : Addr} {xs : List V} {lo hi : Option Int} {H : Hp} {Q : VK} (h : SqL K H a xs) (q : ∀ p, H p = none → Q (.ref p) (upd H p (.lst (cutV xs lo hi)))) : rSlL K (.ref a) lo hi H Q := ⟨a, xs, rfl, h, q⟩
theorem rd_part {t : TE} {σ : St} {H : Hp} {Q : Option Int → Hp → Prop} (h : t σ H fun x H1 => ∃ i, x = .int i ∧ Q (some i) H1) : tPart t σ H Q := h
theorem rd_exI {i : Int} {P : Int → Prop} (h : P i) : ∃ j, V.int i = .int j ∧ P j := ⟨i, rfl, h⟩
theorem rd_noPart {σ : St} {H : Hp} {Q : Option Int → Hp → Prop} (h : Q none H) : tNoPart σ H Q := h
end L2

set_option Elab.async false
set_option linter.all false
set_option maxRecDepth 100000
set_option maxHeartbeats 4000000
namespace L2
open PySem PySem.Spec PyProof.Rows
section
variable {X : Cx}
def tLR (ta : TA) : TE := fun σ H Q => ta σ H fun vs H1 => ∃ (i j c : Int) (n : Nat), (vs = [.int i, .int j, .int c] ∨ (vs = [.int i, .int j] ∧ c = 1)) ∧ 0 < c ∧ c < 1073741824 ∧ Builtin.Range.small i j c = true ∧ Builtin.Range.rangeSize i j c = (n : Int) ∧ n ≤ 1000000 ∧
  ∀ l, H1 l = none → Q (.ref l) (upd H1 l (.lst ((List.range n).map fun (k : Nat) => V.int (i + (k : Int) * c))))
theorem vals_of_itemsS {lo c : Int} : ∀ (acc : List Value) (k : Nat), (∀ (j : Nat) (v : Value), acc[j]? = some v → ∃ t, v = .int (lo + ((k + j : Nat) : Int) * c) t) → Vals ((List.range' k acc.length).map fun (i : Nat) => V.int (lo + (i : Int) * c)) acc
  | [], k, _ => .nil
  | v :: acc, k, h => by
    rw [List.length_cons, List.range'_succ, List.map_cons]
    refine .cons ?_ (vals_of_itemsS acc (k + 1) fun j u hu => ?_)
    · obtain ⟨t, ht⟩ := h 0 v (by simp)
      exact ⟨t, by rw [ht]; simp⟩
    · obtain ⟨t, ht⟩ := h (j + 1) u (by simpa using hu)
      exact ⟨t, by rw [ht, show k + (j + 1) = k + 1 + j by omega]⟩
end
theorem rd_lr {ta : TA} {σ : St} {H : Hp} {Q : VK} (h : ta σ H fun vs H1 => ∃ (i j c : Int) (n : Nat), (vs = [.int i, .int j, .int c] ∨ (vs = [.int i, .int j] ∧ c = 1)) ∧ 0 < c ∧ c < 1073741824 ∧ Builtin.Range.small i j c = true ∧ Builtin.Range.rangeSize i j c = (n : Int) ∧ n ≤ 1000000 ∧
  ∀ l, H1 l = none → Q (.ref l) (upd H1 l (.lst ((List.range n).map fun (k : Nat) => V.int (i + (k : Int) * c))))) : tLR ta σ H Q := h
end L2

set_option Elab.async false
set_option linter.all false
set_option maxRecDepth 100000
set_option maxHeartbeats 4000000
namespace L2
open PySem PySem.Spec PyProof.Rows
theorem comp_inv {J : It} {ok : Hp → Prop} {xs : List V} {σ : St} {H : Hp} {Q : VK} {tt : TT} {te : TE} (Wk : Walk J ok xs) (hz : xs.length < sizeLine) (Pv : Addr → Nat → List V → Hp → Prop)
    (h0 : ∀ D, H D = none → Pv D 0 [] (upd H D (.lst [])))
    (hD : ∀ D i ys H2, H D = none → Pv D i ys H2 → H2 D = some (.lst ys) ∧ ys.length ≤ i ∧ ok H2)
    (hs : ∀ D i x ys H2, H D = none → xs[i]? = some x → Pv D i ys H2 → tt (some x :: σ) H2 fun b H4 => if b = true then te (some x :: σ) H4 fun y H5 => H5 D = some (.lst ys) ∧ Pv D (i + 1) (ys ++ [y]) (upd H5 D (.lst (ys ++ [y]))) else Pv D (i + 1) ys H4)
    (h : ∀ D ys H2, H D = none → Pv D xs.length ys H2 → Q (.ref D) H2) : CompR tt te σ Q J H := by
  intro D hD0
  refine ⟨fun i m ys H2 => i ≤ xs.length ∧ m = xs.length - i ∧ Pv D i ys H2, ⟨_, Nat.zero_le _, rfl, h0 D hD0⟩, ?_⟩
  rintro i m ys H2 ⟨hi, rfl, p⟩
  obtain ⟨d1, d2, d3⟩ := hD D i ys H2 hD0 p
  refine ⟨d1, ?_⟩
  by_cases hlt : i < xs.length
  · refine .inr ⟨Wk.go i _ d3 hlt, by omega, xs.length - (i + 1), by omega, fun x H3 hy => ?_⟩
    obtain ⟨e3, ex⟩ := Wk.yld i _ x H3 d3 hy hlt
    subst e3
    have := hs D i x ys H3 hD0 ex p
    refine cast ?_ this
    congr 1
    funext b H4
    cases b with
    | false => simp only [Bool.false_eq_true, if_false]; exact propext ⟨fun z => ⟨hlt, trivial, z⟩, fun z => z.2.2⟩
    | true =>
      simp only [if_true]
      congr 1
      funext y H5
      exact propext ⟨fun z => ⟨z.1, hlt, trivial, z.2⟩, fun z => ⟨z.1, z.2.2.2⟩⟩
  · have e : i = xs.length := by omega
    subst e
    exact .inl ⟨Wk.stop _ _ d3 (Nat.le_refl _), h D ys H2 hD0 p⟩
end L2

set_option Elab.async false
set_option linter.all false
set_option maxRecDepth 100000
set_option maxHeartbeats 4000000
namespace L2
open PySem PySem.Spec PyProof.Rows
section
variable {X : Cx}
section
variable {prog : Program} {w : World} {A : Around} {R : Result → Shared → Prop}
end
end
end L2
namespace L2
open PySem PySem.Spec PyProof.Rows
theorem rd_fld {K : PySem.W.Frag} {ta : TE} {f : Str} {σ : St} {H : Hp} {Q : VK} (h : ta σ H fun x H1 => ∃ a C dx fs v, x = .ref a ∧ H1 a = some (.ins C dx fs) ∧ Cls K C ∧ NoAttr K C f ∧ fs.lookup f = some v ∧ Q v H1) : tFld K ta f σ H Q := h
theorem rd_sfld {K : PySem.W.Frag} {ta tv : TE} {f : Str} {D : Ends} {σ : St} {H : Hp} (h : tv σ H fun y H1 => ta σ H1 fun x H2 => ∃ a C dx fs, x = .ref a ∧ H2 a = some (.ins C dx fs) ∧ Cls K C ∧ NoAttr K C f ∧ fs.length < 1000 ∧ D.nx σ (upd H2 a (.ins C dx (putF f y fs)))) : sFld K ta tv f D σ H := h
theorem rd_meth {C : Addr} {m : Str} {sp : Sp} {ta : TE} {t : TA} {σ : St} {H : Hp} {Q : VK} (h : ta σ H fun x H1 => ∃ a dx fs, x = .ref a ∧ H1 a = some (.ins C dx fs) ∧ fs.lookup m = none ∧ t σ H1 fun vs H2 => sp (x :: (vs ++ [])) H2 Q E0) : tMeth C m sp [] E0 ta t σ H Q := h
end L2

set_option Elab.async false
set_option linter.all false
set_option maxRecDepth 100000
set_option maxHeartbeats 4000000
namespace L2
open PySem PySem.Spec PyProof.Rows
section
variable {X : Cx} {M xs : List Str} {scope : Scope} {cl : List (Str × Addr)} {C : Addr} {s₀ : Shared} {H₀ : Hp} {fp : List Addr}
end
end L2

set_option Elab.async false
set_option linter.all false
set_option maxRecDepth 100000
set_option maxHeartbeats 4000000
namespace L2
open PySem PySem.Spec PyProof.Rows
structure FunD (K : PySem.W.Frag) (x qual : Str) (st : Stmt) (f : Addr) (fd : FuncData) (ds : Array Value) : Prop where
  ex : ∃ (oc : Value) (od : Option Addr) (T : Addr) (to : Obj) (tn : Nat) (kV doc pm : Value) (an : Option Addr) (cdv ct : Value) (osl : Array (Option Value)),
    fd = PySem.W.fnOf x qual (defArgs st) (defBody st) (defScope st) (.ref T) kV doc pm an cdv ct ∧ K.lookup f = some ⟨oc, od, .func fd, osl⟩ ∧ PySem.W.codeIn K cdv qual = true ∧ K.lookup T = some to ∧ to.data = .seq ds tn
  kp : PySem.W.keepIn K (.ref f) = true
section
variable {P : Program} {w : World} {K : PySem.W.Frag} {mg : Str → Option Value} {base : Heap} {x qual : Str} {st : Stmt} {f : Addr} {fd : FuncData} {N ps : List Str} {k : Nat} {sp : Sp} {ds : Array Value}
theorem FunD.ok (F : FunD K x qual st f fd ds) (S : FnScope N ps (defScope st)) (len : ∀ vs H Q E, sp vs H Q E → vs.length = ps.length)
    (hbody : ∀ (cdv : Value) (A : Around) (outer : List Env) (s : Shared) (H : Hp) (vs : List V) (Q : VK) (E : XK), Room k (A.deeper (envOfC qual (defScope st) s.heap.objs.size f cdv)) → sp vs H Q E →
      ∃ t, PSs (cxOf CX0 P w K mg base N qual (defScope st) f cdv A outer s H E).nox (defBody st) t ∧ t { nx := fun _ H' => Q .non H', rt := Q } (start N vs) H) : FnOk P w K mg base CX0 (k + 1) f fd ps sp := by
  obtain ⟨oc, od, T, to, tn, kV, doc, pm, an, cdv, ct, osl, rfl, lk, hcd, _⟩ := F.ex
  refine fn_of lk hcd S len fun A outer s H vs Q E hr hsp => ?_
  obtain ⟨t, h, q⟩ := hbody cdv A outer s H vs Q E hr hsp
  exact ⟨t, h.nox, q⟩
theorem FunD.okE (F : FunD K x qual st f fd ds) (S : FnScope N ps (defScope st)) (len : ∀ vs H Q E, sp vs H Q E → vs.length = ps.length)
    (hbody : ∀ (cdv : Value) (A : Around) (outer : List Env) (s : Shared) (H : Hp) (vs : List V) (Q : VK) (E : XK), Room k (A.deeper (envOfC qual (defScope st) s.heap.objs.size f cdv)) → sp vs H Q E →
      Thr (cxOf (CX1 P w) P w K mg base N qual (defScope st) f cdv A outer s H E) (fun c d _ H' => E c d H') →
      ∃ t, PSs (cxOf (CX1 P w) P w K mg base N qual (defScope st) f cdv A outer s H E) (defBody st) t ∧ t { nx := fun _ H' => Q .non H', rt := Q } (start N vs) H) : FnOk P w K mg base (CX1 P w) (k + 1) f fd ps sp := by
  obtain ⟨oc, od, T, to, tn, kV, doc, pm, an, cdv, ct, osl, rfl, lk, hcd, _⟩ := F.ex
  exact fn_of lk hcd S len fun A outer s H vs Q E hr hsp => hbody cdv A outer s H vs Q E hr hsp thr_fn
theorem FunD.binds (F : FunD K x qual st f fd ds)
    (h : ∀ (T : Addr) (kV doc pm : Value) (an : Option Addr) (cdv ct : Value) (us : List Value), us.length = ps.length → bindArgs (PySem.W.fnOf x qual (defArgs st) (defBody st) (defScope st) (.ref T) kV doc pm an cdv ct) ⟨us, []⟩ = pure (ps.zip us)) : Binds K fd ps [] := by
  obtain ⟨oc, od, T, to, tn, kV, doc, pm, an, cdv, ct, osl, rfl, lk, hcd, _⟩ := F.ex
  exact .all (h T kV doc pm an cdv ct)
/-- fewer arguments than parameters: the last defaults fill up -/
theorem FunD.bindsD {dv : List Value} (n : Nat) (hn : n + dv.length = ps.length) (F : FunD K x qual st f fd ds)
    (h : ∀ (T : Addr) (kV doc pm : Value) (an : Option Addr) (cdv ct : Value) (us : List Value), us.length = n →
      ∃ k : Option (Array Value) → Sem (List (Str × Value)), bindArgs (PySem.W.fnOf x qual (defArgs st) (defBody st) (defScope st) (.ref T) kV doc pm an cdv ct) ⟨us, []⟩ = seqItems? (.ref T) >>= k ∧ k (some ds) = pure (ps.zip (us ++ dv))) : Binds K fd ps dv := by
  obtain ⟨oc, od, T, to, tn, kV, doc, pm, an, cdv, ct, osl, rfl, lk, hcd, ht, hs⟩ := F.ex
  intro s us KX hl
  obtain ⟨k, h1, h2⟩ := h T kV doc pm an cdv ct us (by rw [List.length_append] at hl; omega)
  exact PySem.W.binds_K KX rfl ht hs h1 h2
theorem fun_mkD {oc : Value} {od an : Option Addr} {osl : Array (Option Value)} {kV doc pm cdv ct : Value} {T : Addr} {to : Obj} {tn : Nat} (l : K.lookup f = some ⟨oc, od, .func (PySem.W.fnOf x qual (defArgs st) (defBody st) (defScope st) (.ref T) kV doc pm an cdv ct), osl⟩)
    (c : PySem.W.codeIn K cdv qual = true) (k : PySem.W.keepIn K (.ref f) = true) (t : K.lookup T = some to) (d : to.data = .seq ds tn) : FunD K x qual st f (PySem.W.fnOf x qual (defArgs st) (defBody st) (defScope st) (.ref T) kV doc pm an cdv ct) ds :=
  ⟨⟨oc, od, T, to, tn, kV, doc, pm, an, cdv, ct, osl, rfl, l, c, t, d⟩, k⟩
end
/-- a promise at fewer arguments -/
abbrev spD (dvs : List V) (sp : Sp) : Sp := fun us H Q E => sp (us ++ dvs) H Q E
structure CalD (P : Program) (w : World) (K : PySem.W.Frag) (mg : Str → Option Value) (base : Heap) (CX : CXT) (k : Nat) (x : Str) (ps : List Str) (dvs : List V) (sp : Sp) : Prop where
  ex : ∃ (f : Addr) (fd : FuncData) (ds : List Value), FnOk P w K mg base CX k f fd ps sp ∧ Binds K fd ps ds ∧ Vals dvs ds ∧ PySem.W.keepIn K (.ref f) = true ∧ mg x = some (.ref f)
structure CalID (P : Program) (w : World) (K : PySem.W.Frag) (mg : Str → Option Value) (base : Heap) (CX : CXT) (k : Nat) (x : Str) (C : Addr) (ps : List Str) (dvs : List V) (sp : Sp) : Prop where
  ex : ∃ (f : Addr) (fd : FuncData) (ds : List Value), FnOk P w K mg base CX k f fd ps sp ∧ Binds K fd ps ds ∧ Vals dvs ds ∧ Mk K C f ∧ mg x = some (.ref C)
section
variable {X : Cx} {EE : Value → Option Addr → St → Hp → Prop} {C : Addr} {m x : Str} {k : Nat} {ps : List Str} {dvs : List V} {sp : Sp} {o e : Expr} {es : List Expr} {ta : TE} {t : TA} {apos pos p : Pos}
theorem pe_mkD (O : CalID X.prog X.w X.K X.mg X.base CX0 k x C ps dvs sp) (hr : Room (k + 1) X.A) (hg : Gl X x) (ha : PA X (e :: es) t)
    (hdb : (x == ("__debug__" : Str)) = false := by decide) (he : starEach (e :: es) X.env = (false, eval e X.env) :: starEach es X.env := by rfl) (hpl : (backTo pos (starEach es X.env)).any (·.1) = false := by rfl) :
    PE X (.Call (.Name x p) (e :: es) [] pos) (tMake C sp dvs E0 t) := by
  obtain ⟨f, fd, ds, F, hb, hv, M, hm⟩ := O.ex
  exact pe_make M F hr hg hm hb hv pass0 ha hdb he hpl
theorem pe_calED (T : Thr X EE) (O : CalD X.prog X.w X.K X.mg X.base (CX1 X.prog X.w) k x ps dvs sp) (hr : Room k X.A) (hg : Gl X x) (ha : PA X (e :: es) t)
    (hdb : (x == ("__debug__" : Str)) = false := by decide) (he : starEach (e :: es) X.env = (false, eval e X.env) :: starEach es X.env := by rfl) (hpl : (backTo pos (starEach es X.env)).any (·.1) = false := by rfl) :
    PE X (.Call (.Name x p) (e :: es) [] pos) (tCallE (spD dvs sp) EE t) := by
  intro pins s σ H Q I h
  obtain ⟨f, fd, ds, F, b, hv, kp, m⟩ := O.ex
  refine wpAny_Call_Name_kw (ld_glob I hg m ?_ hdb)
  refine PySem.W.callWith_K (h₀ := X.base) I.ok.mod.kin kp (thn (ha pos pins s σ H _ I h) fun us s1 ⟨vs, H1, I1, r, q⟩ => ⟨I1.kIn, ?_⟩) he hpl
  dsimp only [spD] at q
  rw [List.append_nil] at q
  have r2 : Vals (vs ++ dvs) (us ++ ds) := r.append hv
  have hl : (us ++ ds).length = ps.length := by rw [← r2.length]; exact F.len _ _ _ _ q
  have hb := b s1 us I1.kIn hl
  show wpAny _ _ (call (.ref f) us) _ _ _
  refine wpAny_call (codeAny_mono (F.run X.A X.stack s1 H1 ⟨us, []⟩ (us ++ ds) (vs ++ dvs) Q _ hr I1.env0 hb r2 q) fun z s' hq => ?_)
  cases z with
  | error e => exact T.call pins σ H1 s1 e s' I1 hq
  | ok fl =>
    cases fl with
    | ret u => exact I1.after hq
    | next => exact False.elim hq
    | brk => exact False.elim hq
    | cont => exact False.elim hq
end
section
variable {X : Cx}
end
end L2
namespace L2
open PySem PySem.Spec PyProof.Rows
theorem rd_makeD {C : Addr} {sp : Sp} {dvs : List V} {t : TA} {σ : St} {H : Hp} {Q : VK} (h : t σ H fun vs H1 => ∀ x dx, H1 x = none → H1 dx = none → dx ≠ x → sp (.ref x :: (vs ++ dvs)) (upd (upd H1 dx (.own x)) x (.ins C dx [])) (fun v H2 => v = .non ∧ Q (.ref x) H2) E0) : tMake C sp dvs E0 t σ H Q := h
theorem rd_makeE {C : Addr} {sp : Sp} {EE : XE} {t : TA} {σ : St} {H : Hp} {Q : VK} (h : t σ H fun vs H1 => ∀ x dx, H1 x = none → H1 dx = none → dx ≠ x → sp (.ref x :: (vs ++ [])) (upd (upd H1 dx (.own x)) x (.ins C dx [])) (fun v H2 => v = .non ∧ Q (.ref x) H2) (fun c d H' => EE c d σ H')) : tMakeE C sp EE t σ H Q := h
theorem rd_methE {C : Addr} {m : Str} {sp : Sp} {EE : XE} {ta : TE} {t : TA} {σ : St} {H : Hp} {Q : VK} (h : ta σ H fun x H1 => ∃ a dx fs, x = .ref a ∧ H1 a = some (.ins C dx fs) ∧ fs.lookup m = none ∧ t σ H1 fun vs H2 => sp (x :: (vs ++ [])) H2 Q (fun c d H' => EE c d σ H')) : tMethE C m sp EE ta t σ H Q := h
end L2

set_option Elab.async false
set_option linter.all false
set_option maxRecDepth 100000
set_option maxHeartbeats 4000000
namespace L2
open PySem PySem.Spec PyProof.Rows
def plainV : V → Bool
  | .byt _ => false
  | .flt _ => false
  | _ => true
inductive EqV (K : PySem.W.Frag) (H : Hp) : Nat → V → V → Prop
  | same {n : Nat} {v : V} : plainV v = true → EqV K H n v v
  | lst {n : Nat} {a b : Addr} {xs ys : List V} : SqL K H a xs → SqL K H b ys → xs.length = ys.length → (∀ (i : Nat) x y, xs[i]? = some x → ys[i]? = some y → EqV K H n x y) → EqV K H (n + 1) (.ref a) (.ref b)
  | tup {n : Nat} {a b : Addr} {xs ys : List V} : SqT K H a xs → SqT K H b ys → xs.length = ys.length → (∀ (i : Nat) x y, xs[i]? = some x → ys[i]? = some y → EqV K H n x y) → EqV K H (n + 1) (.ref a) (.ref b)
theorem vals_at : ∀ {xs : List V} {us : List Value} {i : Nat} {u : Value}, Vals xs us → us[i]? = some u → ∃ x, xs[i]? = some x ∧ RelV x u
  | _, _, i, u, .nil, h => by simp at h
  | _, _, 0, u, .cons r _, h => by
    injection h with h
    subst h
    exact ⟨_, rfl, r⟩
  | _, _, i + 1, u, .cons _ rs, h => vals_at (i := i) rs h
section
variable {X : Cx} {pins : List (Addr × Obj)} {σ : St} {H : Hp} {s : Shared}
theorem EqV.at {n : Nat} {x y : V} (h : EqV X.K H n x y) (I : Inv X pins σ H s) : ∀ {A : Around} {u v : Value}, RelV x u → RelV y v → A.units + n < cLine → SeqAt.EqAt A s u v true := by
  induction h with
  | @same n v hp =>
    intro A u u' r r' _
    cases v with
    | non => cases r; cases r'; exact SeqAt.EqAt.same _
    | bl b => cases r; cases r'; exact SeqAt.EqAt.same _
    | int i =>
      obtain ⟨t, rfl⟩ := r
      obtain ⟨t', rfl⟩ := r'
      have := SeqAt.EqAt.int_int (A := A) (s := s) i t i t'
      rwa [beq_self_eq_true] at this
    | str x =>
      obtain ⟨t, rfl⟩ := r
      obtain ⟨t', rfl⟩ := r'
      have := SeqAt.EqAt.str_str (A := A) (s := s) x t x t'
      rwa [beq_self_eq_true] at this
    | byt b => cases hp
    | flt b => cases hp
    | ref a => cases r; cases r'; exact SeqAt.EqAt.same _
    | ty n => cases r; cases r'; exact SeqAt.EqAt.same _
  | @lst n a b xs ys ha hb hl _ ih =>
    intro A u v r r' hu
    cases r
    cases r'
    by_cases e : a = b
    · subst e
      exact SeqAt.EqAt.same _
    obtain ⟨its, r, pl, _⟩ := I.list ha
    obtain ⟨its', r', pl', _⟩ := I.list hb
    have l1 := r.length
    have l2 := r'.length
    have := SeqAt.RcAt.lists (A := A) (e := fun _ => true) pl.isList pl'.isList (by simp; omega) (by omega) fun j k1 k2 => by
      obtain ⟨x, hx, rx⟩ := vals_at r (i := j) (u := its.toArray[j]) (by simp)
      obtain ⟨y, hy, ry⟩ := vals_at r' (i := j) (u := its'.toArray[j]) (by simp)
      exact ih j x y hx hy rx ry (by show A.units + 1 + n < cLine; omega)
    rw [show ((List.range its.toArray.size).all fun _ => true) = true by simp] at this
    exact SeqAt.EqAt.of_refs e this
  | @tup n a b xs ys ha hb hl _ ih =>
    intro A u v r r' hu
    cases r
    cases r'
    by_cases e : a = b
    · subst e
      exact SeqAt.EqAt.same _
    obtain ⟨its, r, pl, _⟩ := I.tuple ha
    obtain ⟨its', r', pl', _⟩ := I.tuple hb
    have l1 := r.length
    have l2 := r'.length
    have := SeqAt.RcAt.tuples (A := A) (e := fun _ => true) pl pl' (by omega) fun j k1 k2 => by
      obtain ⟨x, hx, rx⟩ := vals_at r (i := j) (u := its.toArray[j]) (by simp)
      obtain ⟨y, hy, ry⟩ := vals_at r' (i := j) (u := its'.toArray[j]) (by simp)
      exact ih j x y hx hy rx ry (by show A.units + 1 + n < cLine; omega)
    rw [show ((List.range (min its.toArray.size its'.toArray.size)).all fun _ => true) = true by simp, Bool.true_and, show (its.toArray.size == its'.toArray.size) = true by simp; omega] at this
    exact SeqAt.EqAt.of_refs e this
end
end L2

set_option Elab.async false
set_option linter.all false
set_option maxRecDepth 100000
set_option maxHeartbeats 4000000
namespace L2
open PySem PySem.Spec PyProof.Rows
structure CalL (P : Program) (w : World) (K : PySem.W.Frag) (mg : Str → Option Value) (base : Heap) (CX : CXT) (k : Nat) (m : Str) (ps : List Str) (L : List (Addr × Sp)) : Prop where
  ex : ∀ p ∈ L, Cls K p.1 ∧ ∃ (f : Addr) (fd : FuncData), FnOk P w K mg base CX k f fd ps p.2 ∧ Binds K fd ps [] ∧ Meth K p.1 m f
theorem CalL.nil {P : Program} {w : World} {K : PySem.W.Frag} {mg : Str → Option Value} {base : Heap} {CX : CXT} {k : Nat} {m : Str} {ps : List Str} : CalL P w K mg base CX k m ps [] := ⟨fun p hp => (nomatch hp)⟩
theorem FnOk.up {P : Program} {w : World} {K : PySem.W.Frag} {mg : Str → Option Value} {base : Heap} {CX : CXT} {k j : Nat} {f : Addr} {fd : FuncData} {ps : List Str} {sp : Sp} (F : FnOk P w K mg base CX k f fd ps sp) (h : k ≤ j) : FnOk P w K mg base CX j f fd ps sp :=
  ⟨F.len, fun A outer s H args us vs Q E hr e0 hb r hs => F.run A outer s H args us vs Q E (hr.mono h) e0 hb r hs⟩
theorem CalL.cons {P : Program} {w : World} {K : PySem.W.Frag} {mg : Str → Option Value} {base : Heap} {CX : CXT} {k j : Nat} {m : Str} {ps : List Str} {C : Addr} {sp : Sp} {L : List (Addr × Sp)} (c : Cls K C) (O : CalM P w K mg base CX j C m ps sp) (h : j ≤ k) (r : CalL P w K mg base CX k m ps L) : CalL P w K mg base CX k m ps ((C, sp) :: L) := by
  refine ⟨fun p hp => ?_⟩
  rcases List.mem_cons.mp hp with e | e
  · subst e
    obtain ⟨f, fd, F, hb, M⟩ := O.ex
    exact ⟨c, f, fd, F.up h, hb, M⟩
  · exact r.ex p e
def tMethL (L : List (Addr × Sp)) (m : Str) (ta : TE) (t : TA) : TE := fun σ H Q => ta σ H fun x H1 => ∃ a C dx fs sp, (C, sp) ∈ L ∧ x = .ref a ∧ H1 a = some (.ins C dx fs) ∧ fs.lookup m = none ∧
  t σ H1 fun vs H2 => sp (x :: (vs ++ [])) H2 Q E0
def tMethLE (L : List (Addr × Sp)) (m : Str) (EE : XE) (ta : TE) (t : TA) : TE := fun σ H Q => ta σ H fun x H1 => ∃ a C dx fs sp, (C, sp) ∈ L ∧ x = .ref a ∧ H1 a = some (.ins C dx fs) ∧ fs.lookup m = none ∧
  t σ H1 fun vs H2 => sp (x :: (vs ++ [])) H2 Q (fun c d H' => EE c d σ H')
section
variable {X : Cx} {EE : Value → Option Addr → St → Hp → Prop} {L : List (Addr × Sp)} {m : Str} {k : Nat} {ps : List Str} {o e : Expr} {es : List Expr} {ta : TE} {t : TA} {apos pos : Pos}
theorem pe_mcalL {pl : Sem Bool} (O : CalL X.prog X.w X.K X.mg X.base CX0 k m ps L) (hr : Room k X.A) (he : PE X o ta) (ha : PA X (e :: es) t)
    (hst : starEach (e :: es) X.env = (false, eval e X.env) :: starEach es X.env := by rfl) (hpl : (backTo pos (starEach es X.env)).any (·.1) = false := by rfl)
    (ht : eval (.Call (.Attribute o m apos) (e :: es) [] pos) X.env = (do
      let ov ← eval o X.env
      standAt apos.atName
      let (f, first) ← holding [ov] (getMethod ov m pl)
      callWith pos f first (backTo pos (starEach (e :: es) X.env)) (backToKw pos (keywordEach [] X.env))) := by rfl) :
    PE X (.Call (.Attribute o m apos) (e :: es) [] pos) (tMethL L m ta t) := by
  intro pins s σ H Q I h
  refine PySem.W.methodCall_KW (pl := pl) (thn (he pins s σ H _ I h) fun u s1 ⟨x, H1, I1, rx, a, C, dx, fs, sp, mem, ex, ea, l, q⟩ => ?_) ht
  subst ex
  obtain rfl : u = Value.ref a := rx
  obtain ⟨c, f, fd, F, hb, hm⟩ := O.ex _ mem
  refine getmeth_ok I1 ea c hm l ?_
  refine PySem.W.callWith_K (first := [.ref a]) (h₀ := X.base) I.ok.mod.kin hm.kp (thn (ha pos pins s1 σ H1 _ I1 q) fun us s2 ⟨vs, H2, I2, r, q2⟩ => ⟨I2.kIn, ?_⟩) hst hpl
  exact run_fn (us := .ref a :: us) (vs := .ref a :: vs) F hr hb .nil pass0 I2 (.cons rfl r) q2
theorem pe_mcalL0 {pl : Sem Bool} (O : CalL X.prog X.w X.K X.mg X.base CX0 k m ps L) (hr : Room k X.A) (he : PE X o ta)
    (ht : eval (.Call (.Attribute o m apos) [] [] pos) X.env = (do
      let ov ← eval o X.env
      standAt apos.atName
      let (f, first) ← holding [ov] (getMethod ov m pl)
      callWith pos f first (backTo pos (starEach [] X.env)) (backToKw pos (keywordEach [] X.env))) := by rfl) :
    PE X (.Call (.Attribute o m apos) [] [] pos) (tMethL L m ta tNil) := by
  intro pins s σ H Q I h
  refine PySem.W.methodCall_KW (pl := pl) (thn (he pins s σ H _ I h) fun u s1 ⟨x, H1, I1, rx, a, C, dx, fs, sp, mem, ex, ea, l, q⟩ => ?_) ht
  subst ex
  obtain rfl : u = Value.ref a := rx
  obtain ⟨c, f, fd, F, hb, hm⟩ := O.ex _ mem
  refine getmeth_ok I1 ea c hm l ?_
  exact PySem.W.callWith_K0 (first := [.ref a]) I1.kIn hm.kp (run_fn (us := [.ref a]) (vs := [.ref a]) F hr hb .nil pass0 I1 (.cons rfl .nil) q)
theorem pe_mcalLE {pl : Sem Bool} (T : Thr X EE) (O : CalL X.prog X.w X.K X.mg X.base (CX1 X.prog X.w) k m ps L) (hr : Room k X.A) (he : PE X o ta) (ha : PA X (e :: es) t)
    (hst : starEach (e :: es) X.env = (false, eval e X.env) :: starEach es X.env := by rfl) (hpl : (backTo pos (starEach es X.env)).any (·.1) = false := by rfl)
    (ht : eval (.Call (.Attribute o m apos) (e :: es) [] pos) X.env = (do
      let ov ← eval o X.env
      standAt apos.atName
      let (f, first) ← holding [ov] (getMethod ov m pl)
      callWith pos f first (backTo pos (starEach (e :: es) X.env)) (backToKw pos (keywordEach [] X.env))) := by rfl) :
    PE X (.Call (.Attribute o m apos) (e :: es) [] pos) (tMethLE L m EE ta t) := by
  intro pins s σ H Q I h
  refine PySem.W.methodCall_KW (pl := pl) (thn (he pins s σ H _ I h) fun u s1 ⟨x, H1, I1, rx, a, C, dx, fs, sp, mem, ex, ea, l, q⟩ => ?_) ht
  subst ex
  obtain rfl : u = Value.ref a := rx
  obtain ⟨c, f, fd, F, hb, hm⟩ := O.ex _ mem
  refine getmeth_ok I1 ea c hm l ?_
  refine PySem.W.callWith_K (first := [.ref a]) (h₀ := X.base) I.ok.mod.kin hm.kp (thn (ha pos pins s1 σ H1 _ I1 q) fun us s2 ⟨vs, H2, I2, r, q2⟩ => ⟨I2.kIn, ?_⟩) hst hpl
  exact run_fnE (us := .ref a :: us) (vs := .ref a :: vs) T F hr hb I2 (.cons rfl r) q2
end
theorem rd_methL {L : List (Addr × Sp)} {m : Str} {ta : TE} {t : TA} {σ : St} {H : Hp} {Q : VK} (h : ta σ H fun x H1 => ∃ a C dx fs sp, (C, sp) ∈ L ∧ x = .ref a ∧ H1 a = some (.ins C dx fs) ∧ fs.lookup m = none ∧ t σ H1 fun vs H2 => sp (x :: (vs ++ [])) H2 Q E0) : tMethL L m ta t σ H Q := h
theorem rd_methLE {L : List (Addr × Sp)} {m : Str} {EE : XE} {ta : TE} {t : TA} {σ : St} {H : Hp} {Q : VK} (h : ta σ H fun x H1 => ∃ a C dx fs sp, (C, sp) ∈ L ∧ x = .ref a ∧ H1 a = some (.ins C dx fs) ∧ fs.lookup m = none ∧ t σ H1 fun vs H2 => sp (x :: (vs ++ [])) H2 Q (fun c d H' => EE c d σ H')) : tMethLE L m EE ta t σ H Q := h
end L2

set_option Elab.async false
set_option linter.all false
namespace L2
theorem len1 {α : Type} {us : List α} (h : us.length = 1) : ∃ a0, us = [a0] := by
  match us, h with
  | [a0], _ => exact ⟨a0, rfl⟩
theorem len2 {α : Type} {us : List α} (h : us.length = 2) : ∃ a0 a1, us = [a0, a1] := by
  match us, h with
  | [a0, a1], _ => exact ⟨a0, a1, rfl⟩
theorem len3 {α : Type} {us : List α} (h : us.length = 3) : ∃ a0 a1 a2, us = [a0, a1, a2] := by
  match us, h with
  | [a0, a1, a2], _ => exact ⟨a0, a1, a2, rfl⟩
theorem len4 {α : Type} {us : List α} (h : us.length = 4) : ∃ a0 a1 a2 a3, us = [a0, a1, a2, a3] := by
  match us, h with
  | [a0, a1, a2, a3], _ => exact ⟨a0, a1, a2, a3, rfl⟩
theorem len5 {α : Type} {us : List α} (h : us.length = 5) : ∃ a0 a1 a2 a3 a4, us = [a0, a1, a2, a3, a4] := by
  match us, h with
  | [a0, a1, a2, a3, a4], _ => exact ⟨a0, a1, a2, a3, a4, rfl⟩
end L2

set_option Elab.async false
set_option linter.all false
set_option maxRecDepth 100000
set_option maxHeartbeats 4000000
namespace L2
open PySem PySem.Spec PyProof.Rows
theorem shI3_len {a b c : Int} (ha : a.natAbs.log2 < 1920) (hb : b.natAbs.log2 < 1920) (hc : c.natAbs.log2 < 1920) : (shI [a, b, c]).length ≤ 6000 := by
  have h1 := intT_len ha
  have h2 := intT_len hb
  have h3 := intT_len hc
  unfold shI
  show (tupleText [intT a, intT b, intT c]).length ≤ 6000
  have j := PySem.join_length_add [intT a, intT b, intT c] (by simp)
  rw [PySem.piled_cons, PySem.piled_cons, PySem.piled_cons, PySem.piled_nil] at j
  unfold tupleText
  rw [strLen_append, strLen_append]
  show 1 + _ + 1 ≤ 6000
  omega
theorem rd_jt {K : PySem.W.Frag} {j : Nat} {p : Addr} {a b c : Int} {t : TJ} {out : Str} {σ : St} {H : Hp} {Q : VK} (n : Nat) (hn : out.length ≤ n) (hz : n + 6000 ≤ 100000) (hv : σ[j]? = some (some (.ref p))) (hp : SqT K H p [.int a, .int b, .int c]) (ha : a.natAbs.log2 < 1920) (hb : b.natAbs.log2 < 1920) (hc : c.natAbs.log2 < 1920)
    (h : (out ++ shI [a, b, c]).length ≤ n + 6000 → t (out ++ shI [a, b, c]) σ H Q) : jCons (tFmt K (tVar j)) t out σ H Q := by
  have l := shI3_len ha hb hc
  have e : (out ++ shI [a, b, c]).length ≤ n + 6000 := by rw [strLen_append]; omega
  refine ⟨.ref p, hv, shI [a, b, c], .tup hp (fun i hi => ?_) (fits l (by decide)), shI [a, b, c], rfl, fits e hz, h e⟩
  rcases List.mem_cons.mp hi with z | hi
  · exact z ▸ ha
  rcases List.mem_cons.mp hi with z | hi
  · exact z ▸ hb
  cases List.mem_singleton.mp hi
  exact hc
/-- the promise of an __init__ that keeps a date -/
def spInitD (K : PySem.W.Frag) (C : Addr) (f : Str) : Sp := fun vs H Q _ => ∃ (e p : Addr) (a b c : Int), vs = [.ref e, .ref p] ∧ SqT K H p [.int a, .int b, .int c] ∧ a.natAbs.log2 < 1920 ∧ b.natAbs.log2 < 1920 ∧ c.natAbs.log2 < 1920 ∧ H e = some (ExcN e (.ref C) none) ∧ ∀ d, H d = none → Q .non (upd (upd H d (.xd [(f, .ref p)])) e (ExcN e (.ref C) (some d)))
theorem sqT_new {K : PySem.W.Frag} {H : Hp} {p e : Addr} {o : HO} {xs : List V} (h : SqT K H p xs) (he : H e = none) : SqT K (upd H e o) p xs := by
  rcases h with (h | ⟨u, h⟩) | h
  · exact .inl (.inl (by rw [upd_ne (ne_of_none h he)]; exact h))
  · exact .inl (.inr ⟨u, by rw [upd_ne (ne_of_none h he)]; exact h⟩)
  · exact .inr h
theorem rd_raiseD {K : PySem.W.Frag} {C p : Addr} {a b c : Int} {f : Str} {EE : XE} {ta : TA} {D : Ends} {σ : St} {H : Hp} (hv : ∀ Q : List V → Hp → Prop, Q [.ref p] H → ta σ H Q) (hp : SqT K H p [.int a, .int b, .int c]) (ha : a.natAbs.log2 < 1920) (hb : b.natAbs.log2 < 1920) (hc : c.natAbs.log2 < 1920)
    (h : ∀ d H', Same H H' → H' d = some (.xd [(f, .ref p)]) → EE (.ref C) (some d) σ H') : tRaiseX C (spInitD K C f) EE ta D σ H := by
  refine hv _ ⟨(by show 1 ≤ sizeLine; decide), fun e he => ⟨e, p, a, b, c, rfl, sqT_new hp he, ha, hb, hc, upd_same, fun d hd => ⟨rfl, some d, upd_same, ?_⟩⟩⟩
  have de : d ≠ e := fun z => by subst z; rw [upd_same] at hd; cases hd
  have hd0 : H d = none := by rw [upd_ne de] at hd; exact hd
  refine h d _ (fun b u hb => ?_) ?_
  · rw [era_ne (ne_of_none hb he), upd_ne (ne_of_none hb he), upd_ne (ne_of_none hb hd0), upd_ne (ne_of_none hb he)]; exact hb
  · rw [era_ne de, upd_ne de, upd_same]
section
variable {X : Cx}
end
end L2

set_option Elab.async false
set_option linter.all false
set_option maxRecDepth 100000
set_option maxHeartbeats 4000000
namespace L2
open PySem PySem.Spec PyProof.Rows
section
variable {X : Cx}
end
theorem cut_upto (xs : List V) (k : Nat) : cutV xs none (some (k : Int)) = xs.take k := by
  unfold cutV
  rw [HT.sIx_none, HT.sIx_nat, List.drop_zero, Nat.sub_zero]
  by_cases h : k ≤ xs.length
  · rw [Nat.min_eq_left h]
  · rw [Nat.min_eq_right (by omega), List.take_of_length_le (Nat.le_refl _), List.take_of_length_le (by omega)]
end L2

set_option Elab.async false
set_option linter.all false
set_option maxRecDepth 100000
set_option maxHeartbeats 4000000
namespace L2
open PySem PySem.Spec PyProof.Rows
section
variable {X : Cx}
end
end L2

set_option Elab.async false
set_option linter.all false
set_option maxRecDepth 100000
set_option maxHeartbeats 4000000
namespace L2
open PySem PySem.Spec PyProof.Rows
section
variable {X : Cx}
end
end L2

set_option Elab.async false
set_option linter.all false
set_option maxRecDepth 100000
set_option maxHeartbeats 4000000
namespace L2
open PySem PySem.Spec PyProof.Rows
section
variable {X : Cx} {tg : Expr}
end
structure BE (X : Cx) (e : Expr) (te : TE) : Prop where
  out : PE X e te
structure BS (X : Cx) (st : Stmt) (t : TS) : Prop where
  out : PS X st t
section
variable {X : Cx}
theorem be {e : Expr} {te : TE} (h : PE X e te) : BE X e te := ⟨h⟩
theorem bs {st : Stmt} {t : TS} (h : PS X st t) : BS X st t := ⟨h⟩
end
end L2

set_option Elab.async false
set_option linter.all false
set_option maxRecDepth 100000
set_option maxHeartbeats 4000000
namespace L2
open PySem PySem.Spec PyProof.Rows
inductive CalVs (P : Program) (w : World) (K : PySem.W.Frag) (mg : Str → Option Value) (base : Heap) (k : Nat) : List (Str × Sp) → Prop
  | nil : CalVs P w K mg base k []
  | cons {x : Str} {ps : List Str} {sp : Sp} {L : List (Str × Sp)} : Cal P w K mg base k x ps sp → CalVs P w K mg base k L → CalVs P w K mg base k ((x, sp) :: L)
theorem CalVs.get {P : Program} {w : World} {K : PySem.W.Frag} {mg : Str → Option Value} {base : Heap} {k : Nat} {L : List (Str × Sp)} (h : CalVs P w K mg base k L) {x : Str} {sp : Sp} (hm : (x, sp) ∈ L) : ∃ ps, Cal P w K mg base k x ps sp := by
  induction h with
  | nil => cases hm
  | cons C _ ih =>
    rcases List.mem_cons.mp hm with e | e
    · injection e with e1 e2
      subst e1
      subst e2
      exact ⟨_, C⟩
    · exact ih e
section
variable {X : Cx} {pos : Pos}
end
end L2

set_option Elab.async false
set_option linter.all false
set_option maxRecDepth 100000
set_option maxHeartbeats 4000000
namespace L2
open PySem PySem.Spec PyProof.Rows
section
variable {X : Cx} {pins : List (Addr × Obj)} {σ : St} {H : Hp} {s : Shared} {h' : Heap}
end
section
variable {X : Cx}
end
section
variable {X : Cx}
end
end L2

set_option Elab.async false
set_option linter.all false
set_option maxRecDepth 100000
set_option maxHeartbeats 4000000
namespace L2
open PySem PySem.Spec PyProof.Rows
section
variable {X : Cx}
end
end L2

set_option Elab.async false
set_option linter.all false
set_option maxRecDepth 100000
set_option maxHeartbeats 4000000
namespace L2
open PySem PySem.Spec PyProof.Rows
section
variable {X : Cx}
end
section
variable {X : Cx}
def constInt? : Expr → Option Int
  | .Constant (.int i) _ _ => some i
  | _ => none
def tInts (ns : List Int) : TA := fun _ H Q => Q (ns.map V.int) H
theorem pa_ints : ∀ {es : List Expr} {ns : List Int}, es.map constInt? = ns.map some → PA X es (tInts ns)
  | [], [], _ => pa_nil
  | [], _ :: _, h => nomatch h
  | _ :: _, [], h => nomatch h
  | e :: es, x :: ns, h => by
    rw [List.map_cons, List.map_cons] at h
    injection h with h1 h2
    have ih := pa_ints (es := es) (ns := ns) h2
    unfold constInt? at h1
    split at h1
    · injection h1 with h1
      subst h1
      exact pa_cons pe_int ih rfl
    · cases h1
theorem pe_ints {es : List Expr} {ns : List Int} {pos : Pos} (h : es.map constInt? = ns.map some) : PE X (.List es pos) (tLst (tInts ns)) := pe_lst (pa_ints h)
end
end L2

set_option Elab.async false
set_option linter.all false
set_option maxRecDepth 100000
set_option maxHeartbeats 4000000
namespace L2
open PySem PySem.Spec PyProof.Rows PySem.Builtin PySem.Builtin.Str
section
variable {X : Cx}
end
end L2

set_option Elab.async false
set_option linter.all false
set_option maxRecDepth 100000
set_option maxHeartbeats 4000000
namespace L2
open PySem PySem.Spec PyProof.Rows
section
variable {s : Shared} {A : Around} {w : World} {prog : Program}
theorem lr_ext {R : Result → Shared → Prop} {g : Addr} {x y d : Int} {t1 t2 t3 : Tok} {k : Nat} (ha : A.handled = none) (hg : IsRange s.heap g x y d t1 t2 t3) (big : Builtin.Range.small x y d = false) (ek : Builtin.Range.rangeSize x y d = k) (fits : k ≤ 2 ^ 24) (L : Addr) (res : Value) (m0 : Nat)
    (hL : s.heap.get? L = some { cls := .type "list", data := .seq #[] m0 })
    (fin : ∀ hp tk ys m, (∀ e o, e ≠ L → s.heap.get? e = some o → hp.get? e = some o) → hp.get? L = some { cls := .type "list", dict := none, data := .seq ys m, slots := #[] } → ItemsOf (fun i v => ∃ t, v = .int (x + i * d) t) ys k → R (.ok (.ret res)) { s with heap := hp, toks := tk }) :
    wpAny (model prog w) A.in1 (Builtin.List.listExtendWith (.ref L) (.ref g) res)
      (fun z s' => match z with | .done f => R (.ok f) s' | .again m => m.quiet = true ∧ codeAny (model prog w) A m R s') (fun e s' => R (.error e) s') s := by
  have Lg : L ≠ g := fun z => by rw [z, hg] at hL; simp at hL
  have Ll : L < s.heap.objs.size := Heap.lt_size hL
  have Ln : L ≠ s.heap.objs.size := Nat.ne_of_lt Ll
  have Lm : L ∉ [s.heap.objs.size] := fun z => Ln (List.mem_singleton.mp z)
  have Wl := (Walks.longrange (prog := prog) (w := w) (A := A.in1) ha s.heap.objs.size x d k).toS
  have loop : ∀ (hp : Heap) (m tk : Nat), IsLongIter hp s.heap.objs.size (x + ((0 : Nat) : Int) * d) ((k : Int) - ((0 : Nat) : Int)) d → (∀ e o, e ≠ L → s.heap.get? e = some o → hp.get? e = some o) → hp.get? L = some { cls := .type "list", data := .seq #[] m } →
      codeAny (model prog w) A (.builtin "list.extend.loop" ⟨[.ref L, .ref s.heap.objs.size, res], []⟩) R { s with heap := hp, toks := tk } := fun hp m tk it keep hL1 => by
    refine codeAny_extend_loopS Wl (by rw [sizeLine_eq]; omega) L Lm res k 0 _ #[] m rfl (Nat.zero_le _) it hL1 (ItemsOf.nil _) fun s2 ys m2 mv hL2 hy => ?_
    rw [Moved.eq_with mv]
    refine fin s2.heap s2.toks ys m2 (fun e o ne he => mv.heap e o (fun z => ?_) (keep e o ne he)) hL2 hy
    have el := Heap.lt_size he
    rcases List.mem_cons.mp z with z1 | z1
    · exact ne z1
    · exact absurd el (by rw [List.mem_singleton.mp z1]; exact Nat.lt_irrefl _)
  unfold Builtin.List.listExtendWith; refine wpAny_bind (wpAny_typeOf (T := "range") ⟨_, hg, rfl⟩ ?_)
  have q1 : Builtin.List.listSameRef (.ref L) (.ref g) = false := by unfold Builtin.List.listSameRef; simp [Lg]
  simp only [q1, show (Value.type "range" == Value.type "list") = false by decide, show (Value.type "range" == Value.type "tuple") = false by decide, Bool.or_false, Bool.false_eq_true, if_false]
  refine wpAny_bind (wpAny_pyIter_longrange hg big ?_)
  refine wpAny_bind (wpAny_holding (wpAny_hint_range (n := k) (Heap.get?_push_of_some _ hg) ek fits ?_))
  have it1 : IsLongIter (s.heap.push { cls := .type "longrange_iterator", data := .fields #[rawInt x, rawInt (Builtin.Range.rangeSize x y d), rawInt d] }) s.heap.objs.size (x + ((0 : Nat) : Int) * d) ((k : Int) - ((0 : Nat) : Int)) d := by
    rw [ek]
    show Heap.get? _ _ = _
    simpa using Heap.get?_push_size s.heap rfl
  have L1 := Heap.get?_push_of_some { cls := .type "longrange_iterator", data := .fields #[rawInt x, rawInt (Builtin.Range.rangeSize x y d), rawInt d] } hL
  refine wpAny_ite_split (fun _ => ?_) (fun _ => wpAny_pure ⟨plainId_quiet F.plain_extend_loop _, loop _ m0 _ it1 (fun e o _ he => Heap.get?_push_of_some _ he) L1⟩)
  refine wpAny_bind (wpAny_rule (wpAny_bind ?_))
  show wpAny _ _ (updateSeq L (·.push .none) >>= fun _ => updateSeq L (·.pop)) _ _ _
  refine wpAny_bind (wpAny_updateSeq L1 rfl ?_)
  have L2' := Heap.get?_update_self (Obj.mapSeq (·.push Value.none)) L1 rfl
  refine wpAny_updateSeq (hz := by seq_fits) L2' rfl ?_
  have L3 := Heap.get?_update_self (Obj.mapSeq (·.pop)) L2' rfl
  refine wpAny_pure ⟨plainId_quiet F.plain_extend_loop _, loop _ _ _ ?_ (fun e o ne he => ?_) L3⟩
  · exact (Heap.get?_update_other _ _ Ln).trans ((Heap.get?_update_other _ _ Ln).trans it1)
  · rw [Heap.get?_update_other _ _ (Ne.symm ne), Heap.get?_update_other _ _ (Ne.symm ne)]
    exact Heap.get?_push_of_some _ he
theorem lr_init {R : Result → Shared → Prop} {g : Addr} {x y d : Int} {t1 t2 t3 : Tok} {k : Nat} (ha : A.handled = none) (hg : IsRange s.heap g x y d t1 t2 t3) (big : Builtin.Range.small x y d = false) (ek : Builtin.Range.rangeSize x y d = k) (fits : k ≤ 2 ^ 24) (L : Addr)
    (hL : s.heap.get? L = some { cls := .type "list", data := .seq #[] })
    (fin : ∀ hp tk ys m, (∀ e o, e ≠ L → s.heap.get? e = some o → hp.get? e = some o) → hp.get? L = some { cls := .type "list", dict := none, data := .seq ys m, slots := #[] } → ItemsOf (fun i v => ∃ t, v = .int (x + i * d) t) ys k → R (.ok (.ret .none)) { s with heap := hp, toks := tk }) :
    wpAny (model prog w) A.in1 (Builtin.«list.__init__» ⟨[.ref L, .ref g], []⟩)
      (fun z s' => match z with | .done f => R (.ok f) s' | .again m => m.quiet = true ∧ codeAny (model prog w) A m R s') (fun e s' => R (.error e) s') s := by
  have Lg : L ≠ g := fun z => by rw [z, hg] at hL; simp at hL
  show wpAny _ _ (Builtin.List.listItems (.ref L) >>= fun old => Builtin.List.listUpdate (.ref L) (fun _ => #[]) >>= fun _ => letGo old.toList.reverse >>= fun _ => Builtin.List.listExtendWith (.ref L) (.ref g) .none) _ _ s
  refine wpAny_bind ?_
  unfold Builtin.List.listItems
  refine wpAny_bind (wpAny_seqItems hL rfl (wpAny_pure ?_))
  show wpAny _ _ (updateSeq L (fun _ => #[]) >>= fun _ => letGo (#[] : Array Value).toList.reverse >>= fun _ => Builtin.List.listExtendWith (.ref L) (.ref g) .none) _ _ s
  refine wpAny_bind (wpAny_updateSeq hL rfl ?_)
  have L1 := Heap.get?_update_self (Obj.mapSeq (fun _ => (#[] : Array Value))) hL rfl
  have keep : ∀ e o, e ≠ L → s.heap.get? e = some o → (s.heap.update L (Obj.mapSeq (fun _ => (#[] : Array Value)))).get? e = some o := fun e o ne he => by
    rw [Heap.get?_update_other _ _ (Ne.symm ne)]
    exact he
  refine wpAny_bind (wpAny_letGo (lr_ext ha (keep g _ (Ne.symm Lg) hg) big ek fits L .none _ L1 fun hp tk ys m k1 k2 k3 => ?_))
  exact fin hp tk ys m (fun e o ne he => k1 e o ne (keep e o ne he)) k2 k3
theorem lr_call {E : Value → Shared → Prop} {Q : Value → Shared → Prop} {g : Addr} {x y d : Int} {t1 t2 t3 : Tok} {k : Nat} (ha : A.handled = none) (hg : IsRange s.heap g x y d t1 t2 t3) (ek : Builtin.Range.rangeSize x y d = k) (fits : k ≤ 2 ^ 24)
    (fin : ∀ hp tk ys m, (∀ e o, s.heap.get? e = some o → hp.get? e = some o) → hp.get? s.heap.objs.size = some { cls := .type "list", dict := none, data := .seq ys m, slots := #[] } → ItemsOf (fun i v => ∃ t, v = .int (x + i * d) t) ys k → Q (.ref s.heap.objs.size) { s with heap := hp, toks := tk }) :
    wpAny (model prog w) A (call (.type "list") [.ref g]) Q E s := by
  by_cases sm : Builtin.Range.small x y d = true
  · exact call_list_range ha hg sm ek fits fin
  have big : Builtin.Range.small x y d = false := by simpa using sm
  refine callType_codes (Q₁ := fun u s2 => u = .ref s.heap.objs.size ∧ s2 = { s with heap := s.heap.push { cls := .type "list", data := .seq #[] } }) F.called_list (F.typeCall_list_1 _) F.entry_list_init (code_list_new _ ⟨rfl, rfl⟩) fun u s2 z => ?_
  obtain ⟨rfl, rfl⟩ := z
  have L0 : (s.heap.push { cls := .type "list", data := .seq #[] }).get? s.heap.objs.size = some { cls := .type "list", data := .seq #[] } := Heap.get?_push_size _ rfl
  refine ⟨⟨_, L0, rfl⟩, F.args_list_init_2 _ _, lr_init (A := A.in1) ha (Heap.get?_push_of_some _ hg) big ek fits _ L0 fun hp tk ys m k1 k2 k3 => ⟨rfl, ?_⟩⟩
  refine fin hp tk ys m (fun e o he => k1 e o ?_ (Heap.get?_push_of_some _ he)) k2 k3
  exact Nat.ne_of_lt (Heap.lt_size he)
end
section
variable {X : Cx}
/-- list(range(i, j)) wherever i and j lie, if they are not too far apart -/
def tLRA (ta : TA) : TE := fun σ H Q => ta σ H fun vs H1 => ∃ (i j : Int), vs = [.int i, .int j] ∧ i ≤ j ∧ j - i ≤ 1000000 ∧
  ∀ l, H1 l = none → Q (.ref l) (upd H1 l (.lst ((List.range (j - i).toNat).map fun (k : Nat) => V.int (i + (k : Int)))))
theorem rd_lra {ta : TA} {σ : St} {H : Hp} {Q : VK} (h : ta σ H fun vs H1 => ∃ (i j : Int), vs = [.int i, .int j] ∧ i ≤ j ∧ j - i ≤ 1000000 ∧
  ∀ l, H1 l = none → Q (.ref l) (upd H1 l (.lst ((List.range (j - i).toNat).map fun (k : Nat) => V.int (i + (k : Int)))))) : tLRA ta σ H Q := h
theorem pe_lrangeA {a b : Expr} {ta : TA} {p p2 pos pos2 : Pos} (hc : X.calm = true) (hgl : Gl X "list") (hml : X.mg "list" = none) (hgr : Gl X "range") (hmr : X.mg "range" = none) (ha : PA X [a, b] ta)
    (hs : starEach [a, b] X.env = (false, eval a X.env) :: starEach [b] X.env := by rfl) (hpl : (backTo pos2 (starEach [b] X.env)).any (·.1) = false := by rfl)
    (hs1 : starEach [.Call (.Name "range" p2) [a, b] [] pos2] X.env = (false, eval (.Call (.Name "range" p2) [a, b] [] pos2) X.env) :: starEach [] X.env := by rfl) :
    PE X (.Call (.Name "list" p) [.Call (.Name "range" p2) [a, b] [] pos2] [] pos) (tLRA ta) := by
  intro pins s σ H Q I h
  refine wpAny_Call_Name_kw (ld_blt I hgl hml boot_list ?_ (by decide) (by decide))
  refine PyProof.Rows.callWith_type1 ?_ hs1 rfl
  rw [hs1]
  show wpAny _ _ (spliced ((false, eval _ X.env) :: backTo pos (starEach [] X.env))) _ _ s
  refine Calls.spliced_cons ?_
  refine Call_ (ld_blt I hgr hmr boot_range (PyProof.Rows.callWith_type1 (thn (ha pos2 pins s σ H _ I h) fun us s1 ⟨vs, H1, I1, r1, q1⟩ => ?_) hs hpl))
  obtain ⟨i, j, rfl, ij, hz, q⟩ := q1
  cases r1 with
  | cons r rr =>
    cases rr with
    | cons r' rr =>
      cases rr
      obtain ⟨t, rfl⟩ := r
      obtain ⟨t', rfl⟩ := r'
      refine call_range_2 (Calls.spliced_nil ?_)
      have I2 : Inv X pins σ H1 { s1 with heap := s1.heap.push { cls := .type "range", data := .fields #[.int i t, .int j t', .int 1 s1.toks] }, toks := s1.toks + 1 } := I1.kept fun b o e => Heap.get?_push_of_some _ e
      have en : Builtin.Range.rangeSize i j 1 = (((j - i).toNat : Nat) : Int) := by rw [rangeSize_one]; split <;> omega
      refine lr_call (I2.ok.hd hc) (IsRange.new ..) en (by omega) fun h' tk acc' c' hk hS' hacc => ?_
      have hl : acc'.toList.length = (j - i).toNat := by simpa using hacc.1
      have ef : (fun (k : Nat) => V.int (i + (k : Int))) = fun (k : Nat) => V.int (i + (k : Int) * 1) := by funext k; rw [Int.mul_one]
      rw [ef] at q
      refine ⟨.ref _, _, I2.laid (o := .lst ((List.range (j - i).toNat).map fun (k : Nat) => V.int (i + (k : Int) * 1))) hk (Nat.le_refl _) ⟨?_, acc'.toList, c', ?_, by simpa using hS'⟩, rfl, q _ I2.fresh⟩
      · rw [List.length_map, List.length_range, sizeLine_eq]
        omega
      · have := vals_of_itemsS (lo := i) (c := 1) acc'.toList 0 fun j v hv => by rw [Nat.zero_add]; exact hacc.2 j v (by simpa using hv)
        rw [hl, ← List.range_eq_range'] at this
        exact this
end
end L2

set_option Elab.async false
set_option linter.all false
set_option maxRecDepth 100000
set_option maxHeartbeats 4000000
namespace L2
open PySem PySem.Spec PyProof.Rows
section
variable {X : Cx}
end
end L2

set_option Elab.async false
set_option linter.all false
set_option maxRecDepth 100000
set_option maxHeartbeats 4000000
local macro_rules | `(tactic| walk_at "rd1") => `(tactic| first
  | with_reducible refine L2.rd_seq ?_ | with_reducible refine L2.rd_ret ?_ | with_reducible refine L2.rd_asg ?_ | with_reducible refine L2.rd_ifS ?_ | with_reducible refine L2.rd_next ?_ | with_reducible refine L2.rd_drop ?_
  | with_reducible refine L2.rd_op ?_ | ((with_reducible refine' L2.rd_var ?ev ?_); (case ev => exact rfl)) | with_reducible refine L2.rd_c ?_ | with_reducible refine L2.rd_un ?_ | with_reducible refine L2.rd_test ?_ | with_reducible refine L2.rd_b ?_
  | with_reducible refine L2.rd_i0 ?_ | with_reducible refine L2.rd_u ?_ | ((with_reducible refine' L2.rd_eq ?es ?_); (case es => exact rfl)) | ((with_reducible refine' L2.rd_ne ?es ?_); (case es => exact rfl))
  | with_reducible refine L2.rd_bl ?_ | with_reducible refine L2.rd_not ?_ | with_reducible refine L2.rd_and ?_ | with_reducible refine L2.rd_or ?_ | with_reducible refine L2.rd_andV ?_ | with_reducible refine L2.rd_orV ?_ | with_reducible refine L2.rd_notV ?_ | with_reducible refine L2.rd_chain ?_
  | with_reducible refine L2.rd_call ?_ | with_reducible refine L2.rd_cb ?_ | with_reducible refine L2.rd_nil ?_ | with_reducible refine L2.rd_cons ?_ | with_reducible refine L2.rd_tup ?_ | with_reducible refine L2.rd_lst ?_
  | with_reducible refine L2.rd_bm0 ?_ | with_reducible refine L2.rd_makeD ?_ | with_reducible refine L2.rd_fld ?_ | with_reducible refine L2.rd_sfld ?_ | with_reducible refine L2.rd_meth ?_ | with_reducible refine L2.rd_methL ?_ | with_reducible refine L2.rd_lr ?_ | with_reducible refine L2.rd_lra ?_ | with_reducible refine L2.rd_slice ?_ | with_reducible refine L2.rd_part ?_ | with_reducible refine L2.rd_exI ?_ | with_reducible refine L2.rd_noPart ?_ | with_reducible refine L2.rd_tru ?_ | with_reducible refine L2.rd_truI ?_ | with_reducible refine L2.rd_gsub ?_ | with_reducible refine L2.rd_bitsV ?_
  | with_reducible refine L2.rd_par ?_ | with_reducible refine L2.rd_gname ?_ | with_reducible refine L2.rd_gcons ?_ | with_reducible refine L2.rd_gnil ?_
  | ((with_reducible refine' L2.rd_i ?ec ?_); (case ec => first | ((with_reducible show L2.CPow _ _); exact ⟨by decide, by decide, by decide⟩) | ((with_reducible show L2.CDivB _ _); exact L2.cdiv_small (by decide) (by decide)) | (show (0 : Int) < _; first | decide | omega | exact L2.pow2_pos _))))
local macro_rules | `(tactic| walk_at "rd") => `(tactic| repeat walk_at "rd1")
local macro_rules | `(tactic| walk_at "fm") => `(tactic| (repeat (first | exact List.forall_mem_nil _ | refine List.forall_mem_cons.mpr ⟨by with_unfolding_all rfl, ?_⟩)))
local macro_rules | `(tactic| walk_at "rdi") => `(tactic| ((with_reducible refine' L2.rd_ixT ?hs1 ?he1 ?_); (case hs1 => first | assumption | exact L2.SqT.of (by assumption)); (case he1 => exact rfl)))
local macro_rules | `(tactic| walk_at "rdf") => `(tactic| ((with_reducible refine L2.rd_for ?_); (first | with_reducible refine L2.rd_iL ?_ | with_reducible refine L2.rd_iT ?_ | with_reducible refine L2.rd_rng1 ?_ | with_reducible refine L2.rd_rng2 ?_ | with_reducible refine L2.rd_rng3 ?_ | with_reducible refine L2.rd_rng2A ?_)))
local macro_rules | `(tactic| walk_at "rdx") => `(tactic| (repeat (first | walk_at "rd1" | with_reducible refine L2.rd_callE ?_ | with_reducible refine L2.rd_makeE ?_ | with_reducible refine L2.rd_methE ?_ | with_reducible refine L2.rd_methLE ?_ | with_reducible refine L2.rd_raise ?_ | with_reducible refine L2.rd_try ?_ | with_reducible refine L2.rd_xinit ?_ | with_reducible refine L2.rd_xf1 ?_ | with_reducible refine L2.rd_xf2 ?_ | with_reducible refine L2.rd_join ?_ | with_reducible refine L2.rd_xget ?_ | with_reducible refine L2.rd_ifE ?_)))
namespace Fw
theorem fmod_small (r d : Int) (hd : d ≠ 0) : 0 ≤ r.fmod d * d ∧ (r.fmod d).natAbs < d.natAbs := by
  rcases (by omega : 0 < d ∨ d < 0) with h | h
  · have a := Int.fmod_nonneg_of_pos r h
    have b := Int.fmod_lt_of_pos r h
    exact ⟨Int.mul_nonneg a (Int.le_of_lt h), by omega⟩
  · have e : r.fmod d = -((-r).fmod (-d)) := by
      rw [Int.fmod_def, Int.fmod_def, Int.neg_fdiv_neg, Int.neg_mul]; omega
    have a := Int.fmod_nonneg_of_pos (-r) (b := -d) (by omega)
    have b := Int.fmod_lt_of_pos (-r) (b := -d) (by omega)
    rw [e]
    generalize (-r).fmod (-d) = z at *
    refine ⟨?_, by omega⟩
    have := Int.mul_nonneg a (show 0 ≤ -d by omega)
    rw [Int.neg_mul]; rw [Int.mul_neg] at this; omega

structure EqI (a b u v r u' v' r' : Int) : Prop where
  e1 : u * a + v * b = r
  e2 : u' * a + v' * b = r'
  g : Int.gcd r r' = Int.gcd a b
  ph : (u = 1 ∧ v = 0 ∧ r = a ∧ u' = 0 ∧ v' = 1 ∧ r' = b) ∨
    (b ≠ 0 ∧ r ≠ 0 ∧ 0 ≤ r' * r ∧ r.natAbs ≤ b.natAbs ∧ r'.natAbs ≤ b.natAbs ∧ u'.natAbs * r.natAbs + u.natAbs * r'.natAbs ≤ b.natAbs ∧ u.natAbs ≤ b.natAbs + 1)

theorem EqI.start (a b : Int) : EqI a b 1 0 a 0 1 b := ⟨by omega, by omega, rfl, .inl ⟨rfl, rfl, rfl, rfl, rfl, rfl⟩⟩

theorem natAbs_sub_mul (u q x : Int) : (u - q * x).natAbs ≤ u.natAbs + q.natAbs * x.natAbs := by
  have h := Int.natAbs_sub_le u (q * x)
  rw [Int.natAbs_mul] at h
  exact h

theorem same_sign_quot {r d : Int} (hd : d ≠ 0) (hs : 0 ≤ d * r) : (r - r.fdiv d * d).natAbs + (r.fdiv d).natAbs * d.natAbs = r.natAbs := by
  have e : r.fmod d + r.fdiv d * d = r := Int.fmod_add_fdiv_mul r d
  have e2 : r - r.fdiv d * d = r.fmod d := by omega
  rw [e2, ← Int.natAbs_mul]
  have fs := fmod_small r d hd
  rcases (by omega : 0 < d ∨ d < 0) with h | h
  · have r0 : 0 ≤ r := by
      rcases (by omega : 0 ≤ r ∨ r < 0) with z | z
      · exact z
      · have := Int.mul_neg_of_pos_of_neg h z; omega
    have q0 : 0 ≤ r.fdiv d := Int.fdiv_nonneg r0 (Int.le_of_lt h)
    have a := Int.fmod_nonneg_of_pos r h
    have p := Int.mul_nonneg q0 (Int.le_of_lt h)
    omega
  · have r0 : r ≤ 0 := by
      rcases (by omega : r ≤ 0 ∨ 0 < r) with z | z
      · exact z
      · have := Int.mul_neg_of_neg_of_pos h z; omega
    have q0 : 0 ≤ r.fdiv d := Int.fdiv_nonneg_of_nonpos_of_nonpos r0 (Int.le_of_lt h)
    have a : r.fmod d ≤ 0 := by
      rcases (by omega : r.fmod d ≤ 0 ∨ 0 < r.fmod d) with z | z
      · exact z
      · have := Int.mul_neg_of_pos_of_neg z h; omega
    have p := Int.mul_nonneg q0 (show 0 ≤ -d by omega)
    rw [Int.mul_neg] at p
    omega

theorem EqI.step {a b u v r u' v' r' : Int} (I : EqI a b u v r u' v' r') (h : r' ≠ 0) :
    EqI a b u' v' r' (u - r.fdiv r' * u') (v - r.fdiv r' * v') (r - r.fdiv r' * r') ∧ (r - r.fdiv r' * r').natAbs < r'.natAbs := by
  have e : r.fmod r' + r.fdiv r' * r' = r := Int.fmod_add_fdiv_mul r r'
  have e2 : r - r.fdiv r' * r' = r.fmod r' := by omega
  have fs := fmod_small r r' h
  refine ⟨⟨I.e2, ?_, ?_, ?_⟩, by rw [e2]; exact fs.2⟩
  · have := I.e1
    have := I.e2
    grind
  · rw [Int.gcd_sub_mul_right_right, Int.gcd_comm]
    exact I.g
  · right
    rcases I.ph with ⟨h1, h2, h3, h4, h5, h6⟩ | ⟨hb, hr, hs, l1, l2, l3, l4⟩
    · subst h1 h2 h3 h4 h5 h6
      refine ⟨h, h, by rw [e2]; exact fs.1, Nat.le_refl _, by rw [e2]; omega, ?_, by simp⟩
      simp
    · have q := same_sign_quot h hs
      refine ⟨hb, h, by rw [e2]; exact fs.1, l2, by rw [e2]; omega, ?_, ?_⟩
      · have m := natAbs_sub_mul u (r.fdiv r') u'
        generalize (r - r.fdiv r' * r').natAbs = A at *
        generalize (u - r.fdiv r' * u').natAbs = B at *
        generalize (r.fdiv r').natAbs = C at *
        have k1 : B * r'.natAbs ≤ (u.natAbs + C * u'.natAbs) * r'.natAbs := Nat.mul_le_mul_right _ m
        have k2 : (u.natAbs + C * u'.natAbs) * r'.natAbs + u'.natAbs * A = u.natAbs * r'.natAbs + u'.natAbs * (A + C * r'.natAbs) := by grind
        rw [q] at k2
        omega
      · have : u'.natAbs * 1 ≤ u'.natAbs * r.natAbs := Nat.mul_le_mul_left _ (by omega)
        omega

theorem v_bound {a b u v r : Int} (hb : b ≠ 0) (e : u * a + v * b = r) (l1 : r.natAbs ≤ b.natAbs) (l4 : u.natAbs ≤ b.natAbs + 1) : v.natAbs ≤ 1 + 2 * a.natAbs := by
  have e1 : v * b = r - u * a := by omega
  have h := natAbs_sub_mul r u a
  rw [← e1, Int.natAbs_mul] at h
  have hb' : 0 < b.natAbs := by omega
  have k : u.natAbs * a.natAbs ≤ (b.natAbs + 1) * a.natAbs := Nat.mul_le_mul_right _ l4
  have k2 : a.natAbs * 1 ≤ a.natAbs * b.natAbs := Nat.mul_le_mul_left _ hb'
  have k3 : v.natAbs * b.natAbs ≤ (1 + 2 * a.natAbs) * b.natAbs := by grind
  exact Nat.le_of_mul_le_mul_right k3 hb'

theorem EqI.bounds {a b u v r u' v' r' : Int} (I : EqI a b u v r u' v' r') :
    u.natAbs ≤ b.natAbs + 1 ∧ v.natAbs ≤ 1 + 2 * a.natAbs ∧ u'.natAbs ≤ b.natAbs + 1 ∧ v'.natAbs ≤ 1 + 2 * a.natAbs ∧ r.natAbs ≤ a.natAbs + b.natAbs ∧ r'.natAbs ≤ b.natAbs := by
  rcases I.ph with ⟨h1, h2, h3, h4, h5, h6⟩ | ⟨hb, hr, hs, l1, l2, l3, l4⟩
  · subst h1 h2 h3 h4 h5 h6
    refine ⟨by simp, by simp, by simp, by simp, by omega, by omega⟩
  · have : u'.natAbs * 1 ≤ u'.natAbs * r.natAbs := Nat.mul_le_mul_left _ (by omega)
    have lu : u'.natAbs ≤ b.natAbs + 1 := by omega
    exact ⟨l4, v_bound hb I.e1 l1 l4, lu, v_bound hb I.e2 l2 lu, by omega, l2⟩

theorem quot_bound {r d : Int} (hd : d ≠ 0) : (r.fdiv d).natAbs ≤ r.natAbs + 1 := by
  have e : r.fmod d + r.fdiv d * d = r := Int.fmod_add_fdiv_mul r d
  have fs := (fmod_small r d hd).2
  have h : (r.fdiv d * d).natAbs ≤ r.natAbs + (r.fmod d).natAbs := by omega
  rw [Int.natAbs_mul] at h
  have d1 : 1 ≤ d.natAbs := by omega
  generalize (r.fdiv d).natAbs = x at *
  generalize d.natAbs = y at *
  generalize r.natAbs = z at *
  rcases (by omega : x ≤ 1 ∨ 2 ≤ x) with c | c
  · omega
  · obtain ⟨k, rfl⟩ : ∃ k, x = k + 1 := ⟨x - 1, by omega⟩
    have : (k + 1) * y = k * y + y := Nat.succ_mul k y
    have : k * 1 ≤ k * y := Nat.mul_le_mul_left k d1
    omega
/-- what an equation tells -/
structure Eqn (a b u v g : Int) : Prop where
  eq : u * a + v * b = g
  gd : g = (Int.gcd a b : Int)
  bu : u.natAbs ≤ b.natAbs + 1
  bv : v.natAbs ≤ 1 + 2 * a.natAbs

theorem EqI.done {a b u v r u' v' : Int} (I : EqI a b u v r u' v' 0) : (r < 0 → Eqn a b (-u) (-v) (-r)) ∧ (¬ r < 0 → Eqn a b u v r) := by
  have g := I.g
  rw [Int.gcd_zero_right] at g
  have B := I.bounds
  refine ⟨fun h => ⟨?_, by omega, by omega, by omega⟩, fun h => ⟨I.e1, by omega, B.1, B.2.1⟩⟩
  have := I.e1
  rw [Int.neg_mul, Int.neg_mul]; omega
end Fw

namespace Fw
theorem gcd_pos {a b : Int} (ha : 0 < a) : 0 < (Int.gcd a b : Int) := by
  have : Int.gcd a b ≠ 0 := fun z => by
    have := Int.eq_zero_of_gcd_eq_zero_left z
    omega
  omega
theorem gcd_le {a b : Int} (ha : 0 < a) : (Int.gcd a b : Int) ≤ a := Int.le_of_dvd ha (Int.gcd_dvd_left ..)
/-- a // g * b -/
def lcmI (a b : Int) : Int := a / (Int.gcd a b : Int) * b
theorem lcmI_facts {a b : Int} (ha : 0 < a) (hb : 0 < b) :
    0 < lcmI a b ∧ a ∣ lcmI a b ∧ b ∣ lcmI a b ∧ lcmI a b * (Int.gcd a b : Int) = a * b ∧ (∀ t, a ∣ t → b ∣ t → lcmI a b ∣ t) ∧ lcmI a b = (Int.lcm a b : Int) := by
  have gp := gcd_pos (b := b) ha
  obtain ⟨x, hx⟩ : (Int.gcd a b : Int) ∣ a := Int.gcd_dvd_left ..
  obtain ⟨y, hy⟩ : (Int.gcd a b : Int) ∣ b := Int.gcd_dvd_right ..
  have e1 : a / (Int.gcd a b : Int) = x := by
    have gne : (Int.gcd a b : Int) ≠ 0 := by omega
    generalize hg : (Int.gcd a b : Int) = g at *
    rw [hx]
    exact Int.mul_ediv_cancel_left x gne
  have e : lcmI a b = x * b := by unfold lcmI; rw [e1]
  have pr : lcmI a b * (Int.gcd a b : Int) = a * b := by rw [e]; conv => rhs; rw [hx]
                                                         grind
  have pl : (Int.lcm a b : Int) * (Int.gcd a b : Int) = a * b := by
    have h := Int.gcd_mul_lcm a b
    have h2 : ((Int.gcd a b * Int.lcm a b : Nat) : Int) = ((a.natAbs * b.natAbs : Nat) : Int) := by rw [h]
    rw [Int.natCast_mul, Int.natCast_mul, Int.natAbs_of_nonneg (Int.le_of_lt ha), Int.natAbs_of_nonneg (Int.le_of_lt hb)] at h2
    rw [Int.mul_comm]; exact h2
  have el : lcmI a b = (Int.lcm a b : Int) := Int.eq_of_mul_eq_mul_right (by omega : (Int.gcd a b : Int) ≠ 0) (pr.trans pl.symm)
  refine ⟨?_, ?_, ?_, pr, ?_, el⟩
  · have : 0 < lcmI a b * (Int.gcd a b : Int) := by rw [pr]; exact Int.mul_pos ha hb
    exact Int.pos_of_mul_pos_left this gp
  · rw [el]; exact Int.dvd_lcm_left ..
  · rw [el]; exact Int.dvd_lcm_right ..
  · intro t h1 h2; rw [el]; exact Int.coe_lcm_dvd h1 h2
theorem lcmI_le {a b : Int} (ha : 0 < a) (hb : 0 < b) : lcmI a b ≤ a * b := by
  have f := lcmI_facts ha hb
  have gp := gcd_pos (b := b) ha
  have h : lcmI a b * 1 ≤ lcmI a b * (Int.gcd a b : Int) := Int.mul_le_mul_of_nonneg_left (by omega) (Int.le_of_lt f.1)
  rw [f.2.2.2.1] at h; omega
end Fw

namespace Fw
def On (n : Int) (b : Nat) (d : Int) : Bool := b.testBit (d % n).toNat
theorem shr_cast (b k : Nat) : ((b : Nat) : Int) / 2 ^ k = ((b >>> k : Nat) : Int) := by
  rw [Nat.shiftRight_eq_div_pow, Int.natCast_ediv, Int.natCast_pow]; rfl
theorem shl_cast (b k : Nat) : ((b : Nat) : Int) * 2 ^ k = ((b <<< k : Nat) : Int) := by
  rw [Nat.shiftLeft_eq, Int.natCast_mul, Int.natCast_pow]; rfl
theorem pow_cast (k : Nat) : (1 : Int) * 2 ^ k = ((2 ^ k : Nat) : Int) := by
  rw [Int.natCast_pow]; simp
theorem bits_ext {w b c : Nat} (hb : b < 2 ^ w) (hc : c < 2 ^ w) (h : ∀ i, i < w → b.testBit i = c.testBit i) : b = c := by
  refine Nat.eq_of_testBit_eq fun i => ?_
  by_cases hi : i < w
  · exact h i hi
  · have p : 2 ^ w ≤ 2 ^ i := Nat.pow_le_pow_right (by decide) (by omega)
    rw [Nat.testBit_lt_two_pow (by omega), Nat.testBit_lt_two_pow (by omega)]
theorem high {n b i : Nat} (hb : b < 2 ^ n) (h : n ≤ i) : b.testBit i = false := by
  have p : 2 ^ n ≤ 2 ^ i := Nat.pow_le_pow_right (by decide) h
  exact Nat.testBit_lt_two_pow (by omega)
structure Strt (n b w c : Nat) : Prop where
  lt : c < 2 ^ w
  bit : ∀ i, i < w → c.testBit i = b.testBit (i % n)
theorem Strt.start {n b : Nat} (h : b < 2 ^ n) : Strt n b n b := ⟨h, fun i hi => by rw [Nat.mod_eq_of_lt hi]⟩
theorem Strt.uniq {n b w c c' : Nat} (S : Strt n b w c) (S' : Strt n b w c') : c = c' := bits_ext S.lt S'.lt fun i hi => by rw [S.bit i hi, S'.bit i hi]
theorem Strt.on {n m : Int} {b c : Nat} (hn : 0 < n) (hm : 0 < m) (hd : n ∣ m) (S : Strt n.toNat b m.toNat c) (d : Int) : On m c d = On n b d := by
  unfold On
  have h1 := Int.emod_nonneg d (show m ≠ 0 by omega)
  have h2 := Int.emod_lt_of_pos d hm
  rw [S.bit _ (by omega)]
  congr 1
  have e : (d % m) % n = d % n := Int.emod_emod_of_dvd d hd
  have h3 := Int.emod_nonneg d (show n ≠ 0 by omega)
  have k : (((d % m).toNat % n.toNat : Nat) : Int) = d % m % n := by
    rw [Int.natCast_emod]
    have a1 : ((d % m).toNat : Int) = d % m := by omega
    have a2 : (n.toNat : Int) = n := by omega
    rw [a1, a2]
  rw [e] at k
  omega
end Fw

namespace Fw
abbrev Tm := Int × Int × Int × Int
structure OkT (t : Tm) : Prop where
  sg : t.1 = 1 ∨ t.1 = -1
  n0 : 1 ≤ t.2.2.2
  n1 : t.2.2.2 ≤ 1000
  a0 : 0 ≤ t.2.1
  a1 : t.2.1 ≤ t.2.2.2
  b0 : 0 ≤ t.2.2.1
  b1 : t.2.2.1 < t.2.2.2
/-- the term is on in k -/
def onT (t : Tm) (k : Int) : Bool := decide (t.2.2.2 ≤ (t.2.1 * k + t.2.2.1) % t.2.2.2 + t.2.1)
/-- counted up to k -/
def ctT (t : Tm) (k : Int) : Int := (t.2.1 * k + t.2.2.1) / t.2.2.2
def SU (ts : List Tm) (k : Int) : Int := (ts.map fun t => t.1 * ctT t k).sum
def UP (base : Int) (ts : List Tm) (k : Int) : Int := base * k + SU ts k
def ONS (ts : List Tm) (k : Int) : Int := ((ts.filter fun t => onT t k).map fun t => t.1).sum
def AT (base : Int) (ts : List Tm) (k : Int) : Int := base + ONS ts k
def falls (ts : List Tm) : Int := ((ts.filter fun t => decide (t.1 = -1)).length : Int)
theorem ct_step {t : Tm} (h : OkT t) (k : Int) : ctT t (k + 1) = ctT t k + (if onT t k = true then 1 else 0) := by
  unfold ctT onT
  obtain ⟨s, a, b, n⟩ := t
  have n0 := h.n0
  have a0 := h.a0
  have a1 := h.a1
  dsimp only at n0 a0 a1 ⊢
  have e : a * (k + 1) + b = a * k + b + a := by rw [Int.mul_add, Int.mul_one]; omega
  rw [e]
  generalize a * k + b = y
  have q := Int.mul_ediv_add_emod y n
  have r0 := Int.emod_nonneg y (show n ≠ 0 by omega)
  have r1 := Int.emod_lt_of_pos y (show 0 < n by omega)
  by_cases c : n ≤ y % n + a
  · rw [decide_eq_true c, if_pos rfl]
    have h : y + a = n * (y / n + 1) + (y % n + a - n) := by rw [Int.mul_add, Int.mul_one]; omega
    conv => lhs; rw [h]
    rw [Int.mul_add_ediv_left _ _ (by omega), Int.ediv_eq_zero_of_lt (a := y % n + a - n) (b := n) (by omega) (by omega)]
    omega
  · rw [decide_eq_false c, if_neg Bool.false_ne_true]
    have h : y + a = n * (y / n) + (y % n + a) := by omega
    conv => lhs; rw [h]
    rw [Int.mul_add_ediv_left _ _ (by omega), Int.ediv_eq_zero_of_lt (a := y % n + a) (b := n) (by omega) (by omega)]
theorem ct_zero {t : Tm} (h : OkT t) : ctT t 0 = 0 := by
  unfold ctT
  rw [Int.mul_zero, Int.zero_add]
  exact Int.ediv_eq_zero_of_lt h.b0 h.b1
theorem SU_step : ∀ {ts : List Tm} (_ : ∀ t ∈ ts, OkT t) (k : Int), SU ts (k + 1) = SU ts k + ONS ts k
  | [], _, k => rfl
  | t :: ts, h, k => by
    have ih := SU_step (ts := ts) (fun x hx => h x (List.mem_cons_of_mem _ hx)) k
    have s := ct_step (h t List.mem_cons_self) k
    unfold SU ONS at *
    rw [List.map_cons, List.map_cons, List.sum_cons, List.sum_cons, ih, s, List.filter_cons]
    by_cases c : onT t k = true
    · rw [if_pos c, if_pos c, List.map_cons, List.sum_cons, Int.mul_add, Int.mul_one]
      omega
    · rw [if_neg c, if_neg c, Int.add_zero]
      omega
theorem SU_zero : ∀ {ts : List Tm} (_ : ∀ t ∈ ts, OkT t), SU ts 0 = 0
  | [], _ => rfl
  | t :: ts, h => by
    have ih := SU_zero (ts := ts) (fun x hx => h x (List.mem_cons_of_mem _ hx))
    unfold SU at *
    rw [List.map_cons, List.sum_cons, ih, ct_zero (h t List.mem_cons_self)]
    simp
theorem ONS_low : ∀ {ts : List Tm} (_ : ∀ t ∈ ts, OkT t) (k : Int), -falls ts ≤ ONS ts k
  | [], _, k => by show (-((0 : Nat) : Int)) ≤ 0; omega
  | t :: ts, h, k => by
    have ih := ONS_low (ts := ts) (fun x hx => h x (List.mem_cons_of_mem _ hx)) k
    have sg := (h t List.mem_cons_self).sg
    unfold falls ONS at *
    rw [List.filter_cons, List.filter_cons]
    by_cases c : onT t k = true
    · rw [if_pos c, List.map_cons, List.sum_cons]
      rcases sg with z | z
      · rw [if_neg (by rw [decide_eq_true_eq]; omega)]
        omega
      · rw [if_pos (decide_eq_true z), List.length_cons]
        omega
    · rw [if_neg c]
      split
      · rw [List.length_cons]
        omega
      · omega
theorem UP_step {base : Int} {ts : List Tm} (h : ∀ t ∈ ts, OkT t) (k : Int) : UP base ts (k + 1) = UP base ts k + AT base ts k := by
  unfold UP AT
  rw [SU_step h, Int.mul_add, Int.mul_one]
  omega
theorem UP_zero {base : Int} {ts : List Tm} (h : ∀ t ∈ ts, OkT t) : UP base ts 0 = 0 := by
  unfold UP
  rw [SU_zero h, Int.mul_zero]
  rfl
theorem UP_mono {base : Int} {ts : List Tm} (h : ∀ t ∈ ts, OkT t) (hf : falls ts ≤ base) {j k : Int} (jk : j ≤ k) : UP base ts j ≤ UP base ts k := by
  have : ∀ m : Nat, UP base ts j ≤ UP base ts (j + (m : Int)) := by
    intro m
    induction m with
    | zero => simp
    | succ m ih =>
      have e := UP_step (base := base) h (j + (m : Int))
      have l := ONS_low h (j + (m : Int))
      unfold AT at e
      rw [show j + ((m + 1 : Nat) : Int) = j + (m : Int) + 1 by omega, e]
      omega
  have := this (k - j).toNat
  rwa [show j + ((k - j).toNat : Int) = k by omega] at this
theorem ct_per {t : Tm} (h : OkT t) {P : Int} (hd : t.2.2.2 ∣ P) (k q : Int) : ctT t (k + P * q) = ctT t k + q * ctT t P := by
  have n0 := h.n0
  obtain ⟨c, rfl⟩ := hd
  unfold ctT
  obtain ⟨s, a, b, n⟩ := t
  dsimp only at n0 ⊢
  have b0 := h.b0
  have b1 := h.b1
  dsimp only at b0 b1
  have e1 : a * (k + n * c * q) + b = a * k + b + n * (a * (c * q)) := by
    rw [Int.mul_add, show a * (n * c * q) = n * (a * (c * q)) by rw [Int.mul_assoc, Int.mul_left_comm]]
    omega
  have e2 : a * (n * c) + b = b + n * (a * c) := by rw [Int.mul_left_comm]; omega
  rw [e1, e2, Int.add_mul_ediv_left _ _ (by omega), Int.add_mul_ediv_left _ _ (by omega), Int.ediv_eq_zero_of_lt b0 b1, Int.zero_add]
  congr 1
  rw [Int.mul_left_comm q a c, Int.mul_comm q c]
theorem SU_per : ∀ {ts : List Tm} (_ : ∀ t ∈ ts, OkT t) {P : Int} (_ : ∀ t ∈ ts, t.2.2.2 ∣ P) (k q : Int), SU ts (k + P * q) = SU ts k + q * SU ts P
  | [], _, P, _, k, q => by unfold SU; simp
  | t :: ts, h, P, hd, k, q => by
    have ih := SU_per (ts := ts) (fun x hx => h x (List.mem_cons_of_mem _ hx)) (P := P) (fun x hx => hd x (List.mem_cons_of_mem _ hx)) k q
    have s := ct_per (h t List.mem_cons_self) (hd t List.mem_cons_self) k q
    unfold SU at *
    rw [List.map_cons, List.map_cons, List.map_cons, List.sum_cons, List.sum_cons, List.sum_cons, ih, s, Int.mul_add, Int.mul_add, Int.mul_left_comm t.1 q]
    omega
theorem UP_per {base : Int} {ts : List Tm} (h : ∀ t ∈ ts, OkT t) {P : Int} (hd : ∀ t ∈ ts, t.2.2.2 ∣ P) (k q : Int) : UP base ts (k + P * q) = UP base ts k + q * UP base ts P := by
  unfold UP
  rw [SU_per h hd, Int.mul_add, Int.mul_add, show base * (P * q) = q * (base * P) by rw [← Int.mul_assoc, Int.mul_comm]]
  omega
theorem ct_le {t : Tm} (h : OkT t) {k : Int} (k0 : 0 ≤ k) : 0 ≤ ctT t k ∧ ctT t k ≤ k := by
  have n0 := h.n0
  have a0 := h.a0
  have b0 := h.b0
  have b1 := h.b1
  have p0 : 0 ≤ t.2.1 * k := Int.mul_nonneg a0 k0
  have p1 : t.2.1 * k ≤ t.2.2.2 * k := Int.mul_le_mul_of_nonneg_right h.a1 k0
  unfold ctT
  refine ⟨Int.ediv_nonneg (by omega) (by omega), ?_⟩
  have : (t.2.1 * k + t.2.2.1) / t.2.2.2 < k + 1 := by
    rw [Int.ediv_lt_iff_lt_mul (by omega), Int.add_mul, Int.one_mul, Int.mul_comm k]
    omega
  omega
theorem SU_le : ∀ {ts : List Tm} (_ : ∀ t ∈ ts, OkT t) {k : Int} (_ : 0 ≤ k), -((ts.length : Int) * k) ≤ SU ts k ∧ SU ts k ≤ (ts.length : Int) * k
  | [], _, k, _ => by unfold SU; simp
  | t :: ts, h, k, k0 => by
    have ih := SU_le (ts := ts) (fun x hx => h x (List.mem_cons_of_mem _ hx)) k0
    have c := ct_le (h t List.mem_cons_self) k0
    have sg := (h t List.mem_cons_self).sg
    unfold SU at *
    rw [List.map_cons, List.sum_cons, List.length_cons, Int.natCast_add, Int.add_mul]
    have e1 : ((1 : Nat) : Int) * k = k := by simp
    rcases sg with z | z
    · rw [z, Int.one_mul]
      omega
    · rw [z, show (-1 : Int) * ctT t k = -ctT t k by omega]
      omega
/-- the least number that the n of all terms divide -/
def PER (ts : List Tm) : Int := ts.foldl (fun p t => lcmI p t.2.2.2) 1
end Fw

namespace Fw
theorem UP_pos {base : Int} {ts : List Tm} (h : ∀ t ∈ ts, OkT t) (hf : falls ts < base) {P : Int} (P0 : 0 < P) : 0 < UP base ts P := by
  have m := UP_mono h (Int.le_refl (falls ts)) (show (0 : Int) ≤ P by omega)
  rw [UP_zero h] at m
  unfold UP at *
  have : (falls ts + 1) * P ≤ base * P := Int.mul_le_mul_of_nonneg_right (by omega) (by omega)
  rw [Int.add_mul, Int.one_mul] at this
  omega
theorem ct_neg {t : Tm} (h : OkT t) {k : Int} (k0 : k ≤ 0) : k ≤ ctT t k ∧ ctT t k ≤ 0 := by
  have n0 := h.n0
  have a0 := h.a0
  have b0 := h.b0
  have b1 := h.b1
  have p0 : t.2.1 * k ≤ 0 := Int.mul_nonpos_of_nonneg_of_nonpos a0 k0
  have p1 : t.2.2.2 * k ≤ t.2.1 * k := Int.mul_le_mul_of_nonpos_right h.a1 k0
  unfold ctT
  constructor
  · rw [Int.le_ediv_iff_mul_le (by omega), Int.mul_comm]
    omega
  · have : (t.2.1 * k + t.2.2.1) / t.2.2.2 < 1 := by
      rw [Int.ediv_lt_iff_lt_mul (by omega), Int.one_mul]
      omega
    omega
theorem SU_neg : ∀ {ts : List Tm} (_ : ∀ t ∈ ts, OkT t) {k : Int} (_ : k ≤ 0), (ts.length : Int) * k ≤ SU ts k ∧ SU ts k ≤ -((ts.length : Int) * k)
  | [], _, k, _ => by unfold SU; simp
  | t :: ts, h, k, k0 => by
    have ih := SU_neg (ts := ts) (fun x hx => h x (List.mem_cons_of_mem _ hx)) k0
    have c := ct_neg (h t List.mem_cons_self) k0
    have sg := (h t List.mem_cons_self).sg
    unfold SU at *
    rw [List.map_cons, List.sum_cons, List.length_cons, Int.natCast_add, Int.add_mul]
    have e1 : ((1 : Nat) : Int) * k = k := by simp
    rcases sg with z | z
    · rw [z, Int.one_mul]
      omega
    · rw [z, show (-1 : Int) * ctT t k = -ctT t k by omega]
      omega
theorem UP_abs {b : Int} {ts : List Tm} (h : ∀ t ∈ ts, OkT t) (b0 : 0 ≤ b) (b1 : b ≤ 20000) (few : ts.length ≤ 6) {k K : Int} (h0 : -K ≤ k) (h1 : k ≤ K) : -(20006 * K) ≤ UP b ts k ∧ UP b ts k ≤ 20006 * K := by
  unfold UP
  rcases Int.lt_or_le k 0 with c | c
  · obtain ⟨s1, s2⟩ := SU_neg h (show k ≤ 0 by omega)
    have m1 : 20000 * k ≤ b * k := Int.mul_le_mul_of_nonpos_right b1 (by omega)
    have m2 : b * k ≤ 0 := Int.mul_nonpos_of_nonneg_of_nonpos b0 (by omega)
    have m3 : 6 * k ≤ (ts.length : Int) * k := Int.mul_le_mul_of_nonpos_right (by omega) (by omega)
    omega
  · obtain ⟨s1, s2⟩ := SU_le h c
    have m1 : b * k ≤ 20000 * k := Int.mul_le_mul_of_nonneg_right b1 c
    have m2 : 0 ≤ b * k := Int.mul_nonneg b0 c
    have m3 : (ts.length : Int) * k ≤ 6 * k := Int.mul_le_mul_of_nonneg_right (by omega) c
    omega
end Fw

namespace Fw
theorem AT_high {ts : List Tm} (h : ∀ t ∈ ts, OkT t) (k : Int) : ONS ts k ≤ (ts.length : Int) := by
  unfold ONS
  induction ts with
  | nil => exact Int.le_refl 0
  | cons t ts ih =>
    have i := ih fun x hx => h x (List.mem_cons_of_mem _ hx)
    have sg := (h t List.mem_cons_self).sg
    rw [List.filter_cons, List.length_cons]
    split
    · rw [List.map_cons, List.sum_cons]
      omega
    · omega
end Fw

namespace Fw
theorem sum_le : ∀ {ls : List Int}, (∀ n ∈ ls, 0 ≤ n ∧ n ≤ 1000) → 0 ≤ ls.sum ∧ ls.sum ≤ 1000 * (ls.length : Int)
  | [], _ => by simp
  | a :: ls, h => by
    have i := sum_le (ls := ls) fun n hn => h n (List.mem_cons_of_mem _ hn)
    have := h a List.mem_cons_self
    rw [List.sum_cons, List.length_cons]
    omega
theorem sum_set : ∀ {ls : List Int} {i : Nat} {e : Int}, i < ls.length → (ls.set i (ls.getD i 0 + e)).sum = ls.sum + e
  | [], i, e, h => by simp at h
  | a :: ls, 0, e, _ => by
    show (a + e) + ls.sum = (a :: ls).sum + e
    rw [List.sum_cons]
    omega
  | a :: ls, i + 1, e, h => by
    have ih := sum_set (ls := ls) (i := i) (e := e) (by simpa using h)
    show a + (ls.set i (ls.getD i 0 + e)).sum = (a :: ls).sum + e
    rw [ih, List.sum_cons]
    omega
def LENS (ls : List Int) (lp : Int) (ts : List Tm) (y : Int) : List Int := ls.set (lp - 1).toNat (ls.getD (lp - 1).toNat 0 + ONS ts y)
structure GoodS (ls : List Int) (lp : Int) (ts : List Tm) : Prop where
  l0 : 1 ≤ ls.length
  l1 : ls.length ≤ 20
  m : ∀ n ∈ ls, 0 ≤ n ∧ n ≤ 1000
  p0 : 1 ≤ lp
  p1 : lp ≤ (ls.length : Int)
  f0 : falls ts ≤ ls.getD (lp - 1).toNat 0
  f1 : falls ts < ls.sum
  ok : ∀ t ∈ ts, OkT t
  few : ts.length ≤ 6
theorem GoodS.sum {ls : List Int} {lp : Int} {ts : List Tm} (g : GoodS ls lp ts) : 0 ≤ ls.sum ∧ ls.sum ≤ 20000 := by
  have := sum_le g.m
  have := g.l1
  omega
theorem LENS_sum {ls : List Int} {lp : Int} {ts : List Tm} (g : GoodS ls lp ts) (y : Int) : (LENS ls lp ts y).sum = AT ls.sum ts y := by
  have p0 := g.p0
  have p1 := g.p1
  unfold LENS AT
  exact sum_set (by omega)
theorem getD_mem' {ls : List Int} {i : Nat} (h : i < ls.length) : ls.getD i 0 ∈ ls := by
  rw [List.getD_eq_getElem?_getD, List.getElem?_eq_getElem h]
  exact List.getElem_mem h
theorem LENS_mem {ls : List Int} {lp : Int} {ts : List Tm} (g : GoodS ls lp ts) (y : Int) : ∀ n ∈ LENS ls lp ts y, 0 ≤ n ∧ n ≤ 1006 := by
  intro n hn
  have p0 := g.p0
  have p1 := g.p1
  unfold LENS at hn
  rcases List.mem_or_eq_of_mem_set hn with z | z
  · have := g.m n z
    omega
  · have := g.m _ (getD_mem' (ls := ls) (i := (lp - 1).toNat) (by omega))
    have l := ONS_low g.ok y
    have u := AT_high g.ok y
    have := g.few
    have := g.f0
    omega
theorem LENS_len {ls : List Int} {lp : Int} {ts : List Tm} {y : Int} : (LENS ls lp ts y).length = ls.length := by
  unfold LENS
  rw [List.length_set]
end Fw

namespace Fw
theorem UP_less {b : Int} {ts : List Tm} {k : Int} : UP b ts k = UP (b - 1) ts k + k := by
  unfold UP
  rw [Int.sub_mul, Int.one_mul]
  omega
theorem UP_lt {b : Int} {ts : List Tm} (h : ∀ t ∈ ts, OkT t) (hf : falls ts < b) {j k : Int} (jk : j < k) : UP b ts j < UP b ts k := by
  have := UP_mono h (show falls ts ≤ b - 1 by omega) (Int.le_of_lt jk)
  rw [UP_less (b := b), UP_less (b := b) (k := k)]
  omega
theorem seek_small {b : Int} {ts : List Tm} (h : ∀ t ∈ ts, OkT t) (hf : falls ts < b) {n k : Int} (u1 : UP b ts k ≤ n) (u2 : n < UP b ts (k + 1)) : k.natAbs ≤ n.natAbs := by
  have z := UP_zero (base := b - 1) h
  rw [UP_less] at u1 u2
  rcases Int.lt_or_le k 0 with c | c
  · have := UP_mono h (show falls ts ≤ b - 1 by omega) (show k + 1 ≤ 0 by omega)
    omega
  · have := UP_mono h (show falls ts ≤ b - 1 by omega) c
    omega
structure GoodMo (bd : Int) (td : List Tm) (bm : Int) (tm : List Tm) : Prop where
  fd : falls td < bd
  gd : bd ≤ 1000
  fm : falls tm < bm
  gm : bm ≤ 20
  okd : ∀ t ∈ td, OkT t
  okm : ∀ t ∈ tm, OkT t
  fwd : td.length ≤ 6
  fwm : tm.length ≤ 6
def MYS (s bd : Int) (td : List Tm) (bm : Int) (tm : List Tm) (y : Int) : Int := s + UP bd td (UP bm tm y)
def MLEN (bd : Int) (td : List Tm) (bm : Int) (tm : List Tm) (y : Int) : List Int := (List.range (AT bm tm y).toNat).map fun i : Nat => AT bd td (UP bm tm y + (i : Int))
theorem at_sum {b : Int} {ts : List Tm} (h : ∀ t ∈ ts, OkT t) (f : Int) : ∀ n : Nat, ((List.range n).map fun i : Nat => AT b ts (f + (i : Int))).sum = UP b ts (f + (n : Int)) - UP b ts f
  | 0 => by simp
  | n + 1 => by
    have s := UP_step (base := b) h (f + (n : Int))
    rw [List.range_succ, List.map_append, List.sum_append, at_sum h f n, show f + ((n + 1 : Nat) : Int) = f + (n : Int) + 1 by omega, s]
    simp
    omega
theorem falls_nn {ts : List Tm} : 0 ≤ falls ts := by
  unfold falls
  omega
theorem AT_pos {b : Int} {ts : List Tm} (h : ∀ t ∈ ts, OkT t) (hf : falls ts < b) (k : Int) : 1 ≤ AT b ts k := by
  have := ONS_low h k
  unfold AT
  omega
theorem AT_le {b : Int} {ts : List Tm} (h : ∀ t ∈ ts, OkT t) (few : ts.length ≤ 6) (k : Int) : AT b ts k ≤ b + 6 := by
  have := AT_high h k
  unfold AT
  omega
theorem MLEN_sum {s bd : Int} {td : List Tm} {bm : Int} {tm : List Tm} (g : GoodMo bd td bm tm) (y : Int) : (MLEN bd td bm tm y).sum = MYS s bd td bm tm (y + 1) - MYS s bd td bm tm y := by
  unfold MLEN MYS
  have p := AT_pos g.okm g.fm y
  rw [at_sum g.okd, show ((AT bm tm y).toNat : Int) = AT bm tm y by omega, ← UP_step g.okm]
  omega
theorem MLEN_mem {bd : Int} {td : List Tm} {bm : Int} {tm : List Tm} (g : GoodMo bd td bm tm) (y : Int) : ∀ n ∈ MLEN bd td bm tm y, 0 ≤ n ∧ n ≤ 1006 := by
  intro n hn
  unfold MLEN at hn
  obtain ⟨i, _, rfl⟩ := List.mem_map.mp hn
  have := AT_pos g.okd g.fd (UP bm tm y + (i : Int))
  have := AT_le g.okd g.fwd (b := bd) (UP bm tm y + (i : Int))
  have := g.gd
  omega
theorem MLEN_len {bd : Int} {td : List Tm} {bm : Int} {tm : List Tm} (g : GoodMo bd td bm tm) (y : Int) : 1 ≤ (MLEN bd td bm tm y).length ∧ (MLEN bd td bm tm y).length ≤ 26 := by
  unfold MLEN
  rw [List.length_map, List.length_range]
  have := AT_pos g.okm g.fm y
  have := AT_le g.okm g.fwm (b := bm) y
  have := g.gm
  omega
end Fw

namespace Fw
inductive CalD where
  | sun (s : Int) (ls : List Int) (lp : Int) (ts : List Tm)
  | moon (s bd : Int) (td : List Tm) (bm : Int) (tm : List Tm)
def CalD.Y : CalD → Int → Int
  | .sun s ls _ ts, y => s + UP ls.sum ts y
  | .moon s bd td bm tm, y => MYS s bd td bm tm y
def CalD.L : CalD → Int → List Int
  | .sun _ ls lp ts, y => LENS ls lp ts y
  | .moon _ bd td bm tm, y => MLEN bd td bm tm y
def CalD.good : CalD → Prop
  | .sun _ ls lp ts => GoodS ls lp ts
  | .moon _ bd td bm tm => GoodMo bd td bm tm
def CalD.st : CalD → Int
  | .sun s _ _ _ => s
  | .moon s _ _ _ _ => s
/-- the days of the first j months -/
def PS (l : List Int) (j : Nat) : Int := (l.take j).sum
theorem PS_zero {l : List Int} : PS l 0 = 0 := rfl
theorem PS_succ {l : List Int} {j : Nat} (h : j < l.length) : PS l (j + 1) = PS l j + l.getD j 0 := by
  unfold PS
  rw [List.take_add_one, List.getD_eq_getElem?_getD, List.getElem?_eq_getElem h, List.sum_append]
  simp
theorem PS_mono {l : List Int} (h : ∀ n ∈ l, 0 ≤ n) {i : Nat} : ∀ {j : Nat}, i ≤ j → j ≤ l.length → PS l i ≤ PS l j
  | 0, hij, _ => by
    have : i = 0 := by omega
    subst this
    exact Int.le_refl _
  | j + 1, hij, hj => by
    rcases Nat.lt_or_eq_of_le hij with c | c
    · have := PS_mono (i := i) h (show i ≤ j by omega) (by omega)
      have e := PS_succ (l := l) (j := j) (by omega)
      have := h _ (getD_mem' (ls := l) (i := j) (by omega))
      omega
    · subst c
      exact Int.le_refl _
theorem PS_len {l : List Int} : PS l l.length = l.sum := by
  unfold PS
  rw [List.take_length]
theorem CalD.step {d : CalD} (g : d.good) (y : Int) : d.Y (y + 1) = d.Y y + (d.L y).sum := by
  cases d with
  | sun s ls lp ts =>
    show s + UP ls.sum ts (y + 1) = s + UP ls.sum ts y + (LENS ls lp ts y).sum
    rw [LENS_sum g y, UP_step (GoodS.ok g)]
    omega
  | moon s bd td bm tm =>
    show MYS s bd td bm tm (y + 1) = MYS s bd td bm tm y + (MLEN bd td bm tm y).sum
    rw [MLEN_sum (s := s) g y]
    omega
theorem CalD.mem {d : CalD} (g : d.good) (y : Int) : ∀ n ∈ d.L y, 0 ≤ n ∧ n ≤ 1006 := by
  cases d with
  | sun s ls lp ts => exact LENS_mem g y
  | moon s bd td bm tm => exact MLEN_mem g y
theorem CalD.len {d : CalD} (g : d.good) (y : Int) : 1 ≤ (d.L y).length ∧ (d.L y).length ≤ 26 := by
  cases d with
  | sun s ls lp ts =>
    show 1 ≤ (LENS ls lp ts y).length ∧ (LENS ls lp ts y).length ≤ 26
    rw [LENS_len]
    have := GoodS.l0 g
    have := GoodS.l1 g
    omega
  | moon s bd td bm tm => exact MLEN_len g y
theorem CalD.lt {d : CalD} (g : d.good) {j k : Int} (h : j < k) : d.Y j < d.Y k := by
  cases d with
  | sun s ls lp ts =>
    have := UP_lt (GoodS.ok g) (GoodS.f1 g) h
    show s + UP ls.sum ts j < s + UP ls.sum ts k
    omega
  | moon s bd td bm tm =>
    have := UP_lt (GoodMo.okd g) (GoodMo.fd g) (UP_lt (GoodMo.okm g) (GoodMo.fm g) h)
    show s + UP bd td (UP bm tm j) < s + UP bd td (UP bm tm k)
    omega
theorem CalD.uniq {d : CalD} (g : d.good) {n j k : Int} (h1 : d.Y j ≤ n) (h2 : n < d.Y (j + 1)) (h3 : d.Y k ≤ n) (h4 : n < d.Y (k + 1)) : j = k := by
  rcases Int.lt_trichotomy j k with c | c | c
  · rcases Int.lt_or_eq_of_le (show j + 1 ≤ k by omega) with z | z
    · have := CalD.lt g z
      omega
    · rw [z] at h2
      omega
  · exact c
  · rcases Int.lt_or_eq_of_le (show k + 1 ≤ j by omega) with z | z
    · have := CalD.lt g z
      omega
    · rw [z] at h4
      omega
theorem CalD.zero {d : CalD} (g : d.good) : d.Y 0 = d.st := by
  cases d with
  | sun s ls lp ts =>
    show s + UP ls.sum ts 0 = s
    rw [UP_zero (GoodS.ok g), Int.add_zero]
  | moon s bd td bm tm =>
    show s + UP bd td (UP bm tm 0) = s
    rw [UP_zero (GoodMo.okm g), UP_zero (GoodMo.okd g), Int.add_zero]
/-- (y, m, r) is a date; it is that of the day n -/
structure IsD (d : CalD) (y m r : Int) : Prop where
  m0 : 1 ≤ m
  m1 : m ≤ ((d.L y).length : Int)
  r0 : 1 ≤ r
  r1 : r ≤ (d.L y).getD (m - 1).toNat 0
def DayOf (d : CalD) (y m r : Int) : Int := d.Y y + PS (d.L y) (m - 1).toNat + r - 1
theorem IsD.year {d : CalD} (g : d.good) {y m r : Int} (h : IsD d y m r) : d.Y y ≤ DayOf d y m r ∧ DayOf d y m r < d.Y (y + 1) := by
  have m0 := h.m0
  have m1 := h.m1
  have r0 := h.r0
  have r1 := h.r1
  have nn : ∀ n ∈ d.L y, 0 ≤ n := fun n hn => (CalD.mem g y n hn).1
  have a := PS_mono nn (i := 0) (j := (m - 1).toNat) (by omega) (by omega)
  have b := PS_succ (l := d.L y) (j := (m - 1).toNat) (by omega)
  have c := PS_mono nn (i := (m - 1).toNat + 1) (j := (d.L y).length) (by omega) (Nat.le_refl _)
  rw [PS_len] at c
  rw [PS_zero] at a
  rw [CalD.step g]
  unfold DayOf
  omega
theorem IsD.uniq {d : CalD} (g : d.good) {y m r y' m' r' : Int} (h : IsD d y m r) (h' : IsD d y' m' r') (e : DayOf d y m r = DayOf d y' m' r') : y = y' ∧ m = m' ∧ r = r' := by
  have e1 := h.year g
  have e2 := h'.year g
  rw [← e] at e2
  have ey := CalD.uniq g e1.1 e1.2 e2.1 e2.2
  subst ey
  have m0 := h.m0
  have m1 := h.m1
  have r0 := h.r0
  have r1 := h.r1
  have m0' := h'.m0
  have m1' := h'.m1
  have r0' := h'.r0
  have r1' := h'.r1
  have nn : ∀ n ∈ d.L y, 0 ≤ n := fun n hn => (CalD.mem g y n hn).1
  have b := PS_succ (l := d.L y) (j := (m - 1).toNat) (by omega)
  have b' := PS_succ (l := d.L y) (j := (m' - 1).toNat) (by omega)
  unfold DayOf at e
  have em : m = m' := by
    rcases Int.lt_trichotomy m m' with c | c | c
    · have := PS_mono nn (i := (m - 1).toNat + 1) (j := (m' - 1).toNat) (by omega) (by omega)
      omega
    · exact c
    · have := PS_mono nn (i := (m' - 1).toNat + 1) (j := (m - 1).toNat) (by omega) (by omega)
      omega
  subst em
  exact ⟨rfl, rfl, by omega⟩
end Fw

namespace Fw
def DLt (a b c a' b' c' : Int) : Prop := a < a' ∨ (a = a' ∧ (b < b' ∨ (b = b' ∧ c < c')))
def DLe (a b c a' b' c' : Int) : Prop := a < a' ∨ (a = a' ∧ (b < b' ∨ (b = b' ∧ c ≤ c')))
theorem DLt_not {a b c a' b' c' : Int} : ¬ DLt a b c a' b' c' ↔ DLe a' b' c' a b c := by
  unfold DLe DLt
  omega
theorem IsD.lt_of {d : CalD} (g : d.good) {y m r y' m' r' : Int} (h : IsD d y m r) (h' : IsD d y' m' r') (l : DLt y m r y' m' r') : DayOf d y m r < DayOf d y' m' r' := by
  have e1 := h.year g
  have e2 := h'.year g
  rcases l with c | ⟨c, l⟩
  · rcases Int.lt_or_eq_of_le (show y + 1 ≤ y' by omega) with z | z
    · have := CalD.lt g z
      omega
    · rw [z] at e1
      omega
  subst c
  have m0 := h.m0
  have m1 := h.m1
  have r0 := h.r0
  have r1 := h.r1
  have m0' := h'.m0
  have m1' := h'.m1
  have r0' := h'.r0
  have nn : ∀ n ∈ d.L y, 0 ≤ n := fun n hn => (CalD.mem g y n hn).1
  have b := PS_succ (l := d.L y) (j := (m - 1).toNat) (by omega)
  unfold DayOf
  rcases l with c | ⟨c, l⟩
  · have := PS_mono nn (i := (m - 1).toNat + 1) (j := (m' - 1).toNat) (by omega) (by omega)
    omega
  · subst c
    omega
theorem IsD.lt_iff {d : CalD} (g : d.good) {y m r y' m' r' : Int} (h : IsD d y m r) (h' : IsD d y' m' r') : DayOf d y m r < DayOf d y' m' r' ↔ DLt y m r y' m' r' := by
  refine ⟨fun l => ?_, IsD.lt_of g h h'⟩
  refine Classical.byContradiction fun n => ?_
  have := DLt_not.mp n
  by_cases e : DLt y' m' r' y m r
  · have := IsD.lt_of g h' h e
    omega
  · have e1 : y = y' ∧ m = m' ∧ r = r' := by
      unfold DLt DLe at *
      omega
    obtain ⟨rfl, rfl, rfl⟩ := e1
    omega
inductive CalT where
  | one (d : CalD)
  | chg (a b : CalT) (k : Int)
/-- the date of the day n is (y, m, r) -/
def CalT.D : CalT → Int → Int → Int → Int → Prop
  | .one d, n, y, m, r => IsD d y m r ∧ DayOf d y m r = n
  | .chg a b k, n, y, m, r => (n < k ∧ a.D n y m r) ∨ (k ≤ n ∧ b.D n y m r)
def CalT.good : CalT → Prop
  | .one d => d.good
  | .chg a b k => a.good ∧ b.good ∧ ∃ y m r y' m' r', a.D (k - 1) y m r ∧ b.D k y' m' r' ∧ DLt y m r y' m' r'
theorem DLt.trans {a b c a' b' c' a'' b'' c'' : Int} (h : DLt a b c a' b' c') (h' : DLt a' b' c' a'' b'' c'') : DLt a b c a'' b'' c'' := by
  unfold DLt at *
  omega
theorem CalT.uniq : ∀ {c : CalT}, c.good → ∀ {n y m r y' m' r' : Int}, c.D n y m r → c.D n y' m' r' → y = y' ∧ m = m' ∧ r = r'
  | .one d, g, n, y, m, r, y', m', r', h, h' => IsD.uniq g h.1 h'.1 (h.2.trans h'.2.symm)
  | .chg a b k, g, n, y, m, r, y', m', r', h, h' => by
    rcases h with ⟨l, h⟩ | ⟨l, h⟩ <;> rcases h' with ⟨l', h'⟩ | ⟨l', h'⟩
    · exact CalT.uniq g.1 h h'
    · omega
    · omega
    · exact CalT.uniq g.2.1 h h'
theorem CalT.mono : ∀ {c : CalT}, c.good → ∀ {n n' y m r y' m' r' : Int}, c.D n y m r → c.D n' y' m' r' → n < n' → DLt y m r y' m' r'
  | .one d, g, n, n', y, m, r, y', m', r', h, h', l => by
    rw [← h.2, ← h'.2] at l
    exact (IsD.lt_iff g h.1 h'.1).mp l
  | .chg a b k, g, n, n', y, m, r, y', m', r', h, h', l => by
    obtain ⟨ga, gb, p, q, s, p', q', s', d1, d2, l12⟩ := g
    rcases h with ⟨z, h⟩ | ⟨z, h⟩ <;> rcases h' with ⟨z', h'⟩ | ⟨z', h'⟩
    · exact CalT.mono ga h h' l
    · have x1 : DLt y m r p' q' s' := by
        rcases Int.lt_or_eq_of_le (show n ≤ k - 1 by omega) with e | e
        · exact (CalT.mono ga h d1 e).trans l12
        · subst e
          obtain ⟨rfl, rfl, rfl⟩ := CalT.uniq ga h d1
          exact l12
      rcases Int.lt_or_eq_of_le z' with e | e
      · exact x1.trans (CalT.mono gb d2 h' e)
      · subst e
        obtain ⟨rfl, rfl, rfl⟩ := CalT.uniq gb h' d2
        exact x1
    · omega
    · exact CalT.mono gb h h' l
theorem CalT.inj {c : CalT} (g : c.good) {n n' y m r : Int} (h : c.D n y m r) (h' : c.D n' y m r) : n = n' := by
  rcases Int.lt_trichotomy n n' with l | l | l
  · have := CalT.mono g h h' l
    unfold DLt at this
    omega
  · exact l
  · have := CalT.mono g h' h l
    unfold DLt at this
    omega
end Fw

namespace Fw
theorem mem_le_sum : ∀ {ls : List Int}, (∀ n ∈ ls, 0 ≤ n) → ∀ {x : Int}, x ∈ ls → x ≤ ls.sum
  | [], _, x, h => nomatch h
  | a :: ls, hn, x, h => by
    have i : 0 ≤ ls.sum := by
      have : ∀ {l : List Int}, (∀ n ∈ l, 0 ≤ n) → 0 ≤ l.sum := fun {l} => by
        induction l with
        | nil => exact fun _ => Int.le_refl _
        | cons b l ih =>
          intro h
          have := ih fun n hn => h n (List.mem_cons_of_mem _ hn)
          have := h b List.mem_cons_self
          rw [List.sum_cons]
          omega
      exact this fun n hh => hn n (List.mem_cons_of_mem _ hh)
    rw [List.sum_cons]
    rcases List.mem_cons.mp h with e | e
    · omega
    · have := mem_le_sum (fun n hh => hn n (List.mem_cons_of_mem _ hh)) e
      have := hn a List.mem_cons_self
      omega
theorem CalD.far {d : CalD} (g : d.good) (k : Nat) : d.Y 0 + (k : Int) ≤ d.Y (k : Int) ∧ d.Y (-(k : Int)) ≤ d.Y 0 - (k : Int) := by
  induction k with
  | zero => exact ⟨by simp, by simp⟩
  | succ k ih =>
    have a := CalD.lt g (show (k : Int) < ((k + 1 : Nat) : Int) by omega)
    have b := CalD.lt g (show -((k + 1 : Nat) : Int) < -(k : Int) by omega)
    omega
end Fw

namespace Fw
theorem per_pos' {ts : List Tm} (h : ∀ t ∈ ts, OkT t) : 0 < PER ts ∧ ∀ t ∈ ts, t.2.2.2 ∣ PER ts := by
  have key : ∀ (us : List Tm) (p : Int), 0 < p → (∀ t ∈ us, OkT t) → 0 < us.foldl (fun p t => lcmI p t.2.2.2) p ∧ p ∣ us.foldl (fun p t => lcmI p t.2.2.2) p ∧ ∀ t ∈ us, t.2.2.2 ∣ us.foldl (fun p t => lcmI p t.2.2.2) p := by
    intro us
    induction us with
    | nil => exact fun p hp _ => ⟨hp, Int.dvd_refl _, fun t ht => nomatch ht⟩
    | cons u us ih =>
      intro p hp ok
      have n0 := (ok u List.mem_cons_self).n0
      have f := lcmI_facts hp (show 0 < u.2.2.2 by omega)
      obtain ⟨i1, i2, i3⟩ := ih (lcmI p u.2.2.2) f.1 fun t ht => ok t (List.mem_cons_of_mem _ ht)
      refine ⟨i1, Int.dvd_trans f.2.1 i2, fun t ht => ?_⟩
      rcases List.mem_cons.mp ht with e | e
      · subst e
        exact Int.dvd_trans f.2.2.1 i2
      · exact i3 t e
  exact ⟨(key ts 1 (by decide) h).1, (key ts 1 (by decide) h).2.2⟩
theorem UP_whole {b : Int} {ts : List Tm} (h : ∀ t ∈ ts, OkT t) {P : Int} (hd : ∀ t ∈ ts, t.2.2.2 ∣ P) (k : Int) : UP b ts (k + P) = UP b ts k + UP b ts P := by
  have := UP_per (base := b) h hd k 1
  rwa [Int.mul_one, Int.one_mul] at this
theorem AT_whole {b : Int} {ts : List Tm} (h : ∀ t ∈ ts, OkT t) {P : Int} (hd : ∀ t ∈ ts, t.2.2.2 ∣ P) (k : Int) : AT b ts (k + P) = AT b ts k := by
  have a := UP_step (base := b) h (k + P)
  have c := UP_step (base := b) h k
  have u := UP_whole (b := b) h hd k
  have v := UP_whole (b := b) h hd (k + 1)
  rw [show k + 1 + P = k + P + 1 by omega] at v
  omega
theorem ONS_whole {ts : List Tm} (h : ∀ t ∈ ts, OkT t) {P : Int} (hd : ∀ t ∈ ts, t.2.2.2 ∣ P) (k : Int) : ONS ts (k + P) = ONS ts k := by
  have := AT_whole (b := 0) h hd k
  unfold AT at this
  omega
def moT (td : List Tm) (bm : Int) (tm : List Tm) : Int := PER td / (Int.gcd (PER td) (UP bm tm (PER tm)) : Int)
def CalD.cy : CalD → Int × Int
  | .sun _ ls _ ts => (PER ts, UP ls.sum ts (PER ts))
  | .moon _ bd td bm tm => (PER tm * moT td bm tm, UP bd td (UP bm tm (PER tm) * moT td bm tm))
theorem mo_dvd {td : List Tm} {bm : Int} {tm : List Tm} (h : ∀ t ∈ td, OkT t) : ∀ t ∈ td, t.2.2.2 ∣ UP bm tm (PER tm) * moT td bm tm := by
  intro t ht
  obtain ⟨p0, pd⟩ := per_pos' h
  refine Int.dvd_trans (pd t ht) ?_
  unfold moT
  generalize UP bm tm (PER tm) = M
  generalize PER td = D at *
  have g1 := Int.gcd_dvd_left (a := D) (b := M)
  have g2 := Int.gcd_dvd_right (a := D) (b := M)
  have g0 := gcd_pos (b := M) p0
  obtain ⟨u, hu⟩ := g1
  obtain ⟨v, hv⟩ := g2
  generalize (Int.gcd D M : Int) = G at *
  rw [hu, hv, Int.mul_ediv_cancel_left _ (by omega)]
  exact ⟨v, by rw [Int.mul_assoc, Int.mul_assoc, Int.mul_comm u v]⟩
theorem CalD.cyY {d : CalD} (g : d.good) (y : Int) : d.Y (y + d.cy.1) = d.Y y + d.cy.2 := by
  cases d with
  | sun s ls lp ts =>
    have := UP_whole (b := ls.sum) (GoodS.ok g) (per_pos' (GoodS.ok g)).2 y
    show s + UP ls.sum ts (y + PER ts) = s + UP ls.sum ts y + UP ls.sum ts (PER ts)
    omega
  | moon s bd td bm tm =>
    show MYS s bd td bm tm (y + PER tm * moT td bm tm) = MYS s bd td bm tm y + UP bd td (UP bm tm (PER tm) * moT td bm tm)
    have a := UP_per (base := bm) (GoodMo.okm g) (per_pos' (GoodMo.okm g)).2 y (moT td bm tm)
    have b := UP_whole (b := bd) (GoodMo.okd g) (mo_dvd (bm := bm) (tm := tm) (GoodMo.okd g)) (UP bm tm y)
    unfold MYS
    rw [a, Int.mul_comm (moT td bm tm), b]
    omega
theorem CalD.cyL {d : CalD} (g : d.good) (y : Int) : d.L (y + d.cy.1) = d.L y := by
  cases d with
  | sun s ls lp ts =>
    show LENS ls lp ts (y + PER ts) = LENS ls lp ts y
    unfold LENS
    rw [ONS_whole (GoodS.ok g) (per_pos' (GoodS.ok g)).2]
  | moon s bd td bm tm =>
    show MLEN bd td bm tm (y + PER tm * moT td bm tm) = MLEN bd td bm tm y
    have a := UP_per (base := bm) (GoodMo.okm g) (per_pos' (GoodMo.okm g)).2 y (moT td bm tm)
    have e : ∀ t ∈ tm, t.2.2.2 ∣ PER tm * moT td bm tm := fun t ht => Int.dvd_trans ((per_pos' (GoodMo.okm g)).2 t ht) (Int.dvd_mul_right _ _)
    unfold MLEN
    rw [AT_whole (GoodMo.okm g) e, a]
    refine List.map_congr_left fun i _ => ?_
    rw [Int.mul_comm (moT td bm tm), show UP bm tm y + UP bm tm (PER tm) * moT td bm tm + (i : Int) = UP bm tm y + (i : Int) + UP bm tm (PER tm) * moT td bm tm by omega]
    exact AT_whole (GoodMo.okd g) (mo_dvd (bm := bm) (tm := tm) (GoodMo.okd g)) _
theorem IsD.cyc {d : CalD} (g : d.good) {y m r : Int} (h : IsD d y m r) : IsD d (y + d.cy.1) m r ∧ DayOf d (y + d.cy.1) m r = DayOf d y m r + d.cy.2 := by
  have e := CalD.cyL g y
  refine ⟨⟨h.m0, by rw [e]; exact h.m1, h.r0, by rw [e]; exact h.r1⟩, ?_⟩
  unfold DayOf
  rw [e, CalD.cyY g]
  omega
end Fw

namespace Fw
def hit (n : Int) (ds : List Int) (d : Int) : Bool := ds.any fun x => decide ((d - x) % n = 0)
structure RB (n : Int) (ds : List Int) (b : Nat) : Prop where
  lt : b < 2 ^ n.toNat
  bit : ∀ d, On n b d = hit n ds d
theorem RB.nil (n : Int) : RB n [] 0 := ⟨Nat.two_pow_pos _, fun d => by unfold On hit; simp⟩
theorem sub_mod_zero {n d x : Int} (hn : 0 < n) : (d - x) % n = 0 ↔ d % n = x % n := by
  rw [Int.sub_emod]
  have h1 := Int.emod_nonneg d (show n ≠ 0 by omega)
  have h2 := Int.emod_lt_of_pos d hn
  have h3 := Int.emod_nonneg x (show n ≠ 0 by omega)
  have h4 := Int.emod_lt_of_pos x hn
  constructor
  · intro h
    have := Int.dvd_of_emod_eq_zero h
    obtain ⟨k, hk⟩ := this
    have : k = 0 := by
      rcases Int.lt_trichotomy k 0 with z | z | z
      · have : n * k ≤ n * (-1) := Int.mul_le_mul_of_nonneg_left (by omega) (by omega)
        omega
      · exact z
      · have : n * 1 ≤ n * k := Int.mul_le_mul_of_nonneg_left (by omega) (by omega)
        omega
    subst this
    omega
  · intro h
    rw [h]
    simp
theorem RB.snoc {n : Int} {ds : List Int} {b : Nat} {x : Int} (hn : 0 < n) (h : RB n ds b) : RB n (ds ++ [x]) (b ||| 2 ^ (x % n).toNat) := by
  have h3 := Int.emod_nonneg x (show n ≠ 0 by omega)
  have h4 := Int.emod_lt_of_pos x hn
  refine ⟨Nat.or_lt_two_pow h.lt (Nat.pow_lt_pow_right (by decide) (by omega)), fun d => ?_⟩
  have h1 := Int.emod_nonneg d (show n ≠ 0 by omega)
  have hb := h.bit d
  unfold On hit at *
  rw [Nat.testBit_or, hb, List.any_append, Nat.testBit_two_pow]
  congr 1
  rw [List.any_cons, List.any_nil, Bool.or_false, Bool.eq_iff_iff, decide_eq_true_eq, decide_eq_true_eq, sub_mod_zero hn]
  omega
end Fw

namespace Fw
def pc (b j : Nat) : Nat := b / 2 ^ (256 * j) % 2 ^ 256
theorem pc_bit (b j i : Nat) : (pc b j).testBit i = (decide (i < 256) && b.testBit (256 * j + i)) := by
  unfold pc
  rw [Nat.testBit_mod_two_pow, ← Nat.shiftRight_eq_div_pow, Nat.testBit_shiftRight]
theorem pc_lt (b j : Nat) : pc b j < 2 ^ 256 := Nat.mod_lt _ (Nat.two_pow_pos _)
theorem pc_or_at (b p : Nat) : pc (b ||| 2 ^ p) (p / 256) = pc b (p / 256) ||| 2 ^ (p % 256) := by
  refine Nat.eq_of_testBit_eq fun i => ?_
  rw [pc_bit, Nat.testBit_or, Nat.testBit_or, pc_bit, Nat.testBit_two_pow, Nat.testBit_two_pow]
  by_cases c : i < 256
  · have : (p = 256 * (p / 256) + i) = (p % 256 = i) := propext ⟨fun h => by omega, fun h => by omega⟩
    simp [c, this]
  · have : ¬ p % 256 = i := by omega
    simp [c, this]
theorem pc_or_ne {b p j : Nat} (h : j ≠ p / 256) : pc (b ||| 2 ^ p) j = pc b j := by
  refine Nat.eq_of_testBit_eq fun i => ?_
  rw [pc_bit, Nat.testBit_or, pc_bit, Nat.testBit_two_pow]
  by_cases c : i < 256
  · have : ¬ p = 256 * j + i := by omega
    simp [c, this]
  · simp [c]
theorem pc_join (b m : Nat) : b % 2 ^ (256 * m) ||| (pc b m <<< (256 * m)) = b % 2 ^ (256 * (m + 1)) := by
  refine Nat.eq_of_testBit_eq fun i => ?_
  rw [Nat.testBit_or, Nat.testBit_shiftLeft, Nat.testBit_mod_two_pow, Nat.testBit_mod_two_pow, pc_bit]
  by_cases c : i < 256 * m
  · simp [c, show ¬ 256 * m ≤ i by omega, show i < 256 * (m + 1) by omega]
  · by_cases c2 : i < 256 * (m + 1)
    · simp [c, c2, show 256 * m ≤ i by omega, show i - 256 * m < 256 by omega, show 256 * m + (i - 256 * m) = i by omega]
    · simp [c, c2, show ¬ i - 256 * m < 256 by omega]
end Fw

namespace Fw
open PySem L2 PyProof.Rows
def top (i : Nat) : Stmt := PySem.Challenge.pw_feastwheel_k40_days_by_date.main.body.getD i (.Pass ⟨0, 0, 0, 0⟩)
abbrev s_TooLong___init__ : Stmt := inClass (top 4) 0
abbrev s_NoDate___init__ : Stmt := inClass (top 6) 0
abbrev s_refuse_below_one : Stmt := top 8
abbrev s_divisor : Stmt := top 9
abbrev s_equation : Stmt := top 10
abbrev s_common : Stmt := top 11
abbrev s_refuse_too_long : Stmt := top 15
abbrev s_round_by : Stmt := top 16
abbrev s_refuse_wanted : Stmt := top 18
abbrev s_days_of_month : Stmt := top 19
abbrev s_days_of_year : Stmt := top 20
abbrev s_dated : Stmt := top 21
abbrev s_term_on : Stmt := top 26
abbrev s_signs_upto : Stmt := top 27
abbrev s_is_term : Stmt := top 28
abbrev s_least_length : Stmt := top 29
abbrev s_refuse_measure : Stmt := top 30
abbrev s_period_of : Stmt := top 31
abbrev s_Measure___init__ : Stmt := inClass (top 32) 0
abbrev s_Measure_at : Stmt := inClass (top 32) 1
abbrev s_Measure_upto : Stmt := inClass (top 32) 2
abbrev s_Measure_period : Stmt := inClass (top 32) 3
abbrev s_Measure_seek : Stmt := inClass (top 32) 4
abbrev s_refuse_months : Stmt := top 37
abbrev s_Sun___init__ : Stmt := inClass (top 38) 0
abbrev s_Sun_year_start : Stmt := inClass (top 38) 1
abbrev s_Sun_year_at : Stmt := inClass (top 38) 2
abbrev s_Sun_lengths : Stmt := inClass (top 38) 3
abbrev s_Sun_cycle : Stmt := inClass (top 38) 4
abbrev s_refuse_part : Stmt := top 39
abbrev s_Moon___init__ : Stmt := inClass (top 40) 0
abbrev s_Moon_year_start : Stmt := inClass (top 40) 1
abbrev s_Moon_year_at : Stmt := inClass (top 40) 2
abbrev s_Moon_lengths : Stmt := inClass (top 40) 3
abbrev s_Moon_cycle : Stmt := inClass (top 40) 4
abbrev s_law_cell_at : Stmt := top 42
abbrev s_law_whole : Stmt := top 43
abbrev s_law_number : Stmt := top 44
abbrev s_law_mixed : Stmt := top 45
abbrev s_law_any_term : Stmt := top 46
abbrev s_law_any_terms : Stmt := top 47
abbrev s_law_any_measure : Stmt := top 48
abbrev s_law_any : Stmt := top 49
abbrev s_law_term : Stmt := top 50
abbrev s_law_sun : Stmt := top 51
abbrev s_law_moon : Stmt := top 52
abbrev s_law_wanted : Stmt := top 53
abbrev s_law_step : Stmt := top 54
abbrev s_law_is_short : Stmt := top 55
abbrev s_law_made : Stmt := top 56
abbrev s_law_years : Stmt := top 57
abbrev s_law_size : Stmt := top 58
abbrev s_law_aimed : Stmt := top 59
abbrev s_law_due : Stmt := top 60
abbrev s_law : Stmt := top 61
abbrev s_Sun_date_of : Stmt := inClass (top 36) 0
abbrev s_Sun_day_of : Stmt := inClass (top 36) 1
abbrev s_Moon_date_of : Stmt := inClass (top 36) 0
abbrev s_Moon_day_of : Stmt := inClass (top 36) 1
def spCell (K : PySem.W.Frag) : Sp := fun vs H Q _ => ∃ (a : Addr) (ns : List Int) (k : Int), vs = [.ref a, .int k] ∧ SqL K H a (ns.map V.int) ∧ 0 ≤ k ∧ ns.length ≤ 63 ∧ Q (.int (ns.getD k.toNat 0)) H
def spWhole : Sp := fun vs H Q _ => ∃ i : Int, vs = [.int i] ∧ Q (.bl true) H
theorem rd_cell {K : PySem.W.Frag} {a : Addr} {ns : List Int} {k : Int} {H : Hp} {Q : VK} {E : XK} (hS : SqL K H a (ns.map V.int)) (hl : ns.length ≤ 63) (hk : 0 ≤ k) (h : Q (.int (ns.getD k.toNat 0)) H) : spCell K ([.ref a, .int k] ++ []) H Q E := ⟨a, ns, k, rfl, hS, hk, hl, h⟩
theorem rd_whole {i : Int} {H : Hp} {Q : VK} {E : XK} (h : Q (.bl true) H) : spWhole ([.int i] ++ []) H Q E := ⟨i, rfl, h⟩
theorem kit_ib (K : PySem.W.Frag) : PySem.W.kitOne K (.type "int") (.type "bool") = some false := by first | rfl | decide +kernel | with_unfolding_all rfl
theorem at_ints {ns : List Int} {k : Int} (h0 : 0 ≤ k) (h : k < (ns.length : Int)) : atI (ns.map V.int) k = some (.int (ns.getD k.toNat 0)) := by
  have hk : k.toNat < ns.length := by omega
  have ek : k = ((k.toNat : Nat) : Int) := by omega
  have q : atI (ns.map V.int) ((k.toNat : Nat) : Int) = some (.int ns[k.toNat]) := atI_nat (by rw [List.getElem?_map, List.getElem?_eq_getElem hk] <;> rfl)
  rw [← ek] at q
  rw [q]
  simp [List.getD, hk]
theorem p40 : (10 : Int) ^ (40 : Int).toNat = 10000000000000000000000000000000000000000 := by decide
theorem bt_of {x : Int} (h1 : -1000000000000000000000000000000000000000000000000000000000000 ≤ x) (h2 : x ≤ 1000000000000000000000000000000000000000000000000000000000000) : Bt 200 x := by
  unfold Bt
  have : (2 : Nat) ^ 200 = 1606938044258990275541962092341162602522202993782792835301376 := by decide
  omega
theorem two' {a b : V} : ([a, b] : List V).length ≤ sizeLine := by show 2 ≤ sizeLine; decide
theorem kit_tt (K : PySem.W.Frag) : PySem.W.kitOne K (.type "tuple") (.type "tuple") = some true := by unfold PySem.W.kitOne; rw [if_pos (by simp)]
local macro_rules | `(tactic| walk_at "rdc") => `(tactic| (repeat (first | walk_at "rd1" | ((with_reducible refine' Fw.rd_cell ?hc1 ?hc2 ?hc3 ?_); (case hc1 => assumption); (case hc2 => assumption); (case hc3 => decide)) | with_reducible refine Fw.rd_whole ?_)))
local macro_rules | `(tactic| walk_at "rdy") => `(tactic| (repeat (first | walk_at "rd1" | ((with_reducible refine' Fw.rd_cell ?hc1 ?hc2 ?hc3 ?_); (case hc1 => assumption); (case hc2 => assumption); (case hc3 => decide)) | with_reducible refine Fw.rd_whole ?_ | with_reducible refine L2.rd_callE ?_ | with_reducible refine L2.rd_raise ?_ | with_reducible refine L2.rd_try ?_ | with_reducible refine L2.rd_xget ?_ | with_reducible refine L2.rd_ifE ?_)))
def spEq : Sp := fun vs H Q _ => ∃ a b : Int, vs = [.int a, .int b] ∧ Bt 500 a ∧ Bt 500 b ∧ ∀ (p : Addr) (u v g : Int) (H' : Hp), Same H H' → H' p = some (.tup [.int u, .int v, .int g]) → Eqn a b u v g → Q (.ref p) H'
def spDivisor : Sp := fun vs H Q _ => ∃ a b : Int, vs = [.int a, .int b] ∧ Bt 500 a ∧ Bt 500 b ∧ ∀ H', Same H H' → Q (.int (Int.gcd a b : Int)) H'
def spCommon : Sp := fun vs H Q _ => ∃ a b : Int, vs = [.int a, .int b] ∧ 0 < a ∧ 0 < b ∧ Bt 500 a ∧ Bt 500 b ∧ ∀ H', Same H H' → Q (.int (lcmI a b)) H'
theorem at30 {x y z : V} : atI [x, y, z] 0 = some x := rfl
theorem at31 {x y z : V} : atI [x, y, z] 1 = some y := rfl
theorem at32 {x y z : V} : atI [x, y, z] 2 = some z := rfl
theorem three {a b c : V} : ([a, b, c] : List V).length ≤ sizeLine := by show 3 ≤ sizeLine; decide
theorem two {a b : V} : ([a, b] : List V).length ≤ sizeLine := by show 2 ≤ sizeLine; decide
theorem bt_le {k m : Nat} {x y : Int} (h : Bt k y) (l : x.natAbs ≤ 4 * y.natAbs + 4) (hk : k + 4 ≤ m) : Bt m x := by
  unfold Bt at *
  have p : 2 ^ (k + 4) ≤ 2 ^ m := Nat.pow_le_pow_right (by decide) hk
  have e : 2 ^ (k + 4) = 2 ^ k * 16 := by rw [Nat.pow_add]
  omega
theorem bt_le2 {k m : Nat} {x y z : Int} (h : Bt k y) (h' : Bt k z) (l : x.natAbs ≤ y.natAbs + z.natAbs + 4) (hk : k + 4 ≤ m) : Bt m x := by
  unfold Bt at *
  have p : 2 ^ (k + 4) ≤ 2 ^ m := Nat.pow_le_pow_right (by decide) hk
  have e : 2 ^ (k + 4) = 2 ^ k * 16 := by rw [Nat.pow_add]
  omega
theorem bt_small {k : Nat} {x : Int} (h0 : 0 ≤ x) (h1 : x < 18446744073709551616) (hk : 64 ≤ k) : Bt k x := Bt.mono (k := 64) (by unfold Bt; omega) hk
theorem bt_nat {b n : Nat} (h : b < 2 ^ n) : Bt n (b : Int) := by unfold Bt; rw [Int.natAbs_natCast]; exact h
theorem bt1 : Bt 1 1 := by unfold Bt; decide
theorem bt_div {k : Nat} {d n : Int} (h : Bt k d) (hn : 0 < n) : Bt k (d / n) := by
  refine h.le ?_
  rcases Int.lt_or_le d 0 with c | c
  · have h1 : d / n < 0 := Int.ediv_neg_of_neg_of_pos c hn
    have h2 : d ≤ d / n := (Int.le_ediv_iff_mul_le hn).mpr (by
      have := Int.mul_le_mul_of_nonpos_left (show d ≤ 0 by omega) (show 1 ≤ n by omega)
      omega)
    omega
  · have h1 : 0 ≤ d / n := Int.ediv_nonneg c (by omega)
    have h2 : d / n ≤ d := Int.ediv_le_self n c
    omega
theorem _root_.L2.Bt.sub {k : Nat} {x y : Int} (h : Bt k x) (g : Bt k y) : Bt (k + 1) (x - y) := by
  have := h.add g.neg
  rwa [← Int.sub_eq_add_neg] at this
def tmV (t : Tm) : List V := [.int t.1, .int t.2.1, .int t.2.2.1, .int t.2.2.2]
inductive Tms (H : Hp) : List V → List Tm → Prop
  | nil : Tms H [] []
  | cons {p : Addr} {t : Tm} {vs : List V} {ts : List Tm} : H p = some (.tup (tmV t)) → Tms H vs ts → Tms H (.ref p :: vs) (t :: ts)
theorem Tms.same {H H' : Hp} (s : Same H H') : ∀ {vs : List V} {ts : List Tm}, Tms H vs ts → Tms H' vs ts
  | _, _, .nil => .nil
  | _, _, .cons h t => .cons (s _ _ h) (Tms.same s t)
theorem Tms.len {H : Hp} : ∀ {vs : List V} {ts : List Tm}, Tms H vs ts → vs.length = ts.length
  | _, _, .nil => rfl
  | _, _, .cons _ t => by rw [List.length_cons, List.length_cons, Tms.len t]
theorem Tms.mem {H : Hp} {x : V} : ∀ {vs : List V} {ts : List Tm}, Tms H vs ts → x ∈ vs → ∃ p t, x = .ref p ∧ t ∈ ts ∧ H p = some (.tup (tmV t))
  | _, _, .nil, h => nomatch h
  | _, _, .cons g r, h => by
    rcases List.mem_cons.mp h with e | e
    · exact ⟨_, _, e, List.mem_cons_self, g⟩
    · obtain ⟨p, t, e1, e2, e3⟩ := Tms.mem r e
      exact ⟨p, t, e1, List.mem_cons_of_mem _ e2, e3⟩
theorem Tms.at {H : Hp} : ∀ {vs : List V} {ts : List Tm}, Tms H vs ts → ∀ {i : Nat} {x : V}, vs[i]? = some x → ∃ p t, x = .ref p ∧ ts[i]? = some t ∧ H p = some (.tup (tmV t))
  | _, _, .nil, i, x, h => by simp at h
  | _, _, .cons g r, 0, x, h => by
    injection h with h
    exact ⟨_, _, h.symm, rfl, g⟩
  | _, _, .cons g r, i + 1, x, h => Tms.at r (i := i) h
/-- what stands in the term at v, by g -/
def tmAt (H : Hp) (v : V) : Option Tm := match v with
  | .ref p => match H p with
    | some (.tup [.int s, .int a, .int b, .int n]) => some (s, a, b, n)
    | _ => none
  | _ => none
theorem tmAt_eq {H : Hp} {p : Addr} {t : Tm} (h : H p = some (.tup (tmV t))) : tmAt H (.ref p) = some t := by
  unfold tmAt tmV at *
  simp only [h]
theorem Tms.fm {H : Hp} (g : Tm → Bool) (f : Tm → V) : ∀ {vs : List V} {ts : List Tm}, Tms H vs ts → (vs.filter fun v => ((tmAt H v).map g).getD false).map (fun v => ((tmAt H v).map f).getD .non) = (ts.filter g).map f
  | _, _, .nil => rfl
  | _, _, .cons (p := p) (t := t) h r => by
    rw [List.filter_cons, List.filter_cons, tmAt_eq h]
    show (if g t = true then _ else _ : List V).map _ = _
    by_cases c : g t = true
    · rw [if_pos c, if_pos c, List.map_cons, List.map_cons, Tms.fm g f r, tmAt_eq h]
      rfl
    · rw [if_neg c, if_neg c, Tms.fm g f r]
theorem at40 {t : Tm} : atI (tmV t) 0 = some (V.int t.1) := rfl
theorem at41 {t : Tm} : atI (tmV t) 1 = some (V.int t.2.1) := rfl
theorem at42 {t : Tm} : atI (tmV t) 2 = some (V.int t.2.2.1) := rfl
theorem at43 {t : Tm} : atI (tmV t) 3 = some (V.int t.2.2.2) := rfl
/-- terms in a tuple -/
structure TmT (K : PySem.W.Frag) (H : Hp) (p : Addr) (ts : List Tm) : Prop where
  ex : ∃ vs, SqT K H p vs ∧ Tms H vs ts
  ok : ∀ t ∈ ts, OkT t
  few : ts.length ≤ 6
theorem TmT.same {K : PySem.W.Frag} {H H' : Hp} {p : Addr} {ts : List Tm} (T : TmT K H p ts) (s : Same H H') : TmT K H' p ts := by
  obtain ⟨vs, h1, h2⟩ := T.ex
  exact ⟨⟨vs, s.tup h1, h2.same s⟩, T.ok, T.few⟩
def spTermOn : Sp := fun vs H Q _ => ∃ (p : Addr) (k : Int) (t : Tm), vs = [.ref p, .int k] ∧ H p = some (.tup (tmV t)) ∧ OkT t ∧ Bt 400 k ∧ Q (.bl (onT t k)) H
def spSigns (K : PySem.W.Frag) : Sp := fun vs H Q _ => ∃ (p : Addr) (k : Int) (ts : List Tm), vs = [.ref p, .int k] ∧ TmT K H p ts ∧ Bt 400 k ∧ ∀ H', Same H H' → Q (.int (SU ts k)) H'
def spIsTerm : Sp := fun vs H Q _ => ∃ (p : Addr) (t : Tm), vs = [.ref p] ∧ H p = some (.tup (tmV t)) ∧ OkT t ∧ Q (.bl true) H
def spLeast (K : PySem.W.Frag) : Sp := fun vs H Q _ => ∃ (p : Addr) (b : Int) (ts : List Tm), vs = [.int b, .ref p] ∧ TmT K H p ts ∧ ∀ H', Same H H' → Q (.int (b - falls ts)) H'
structure GoodM (b : Int) (ts : List Tm) : Prop where
  b0 : 0 ≤ b
  b1 : b ≤ 20000
  fl : falls ts ≤ b
def spRefuseM (K : PySem.W.Frag) : Sp := fun vs H Q _ => ∃ (p : Addr) (b : Int) (ts : List Tm), vs = [.int b, .ref p] ∧ TmT K H p ts ∧ GoodM b ts ∧ ∀ H', Same H H' → Q .non H'
def spPeriod (K : PySem.W.Frag) : Sp := fun vs H Q _ => ∃ (p : Addr) (ts : List Tm), vs = [.ref p] ∧ TmT K H p ts ∧ ∀ H', Same H H' → Q (.int (PER ts)) H'
theorem per_pow {ts : List Tm} (h : ∀ t ∈ ts, OkT t) : ∀ (i : Nat), i ≤ 6 → 0 < PER (ts.take i) ∧ PER (ts.take i) ≤ 1000 ^ i
  | 0, _ => ⟨(show (0 : Int) < 1 by decide), (show (1 : Int) ≤ 1 by decide)⟩
  | i + 1, hi => by
    obtain ⟨h1, h2⟩ := per_pow h i (by omega)
    rw [List.take_add_one]
    cases e : ts[i]? with
    | none =>
      simp only [Option.toList_none, List.append_nil]
      refine ⟨h1, Int.le_trans h2 ?_⟩
      rw [Int.pow_succ]
      have : (0 : Int) < 1000 ^ i := Int.pow_pos (by decide)
      omega
    | some t =>
      have ok := h t (List.mem_of_getElem? e)
      have e2 : PER (ts.take i ++ (some t).toList) = lcmI (PER (ts.take i)) t.2.2.2 := by
        unfold PER
        rw [Option.toList_some, List.foldl_append]
        rfl
      rw [e2]
      have n0 := ok.n0
      refine ⟨(lcmI_facts h1 (by omega)).1, Int.le_trans (lcmI_le h1 (by omega)) ?_⟩
      rw [Int.pow_succ]
      exact Int.mul_le_mul h2 ok.n1 (by omega) (Int.le_of_lt (Int.pow_pos (by decide)))
theorem pow6 {i : Nat} (h : i ≤ 6) : (1000 : Int) ^ i ≤ 1000000000000000000 := by
  rcases (by omega : i = 0 ∨ i = 1 ∨ i = 2 ∨ i = 3 ∨ i = 4 ∨ i = 5 ∨ i = 6) with e | e | e | e | e | e | e <;> subst e <;> decide
theorem per_dvd {ts : List Tm} (h : ∀ t ∈ ts, OkT t) : ∀ (i : Nat), i ≤ 6 → ∀ t ∈ ts.take i, t.2.2.2 ∣ PER (ts.take i)
  | 0, _ => fun t ht => by simp at ht
  | i + 1, hi => by
    obtain ⟨h1, _⟩ := per_pow h i (by omega)
    have ih := per_dvd h i (by omega)
    rw [List.take_add_one]
    cases e : ts[i]? with
    | none =>
      simp only [Option.toList_none, List.append_nil]
      exact ih
    | some u =>
      have ok := h u (List.mem_of_getElem? e)
      have e2 : PER (ts.take i ++ (some u).toList) = lcmI (PER (ts.take i)) u.2.2.2 := by
        unfold PER
        rw [Option.toList_some, List.foldl_append]
        rfl
      have n0 := ok.n0
      have f := lcmI_facts h1 (show 0 < u.2.2.2 by omega)
      rw [e2]
      intro t ht
      rcases List.mem_append.mp ht with z | z
      · exact Int.dvd_trans (ih t z) f.2.1
      · rw [Option.toList_some, List.mem_singleton] at z
        subst z
        exact f.2.2.1
/-- the fields of a measure -/
def mF (b : Int) (p : Addr) (c s : Int) : List (Str × V) := [("base", .int b), ("terms", .ref p), ("full_count", .int c), ("full_sum", .int s)]
structure Me (K : PySem.W.Frag) (C : Addr) (H : Hp) (x : Addr) (b : Int) (ts : List Tm) : Prop where
  ex : ∃ dx p, H x = some (.ins C dx (mF b p (PER ts) (UP b ts (PER ts)))) ∧ TmT K H p ts
  gd : GoodM b ts
  po : 0 < UP b ts (PER ts)
def spUpto (K : PySem.W.Frag) (C : Addr) : Sp := fun vs H Q _ => ∃ (x p dx : Addr) (k b : Int) (ts : List Tm) (fs : List (Str × V)), vs = [.ref x, .int k] ∧ H x = some (.ins C dx fs) ∧ fs.lookup (Str.ofString "base") = some (V.int b) ∧ fs.lookup (Str.ofString "terms") = some (V.ref p) ∧ TmT K H p ts ∧ 0 ≤ b ∧ b ≤ 20000 ∧ Bt 400 k ∧ ∀ H', Same H H' → Q (.int (UP b ts k)) H'
def spSeek (K : PySem.W.Frag) (C : Addr) : Sp := fun vs H Q _ => ∃ (x : Addr) (n b : Int) (ts : List Tm), vs = [.ref x, .int n] ∧ Me K C H x b ts ∧ Bt 300 n ∧ ∀ (k : Int) H', Same H H' → UP b ts k ≤ n → n < UP b ts (k + 1) → Bt 370 k → Q (.int k) H'
def spInitM (K : PySem.W.Frag) (C : Addr) : Sp := fun vs H Q _ => ∃ (x dx : Addr) (b : Int) (v : V) (us : List V) (ts : List Tm), vs = [.ref x, .int b, v] ∧ H x = some (.ins C dx []) ∧ Tms H us ts ∧ ((v = .non ∧ us = []) ∨ ∃ l, v = .ref l ∧ H l = some (.lst us)) ∧ (∀ t ∈ ts, OkT t) ∧ ts.length ≤ 6 ∧ GoodM b ts ∧ 0 < UP b ts (PER ts) ∧
  ∀ H', (∀ y o, y ≠ x → H y = some o → H' y = some o) → Me K C H' x b ts → Q .non H'
theorem Me.same {K : PySem.W.Frag} {C : Addr} {H H' : Hp} {x : Addr} {b : Int} {ts : List Tm} (M : Me K C H x b ts) (s : Same H H') : Me K C H' x b ts := by
  obtain ⟨dx, p, e, T⟩ := M.ex
  exact ⟨⟨dx, p, s _ _ e, T.same s⟩, M.gd, M.po⟩
theorem Me.meth {K : PySem.W.Frag} {C : Addr} {H : Hp} {x : Addr} {b : Int} {ts : List Tm} (M : Me K C H x b ts) : ∃ dx fs, H x = some (.ins C dx fs) ∧ fs.lookup (Str.ofString "seek") = none ∧ fs.lookup (Str.ofString "at") = none ∧ fs.lookup (Str.ofString "upto") = none ∧ fs.lookup (Str.ofString "period") = none := by
  obtain ⟨dx, p, e, T⟩ := M.ex
  exact ⟨dx, _, e, rfl, rfl, rfl, rfl⟩
def spAt (K : PySem.W.Frag) (C : Addr) : Sp := fun vs H Q _ => ∃ (x : Addr) (k b : Int) (ts : List Tm), vs = [.ref x, .int k] ∧ Me K C H x b ts ∧ Bt 400 k ∧ ∀ H', Same H H' → Q (.int (AT b ts k)) H'
def spPer (K : PySem.W.Frag) (C : Addr) : Sp := fun vs H Q _ => ∃ (x : Addr) (b : Int) (ts : List Tm), vs = [.ref x] ∧ Me K C H x b ts ∧ Q (.int (PER ts)) H
theorem init_me {K : PySem.W.Frag} {C : Addr} {H1 : Hp} {x dx : Addr} {b : Int} {v : V} {us : List V} {ts : List Tm} {Q : VK} {E : XK} (hx : H1 x = none) (hdx : H1 dx = none) (ne : dx ≠ x) (hT : Tms H1 us ts) (hv : (v = .non ∧ us = []) ∨ ∃ l, v = .ref l ∧ H1 l = some (.lst us)) (ok : ∀ t ∈ ts, OkT t) (few : ts.length ≤ 6) (g : GoodM b ts) (po : 0 < UP b ts (PER ts))
    (q : ∀ H', Same H1 H' → Me K C H' x b ts → Q .non H') : spInitM K C [.ref x, .int b, v] (upd (upd H1 dx (.own x)) x (.ins C dx [])) Q E := by
  have k4 : Same H1 (upd (upd H1 dx (.own x)) x (.ins C dx [])) := (same_new hdx _).trans (same_new (by rw [upd_ne (Ne.symm ne)]; exact hx) _)
  have x4 : upd (upd H1 dx (.own x)) x (.ins C dx []) x = some (.ins C dx []) := upd_same
  refine ⟨x, dx, b, v, us, ts, rfl, x4, hT.same k4, ?_, ok, few, g, po, fun H5 k5 M => q _ (fun y o h => k5 y o (fun e => by subst e; rw [hx] at h; cases h) (k4 y o h)) M⟩
  rcases hv with z | ⟨l, z, e⟩
  · exact .inl z
  · exact .inr ⟨l, z, k4 _ _ e⟩
/-- all but one list -/
def But (l : Addr) (H H' : Hp) : Prop := ∀ y o, y ≠ l → H y = some o → H' y = some o
theorem But.upd {l : Addr} {H : Hp} {o : HO} : But l H (L2.upd H l o) := fun y o hy h => by rw [upd_ne hy]; exact h
/-- neither a tuple nor what is kept as it is -/
structure NoT (o : HO) : Prop where
  t : ∀ vs, o ≠ .tup vs
  f : ∀ ob u, o ≠ .frz ob u
theorem NoT.lst {xs : List V} : NoT (.lst xs) := ⟨fun _ z => (nomatch z), fun _ _ z => (nomatch z)⟩
theorem NoT.ins {C d : Addr} {fs : List (Str × V)} : NoT (.ins C d fs) := ⟨fun _ z => (nomatch z), fun _ _ z => (nomatch z)⟩
theorem Tms.but {l : Addr} {H H' : Hp} {o : HO} (hl : H l = some o) (no : NoT o) (k : But l H H') : ∀ {vs : List V} {ts : List Tm}, Tms H vs ts → Tms H' vs ts
  | _, _, .nil => .nil
  | _, _, .cons g r => .cons (k _ _ (ne_of g hl (Ne.symm (no.t _))) g) (Tms.but hl no k r)
theorem sqT_but {K : PySem.W.Frag} {l p : Addr} {H H' : Hp} {o : HO} {vs : List V} (hl : H l = some o) (no : NoT o) (k : But l H H') (h : SqT K H p vs) : SqT K H' p vs := by
  rcases h with (h | ⟨o, h⟩) | h
  · exact .inl (.inl (k _ _ (ne_of h hl (Ne.symm (no.t _))) h))
  · exact .inl (.inr ⟨o, k _ _ (ne_of h hl (Ne.symm (no.f _ _))) h⟩)
  · exact .inr h
theorem TmT.but {K : PySem.W.Frag} {l p : Addr} {H H' : Hp} {o : HO} {ts : List Tm} (hl : H l = some o) (no : NoT o) (k : But l H H') (T : TmT K H p ts) : TmT K H' p ts := by
  obtain ⟨vs, h1, h2⟩ := T.ex
  exact ⟨⟨vs, sqT_but hl no k h1, h2.but hl no k⟩, T.ok, T.few⟩
theorem Me.butX {K : PySem.W.Frag} {C l : Addr} {H H' : Hp} {o : HO} {x : Addr} {b : Int} {ts : List Tm} (M : Me K C H x b ts) (hl : H l = some o) (no : NoT o) (ne : x ≠ l) (k : But l H H') : Me K C H' x b ts := by
  obtain ⟨dx, p, e, T⟩ := M.ex
  exact ⟨⟨dx, p, k _ _ ne e, T.but hl no k⟩, M.gd, M.po⟩
theorem Me.but {K : PySem.W.Frag} {C l : Addr} {H H' : Hp} {xs : List V} {x : Addr} {b : Int} {ts : List Tm} (M : Me K C H x b ts) (hl : H l = some (.lst xs)) (k : But l H H') : Me K C H' x b ts := by
  obtain ⟨dx, p, e, T⟩ := M.ex
  exact M.butX hl .lst (ne_of e hl (by intro z; cases z)) k
theorem Tms.upd {H : Hp} {l : Addr} {xs : List V} {o : HO} (h : H l = some (.lst xs)) : ∀ {vs : List V} {ts : List Tm}, Tms H vs ts → Tms (L2.upd H l o) vs ts
  | _, _, .nil => .nil
  | _, _, .cons g r => .cons (by rw [upd_ne (ne_of g h (by intro z; cases z))]; exact g) (Tms.upd h r)
theorem Tms.snoc {H : Hp} {p : Addr} {t : Tm} (h : H p = some (.tup (tmV t))) : ∀ {vs : List V} {ts : List Tm}, Tms H vs ts → Tms H (vs ++ [.ref p]) (ts ++ [t])
  | _, _, .nil => .cons h .nil
  | _, _, .cons g r => .cons g (Tms.snoc h r)
def spNumB : Sp := fun vs H Q _ => ∃ c : Int, vs = [.int c] ∧ ∀ (k : Int) (H' : Hp), Same H H' → -10000000000000000000000000000000000000000 ≤ k → k ≤ 10000000000000000000000000000000000000000 → Q (.int k) H'
/-- terms in a list -/
structure TmL (K : PySem.W.Frag) (H : Hp) (l : Addr) (us : List V) (ts : List Tm) : Prop where
  li : H l = some (.lst us)
  tm : Tms H us ts
  ok : ∀ t ∈ ts, OkT t
  few : ts.length ≤ 6
theorem TmL.same {K : PySem.W.Frag} {H H' : Hp} {l : Addr} {us : List V} {ts : List Tm} (T : TmL K H l us ts) (s : Same H H') : TmL K H' l us ts := ⟨s _ _ T.li, T.tm.same s, T.ok, T.few⟩
theorem TmL.per {K : PySem.W.Frag} {H : Hp} {l : Addr} {us : List V} {ts : List Tm} (T : TmL K H l us ts) : 0 < PER ts ∧ PER ts ≤ 1000000000000000000 ∧ ∀ t ∈ ts, t.2.2.2 ∣ PER ts := by
  obtain ⟨h1, h2⟩ := per_pow T.ok 6 (by decide)
  have hd := per_dvd T.ok 6 (by decide)
  rw [List.take_of_length_le T.few] at h1 h2 hd
  exact ⟨h1, Int.le_trans h2 (pow6 (by decide)), hd⟩
theorem GoodS.gm {ls : List Int} {lp : Int} {ts : List Tm} (g : GoodS ls lp ts) : GoodM ls.sum ts := ⟨g.sum.1, g.sum.2, Int.le_of_lt g.f1⟩
theorem per_pos {ts : List Tm} (ok : ∀ t ∈ ts, OkT t) (few : ts.length ≤ 6) : 0 < PER ts ∧ PER ts ≤ 1000000000000000000 ∧ ∀ t ∈ ts, t.2.2.2 ∣ PER ts := by
  obtain ⟨h1, h2⟩ := per_pow ok 6 (by decide)
  have hd := per_dvd ok 6 (by decide)
  rw [List.take_of_length_le few] at h1 h2 hd
  exact ⟨h1, Int.le_trans h2 (pow6 (by decide)), hd⟩
theorem GoodS.po {ls : List Int} {lp : Int} {ts : List Tm} (g : GoodS ls lp ts) : 0 < UP ls.sum ts (PER ts) := UP_pos g.ok g.f1 (per_pos g.ok g.few).1
def sF (s lp : Int) (p y : Addr) : List (Str × V) := [("start", .int s), ("months", .ref p), ("leap", .int lp), ("years", .ref y)]
structure SunO (K : PySem.W.Frag) (CS CM : Addr) (H : Hp) (x : Addr) (s : Int) (ls : List Int) (lp : Int) (ts : List Tm) : Prop where
  ex : ∃ dx p y, H x = some (.ins CS dx (sF s lp p y)) ∧ SqT K H p (ls.map V.int) ∧ Me K CM H y ls.sum ts
  gd : GoodS ls lp ts
  bs : Bt 290 s
section
variable {K : PySem.W.Frag} {CS CM : Addr} {H H' : Hp} {x : Addr} {s : Int} {ls : List Int} {lp : Int} {ts : List Tm}
theorem SunO.same (S : SunO K CS CM H x s ls lp ts) (e : Same H H') : SunO K CS CM H' x s ls lp ts := by
  obtain ⟨dx, p, y, h1, h2, h3⟩ := S.ex
  exact ⟨⟨dx, p, y, e _ _ h1, e.tup h2, h3.same e⟩, S.gd, S.bs⟩
theorem SunO.but {l : Addr} {xs : List V} (S : SunO K CS CM H x s ls lp ts) (hl : H l = some (.lst xs)) (k : But l H H') : SunO K CS CM H' x s ls lp ts := by
  obtain ⟨dx, p, y, h1, h2, h3⟩ := S.ex
  exact ⟨⟨dx, p, y, k _ _ (ne_of h1 hl (by intro z; cases z)) h1, sqT_but hl .lst k h2, h3.but hl k⟩, S.gd, S.bs⟩
theorem SunO.meth (S : SunO K CS CM H x s ls lp ts) : ∃ dx fs, H x = some (.ins CS dx fs) ∧ fs.lookup (Str.ofString "year_start") = none ∧ fs.lookup (Str.ofString "year_at") = none ∧ fs.lookup (Str.ofString "lengths") = none ∧ fs.lookup (Str.ofString "cycle") = none ∧ fs.lookup (Str.ofString "date_of") = none ∧ fs.lookup (Str.ofString "day_of") = none := by
  obtain ⟨dx, p, y, e, _⟩ := S.ex
  exact ⟨dx, _, e, rfl, rfl, rfl, rfl, rfl, rfl⟩
end
def spRefMo (K : PySem.W.Frag) : Sp := fun vs H Q _ => ∃ (l : Addr) (lp : Int) (ls : List Int) (ts : List Tm), vs = [.ref l, .int lp] ∧ SqL K H l (ls.map V.int) ∧ GoodS ls lp ts ∧ Q .non H
def spInitS (K : PySem.W.Frag) (CS CM : Addr) : Sp := fun vs H Q _ => ∃ (x dx ll : Addr) (s lp : Int) (v : V) (us : List V) (ls : List Int) (ts : List Tm), vs = [.ref x, .int s, .ref ll, .int lp, v] ∧ H x = some (.ins CS dx []) ∧ H ll = some (.lst (ls.map V.int)) ∧ Tms H us ts ∧ ((v = .non ∧ us = []) ∨ ∃ l, v = .ref l ∧ H l = some (.lst us)) ∧ GoodS ls lp ts ∧ Bt 290 s ∧
  ∀ H', (∀ y o, y ≠ x → H y = some o → H' y = some o) → SunO K CS CM H' x s ls lp ts → Q .non H'
theorem init_sun {K : PySem.W.Frag} {CS CM : Addr} {H1 : Hp} {x dx ll : Addr} {s lp : Int} {v : V} {us : List V} {ls : List Int} {ts : List Tm} {Q : VK} {E : XK} (hx : H1 x = none) (hdx : H1 dx = none) (ne : dx ≠ x) (hl : H1 ll = some (.lst (ls.map V.int))) (hT : Tms H1 us ts) (hv : (v = .non ∧ us = []) ∨ ∃ l, v = .ref l ∧ H1 l = some (.lst us)) (g : GoodS ls lp ts) (bs : Bt 290 s)
    (q : ∀ H', Same H1 H' → SunO K CS CM H' x s ls lp ts → Q .non H') : spInitS K CS CM [.ref x, .int s, .ref ll, .int lp, v] (upd (upd H1 dx (.own x)) x (.ins CS dx [])) Q E := by
  have k4 : Same H1 (upd (upd H1 dx (.own x)) x (.ins CS dx [])) := (same_new hdx _).trans (same_new (by rw [upd_ne (Ne.symm ne)]; exact hx) _)
  have x4 : upd (upd H1 dx (.own x)) x (.ins CS dx []) x = some (.ins CS dx []) := upd_same
  refine ⟨x, dx, ll, s, lp, v, us, ls, ts, rfl, x4, k4 _ _ hl, hT.same k4, ?_, g, bs, fun H5 k5 M => q _ (fun y o h => k5 y o (fun e => by subst e; rw [hx] at h; cases h) (k4 y o h)) M⟩
  rcases hv with z | ⟨l, z, e⟩
  · exact .inl z
  · exact .inr ⟨l, z, k4 _ _ e⟩
def spYS (K : PySem.W.Frag) (CS CM : Addr) : Sp := fun vs H Q _ => ∃ (x : Addr) (n s : Int) (ls : List Int) (lp : Int) (ts : List Tm), vs = [.ref x, .int n] ∧ SunO K CS CM H x s ls lp ts ∧ Bt 390 n ∧ ∀ H', Same H H' → Q (.int (s + UP ls.sum ts n)) H'
def spYA (K : PySem.W.Frag) (CS CM : Addr) : Sp := fun vs H Q _ => ∃ (x : Addr) (n s : Int) (ls : List Int) (lp : Int) (ts : List Tm), vs = [.ref x, .int n] ∧ SunO K CS CM H x s ls lp ts ∧ Bt 290 n ∧ ∀ (k : Int) H', Same H H' → s + UP ls.sum ts k ≤ n → n < s + UP ls.sum ts (k + 1) → Bt 300 k → Q (.int k) H'
def spLens (K : PySem.W.Frag) (CS CM : Addr) : Sp := fun vs H Q _ => ∃ (x : Addr) (n s : Int) (ls : List Int) (lp : Int) (ts : List Tm), vs = [.ref x, .int n] ∧ SunO K CS CM H x s ls lp ts ∧ Bt 390 n ∧ ∀ (p : Addr) H', H p = none → Same H H' → H' p = some (.lst ((LENS ls lp ts n).map V.int)) → Q (.ref p) H'
def spCyc (K : PySem.W.Frag) (CS CM : Addr) : Sp := fun vs H Q _ => ∃ (x : Addr) (s : Int) (ls : List Int) (lp : Int) (ts : List Tm), vs = [.ref x] ∧ SunO K CS CM H x s ls lp ts ∧ ∀ (p : Addr) H', Same H H' → H' p = some (.tup [.int (PER ts), .int (UP ls.sum ts (PER ts))]) → Q (.ref p) H'
theorem bt_up {n : Nat} {b : Int} {ts : List Tm} (h : ∀ t ∈ ts, OkT t) (b0 : 0 ≤ b) (b1 : b ≤ 20000) (few : ts.length ≤ 6) {k : Int} (bk : Bt n k) : Bt (n + 16) (UP b ts k) := by
  have := UP_abs h b0 b1 few (k := k) (K := (k.natAbs : Int)) (by omega) (by omega)
  unfold Bt at *
  rw [Nat.pow_add]
  omega
def moF (s : Int) (d m : Addr) : List (Str × V) := [("start", .int s), ("days", .ref d), ("many", .ref m)]
structure MoonO (K : PySem.W.Frag) (CO CM : Addr) (H : Hp) (x : Addr) (s bd : Int) (td : List Tm) (bm : Int) (tm : List Tm) : Prop where
  ex : ∃ dx d m, H x = some (.ins CO dx (moF s d m)) ∧ Me K CM H d bd td ∧ Me K CM H m bm tm
  gd : GoodMo bd td bm tm
  bs : Bt 290 s
section
variable {K : PySem.W.Frag} {CO CM : Addr} {H H' : Hp} {x : Addr} {s bd : Int} {td : List Tm} {bm : Int} {tm : List Tm}
theorem MoonO.same (S : MoonO K CO CM H x s bd td bm tm) (e : Same H H') : MoonO K CO CM H' x s bd td bm tm := by
  obtain ⟨dx, d, m, h1, h2, h3⟩ := S.ex
  exact ⟨⟨dx, d, m, e _ _ h1, h2.same e, h3.same e⟩, S.gd, S.bs⟩
theorem MoonO.but {l : Addr} {xs : List V} (S : MoonO K CO CM H x s bd td bm tm) (hl : H l = some (.lst xs)) (k : But l H H') : MoonO K CO CM H' x s bd td bm tm := by
  obtain ⟨dx, d, m, h1, h2, h3⟩ := S.ex
  exact ⟨⟨dx, d, m, k _ _ (ne_of h1 hl (by intro z; cases z)) h1, h2.but hl k, h3.but hl k⟩, S.gd, S.bs⟩
theorem MoonO.meth (S : MoonO K CO CM H x s bd td bm tm) : ∃ dx fs, H x = some (.ins CO dx fs) ∧ fs.lookup (Str.ofString "year_start") = none ∧ fs.lookup (Str.ofString "year_at") = none ∧ fs.lookup (Str.ofString "lengths") = none ∧ fs.lookup (Str.ofString "cycle") = none ∧ fs.lookup (Str.ofString "date_of") = none ∧ fs.lookup (Str.ofString "day_of") = none := by
  obtain ⟨dx, d, m, e, _⟩ := S.ex
  exact ⟨dx, _, e, rfl, rfl, rfl, rfl, rfl, rfl⟩
end
def spRefPt (K : PySem.W.Frag) (C : Addr) : Sp := fun vs H Q _ => ∃ (y : Addr) (b g : Int) (ts : List Tm), vs = [.ref y, .int g] ∧ Me K C H y b ts ∧ falls ts < b ∧ b ≤ g ∧ ∀ H', Same H H' → Q .non H'
def spInitMo (K : PySem.W.Frag) (CO CM : Addr) : Sp := fun vs H Q _ => ∃ (x dx d m : Addr) (s bd bm : Int) (td tm : List Tm), vs = [.ref x, .int s, .ref d, .ref m] ∧ H x = some (.ins CO dx []) ∧ Me K CM H d bd td ∧ Me K CM H m bm tm ∧ GoodMo bd td bm tm ∧ Bt 290 s ∧
  ∀ H', (∀ y o, y ≠ x → H y = some o → H' y = some o) → MoonO K CO CM H' x s bd td bm tm → Q .non H'
theorem init_moon {K : PySem.W.Frag} {CO CM : Addr} {H1 : Hp} {x dx d m : Addr} {s bd bm : Int} {td tm : List Tm} {Q : VK} {E : XK} (hx : H1 x = none) (hdx : H1 dx = none) (ne : dx ≠ x) (hd : Me K CM H1 d bd td) (hm : Me K CM H1 m bm tm) (g : GoodMo bd td bm tm) (bs : Bt 290 s)
    (q : ∀ H', Same H1 H' → MoonO K CO CM H' x s bd td bm tm → Q .non H') : spInitMo K CO CM [.ref x, .int s, .ref d, .ref m] (upd (upd H1 dx (.own x)) x (.ins CO dx [])) Q E := by
  have k4 : Same H1 (upd (upd H1 dx (.own x)) x (.ins CO dx [])) := (same_new hdx _).trans (same_new (by rw [upd_ne (Ne.symm ne)]; exact hx) _)
  have x4 : upd (upd H1 dx (.own x)) x (.ins CO dx []) x = some (.ins CO dx []) := upd_same
  exact ⟨x, dx, d, m, s, bd, bm, td, tm, rfl, x4, hd.same k4, hm.same k4, g, bs, fun H5 k5 M => q _ (fun y o h => k5 y o (fun e => by subst e; rw [hx] at h; cases h) (k4 y o h)) M⟩
def spMYS (K : PySem.W.Frag) (CO CM : Addr) : Sp := fun vs H Q _ => ∃ (x : Addr) (n s bd bm : Int) (td tm : List Tm), vs = [.ref x, .int n] ∧ MoonO K CO CM H x s bd td bm tm ∧ Bt 370 n ∧ ∀ H', Same H H' → Q (.int (MYS s bd td bm tm n)) H'
def spMYA (K : PySem.W.Frag) (CO CM : Addr) : Sp := fun vs H Q _ => ∃ (x : Addr) (n s bd bm : Int) (td tm : List Tm), vs = [.ref x, .int n] ∧ MoonO K CO CM H x s bd td bm tm ∧ Bt 290 n ∧ ∀ (k : Int) H', Same H H' → MYS s bd td bm tm k ≤ n → n < MYS s bd td bm tm (k + 1) → Bt 300 k → Q (.int k) H'
def spMLens (K : PySem.W.Frag) (CO CM : Addr) : Sp := fun vs H Q _ => ∃ (x : Addr) (n s bd bm : Int) (td tm : List Tm), vs = [.ref x, .int n] ∧ MoonO K CO CM H x s bd td bm tm ∧ Bt 370 n ∧ ∀ (p : Addr) H', H p = none → Same H H' → H' p = some (.lst ((MLEN bd td bm tm n).map V.int)) → Q (.ref p) H'
/-- a measure as a tuple of its base and its list of terms -/
structure MdT (K : PySem.W.Frag) (H : Hp) (p l : Addr) (us : List V) (b : Int) (ts : List Tm) : Prop where
  tu : H p = some (.tup [.int b, .ref l])
  tm : TmL K H l us ts
  fl : falls ts < b
theorem MdT.same {K : PySem.W.Frag} {H H' : Hp} {p l : Addr} {us : List V} {b : Int} {ts : List Tm} (T : MdT K H p l us b ts) (s : Same H H') : MdT K H' p l us b ts := ⟨s _ _ T.tu, T.tm.same s, T.fl⟩
theorem good_m {b : Int} {ts : List Tm} (f : falls ts < b) (h : b ≤ 1000) : GoodM b ts := ⟨by have := falls_nn (ts := ts); omega, by omega, Int.le_of_lt f⟩
theorem cutV_upto (xs : List Int) {j : Nat} (hj : j ≤ xs.length) : cutV (xs.map V.int) none (some (j : Int)) = (xs.take j).map V.int := by
  unfold cutV
  rw [HT.sIx_none, HT.sIx_nat, List.length_map, Nat.min_eq_left hj, List.drop_zero, Nat.sub_zero, List.map_take]
theorem rd_brk {D : Ends} {σ : L2.St} {H : Hp} (h : D.bk σ H) : tBreak D σ H := h
def CalO (K : PySem.W.Frag) (CS CO CM : Addr) (H : Hp) (x : Addr) : CalD → Prop
  | .sun s ls lp ts => SunO K CS CM H x s ls lp ts
  | .moon s bd td bm tm => MoonO K CO CM H x s bd td bm tm
def isSun : CalD → Bool
  | .sun .. => true
  | .moon .. => false
section
variable {K : PySem.W.Frag} {CS CO CM : Addr} {H H' : Hp} {x : Addr} {d : CalD}
theorem CalO.same (S : CalO K CS CO CM H x d) (e : Same H H') : CalO K CS CO CM H' x d := by
  cases d with
  | sun s ls lp ts => exact SunO.same S e
  | moon s bd td bm tm => exact MoonO.same S e
theorem CalO.but {l : Addr} {xs : List V} (S : CalO K CS CO CM H x d) (hl : H l = some (.lst xs)) (k : But l H H') : CalO K CS CO CM H' x d := by
  cases d with
  | sun s ls lp ts => exact SunO.but S hl k
  | moon s bd td bm tm => exact MoonO.but S hl k
theorem CalO.good (S : CalO K CS CO CM H x d) : d.good := by
  cases d with
  | sun s ls lp ts => exact SunO.gd S
  | moon s bd td bm tm => exact MoonO.gd S
theorem CalO.bs (S : CalO K CS CO CM H x d) : Bt 290 d.st := by
  cases d with
  | sun s ls lp ts => exact SunO.bs S
  | moon s bd td bm tm => exact MoonO.bs S
theorem CalO.ys (S : CalO K CS CO CM H x d) : ∃ C dx fs sp, (C, sp) ∈ [(CS, spYS K CS CM), (CO, spMYS K CO CM)] ∧ H x = some (.ins C dx fs) ∧ fs.lookup (Str.ofString "year_start") = none ∧
    ∀ {H2 : Hp} {n : Int} {Q : VK} {E : XK}, CalO K CS CO CM H2 x d → Bt 370 n → (∀ H', Same H2 H' → Q (.int (d.Y n)) H') → sp [.ref x, .int n] H2 Q E := by
  cases d with
  | sun s ls lp ts =>
    obtain ⟨dx, fs, e, m⟩ := SunO.meth S
    exact ⟨CS, dx, fs, _, List.mem_cons_self, e, m.1, fun S2 bn q => ⟨x, _, s, ls, lp, ts, rfl, S2, bn.mono (by decide), q⟩⟩
  | moon s bd td bm tm =>
    obtain ⟨dx, fs, e, m⟩ := MoonO.meth S
    exact ⟨CO, dx, fs, _, List.mem_cons_of_mem _ List.mem_cons_self, e, m.1, fun S2 bn q => ⟨x, _, s, bd, bm, td, tm, rfl, S2, bn, q⟩⟩
theorem CalO.le (S : CalO K CS CO CM H x d) : ∃ C dx fs sp, (C, sp) ∈ [(CS, spLens K CS CM), (CO, spMLens K CO CM)] ∧ H x = some (.ins C dx fs) ∧ fs.lookup (Str.ofString "lengths") = none ∧
    ∀ {H2 : Hp} {n : Int} {Q : VK} {E : XK}, CalO K CS CO CM H2 x d → Bt 370 n → (∀ (p : Addr) H', H2 p = none → Same H2 H' → H' p = some (.lst ((d.L n).map V.int)) → Q (.ref p) H') → sp [.ref x, .int n] H2 Q E := by
  cases d with
  | sun s ls lp ts =>
    obtain ⟨dx, fs, e, m⟩ := SunO.meth S
    exact ⟨CS, dx, fs, _, List.mem_cons_self, e, m.2.2.1, fun S2 bn q => ⟨x, _, s, ls, lp, ts, rfl, S2, bn.mono (by decide), q⟩⟩
  | moon s bd td bm tm =>
    obtain ⟨dx, fs, e, m⟩ := MoonO.meth S
    exact ⟨CO, dx, fs, _, List.mem_cons_of_mem _ List.mem_cons_self, e, m.2.2.1, fun S2 bn q => ⟨x, _, s, bd, bm, td, tm, rfl, S2, bn, q⟩⟩
end
/-- the date of a day; b: of the sun -/
def spDate (K : PySem.W.Frag) (CS CO CM : Addr) (b : Bool) : Sp := fun vs H Q _ => ∃ (x : Addr) (n : Int) (d : CalD), vs = [.ref x, .int n] ∧ isSun d = b ∧ CalO K CS CO CM H x d ∧ Bt 290 n ∧ ∀ (p : Addr) (y m r : Int) H', Same H H' → H' p = some (.tup [.int y, .int m, .int r]) → IsD d y m r → DayOf d y m r = n → Bt 300 y → Q (.ref p) H'
/-- the day of a date that is one -/
def spDay (K : PySem.W.Frag) (CS CO CM : Addr) (b : Bool) : Sp := fun vs H Q _ => ∃ (x p : Addr) (y m r : Int) (d : CalD), vs = [.ref x, .ref p] ∧ isSun d = b ∧ CalO K CS CO CM H x d ∧ SqT K H p [.int y, .int m, .int r] ∧ IsD d y m r ∧ Bt 360 y ∧ ∀ H', Same H H' → Q (.int (DayOf d y m r)) H'
section
variable {K : PySem.W.Frag} {CS CO CM : Addr} {H H' : Hp} {x : Addr} {d : CalD}
theorem CalO.dt (S : CalO K CS CO CM H x d) : ∃ C dx fs sp, (C, sp) ∈ [(CS, spDate K CS CO CM true), (CO, spDate K CS CO CM false)] ∧ H x = some (.ins C dx fs) ∧ fs.lookup (Str.ofString "date_of") = none ∧
    ∀ {H2 : Hp} {n : Int} {Q : VK} {E : XK}, CalO K CS CO CM H2 x d → Bt 290 n → (∀ (p : Addr) (y m r : Int) H', Same H2 H' → H' p = some (.tup [.int y, .int m, .int r]) → IsD d y m r → DayOf d y m r = n → Bt 300 y → Q (.ref p) H') → sp [.ref x, .int n] H2 Q E := by
  cases d with
  | sun s ls lp ts =>
    obtain ⟨dx, fs, e, m⟩ := SunO.meth S
    exact ⟨CS, dx, fs, _, List.mem_cons_self, e, m.2.2.2.2.1, fun S2 bn q => ⟨x, _, _, rfl, rfl, S2, bn, q⟩⟩
  | moon s bd td bm tm =>
    obtain ⟨dx, fs, e, m⟩ := MoonO.meth S
    exact ⟨CO, dx, fs, _, List.mem_cons_of_mem _ List.mem_cons_self, e, m.2.2.2.2.1, fun S2 bn q => ⟨x, _, _, rfl, rfl, S2, bn, q⟩⟩
theorem CalO.dy (S : CalO K CS CO CM H x d) : ∃ C dx fs sp, (C, sp) ∈ [(CS, spDay K CS CO CM true), (CO, spDay K CS CO CM false)] ∧ H x = some (.ins C dx fs) ∧ fs.lookup (Str.ofString "day_of") = none ∧
    ∀ {H2 : Hp} {p : Addr} {y m r : Int} {Q : VK} {E : XK}, CalO K CS CO CM H2 x d → SqT K H2 p [.int y, .int m, .int r] → IsD d y m r → Bt 360 y → (∀ H', Same H2 H' → Q (.int (DayOf d y m r)) H') → sp [.ref x, .ref p] H2 Q E := by
  cases d with
  | sun s ls lp ts =>
    obtain ⟨dx, fs, e, m⟩ := SunO.meth S
    exact ⟨CS, dx, fs, _, List.mem_cons_self, e, m.2.2.2.2.2, fun S2 hp hd by' q => ⟨x, _, _, _, _, _, rfl, rfl, S2, hp, hd, by', q⟩⟩
  | moon s bd td bm tm =>
    obtain ⟨dx, fs, e, m⟩ := MoonO.meth S
    exact ⟨CO, dx, fs, _, List.mem_cons_of_mem _ List.mem_cons_self, e, m.2.2.2.2.2, fun S2 hp hd by' q => ⟨x, _, _, _, _, _, rfl, rfl, S2, hp, hd, by', q⟩⟩
end
theorem CalD.bt {d : CalD} {k : Nat} (g : d.good) {n : Int} (h : Bt 250 n) (hs : Bt 250 d.st) : Bt 283 (d.Y n) := by
  cases d with
  | sun s ls lp ts =>
    have := bt_up (GoodS.ok g) (GoodS.sum g).1 (GoodS.sum g).2 (GoodS.few g) h
    exact ((hs.mono (show 250 ≤ 266 by decide)).add this).mono (by decide)
  | moon s bd td bm tm =>
    have f1 := falls_nn (ts := td)
    have f2 := falls_nn (ts := tm)
    have h1 := GoodMo.fd g
    have h2 := GoodMo.fm g
    have h3 := GoodMo.gd g
    have h4 := GoodMo.gm g
    have a := bt_up (b := bm) (GoodMo.okm g) (by omega) (by omega) (GoodMo.fwm g) h
    have b := bt_up (b := bd) (GoodMo.okd g) (by omega) (by omega) (GoodMo.fwd g) a
    exact (hs.mono (show 250 ≤ 282 by decide)).add b
def spMCyc (K : PySem.W.Frag) (CO CM : Addr) : Sp := fun vs H Q _ => ∃ (x : Addr) (s bd bm : Int) (td tm : List Tm), vs = [.ref x] ∧ MoonO K CO CM H x s bd td bm tm ∧ ∀ (p : Addr) H', Same H H' → H' p = some (.tup [.int (PER tm * moT td bm tm), .int (UP bd td (UP bm tm (PER tm) * moT td bm tm))]) → Q (.ref p) H'
theorem CalO.cyc {K : PySem.W.Frag} {CS CO CM : Addr} {H : Hp} {x : Addr} {d : CalD} (S : CalO K CS CO CM H x d) : ∃ C dx fs sp, (C, sp) ∈ [(CS, spCyc K CS CM), (CO, spMCyc K CO CM)] ∧ H x = some (.ins C dx fs) ∧ fs.lookup (Str.ofString "cycle") = none ∧
    ∀ {H2 : Hp} {Q : VK} {E : XK}, CalO K CS CO CM H2 x d → (∀ (p : Addr) H', Same H2 H' → H' p = some (.tup [.int d.cy.1, .int d.cy.2]) → Q (.ref p) H') → sp [.ref x] H2 Q E := by
  cases d with
  | sun s ls lp ts =>
    obtain ⟨dx, fs, e, m⟩ := SunO.meth S
    exact ⟨CS, dx, fs, _, List.mem_cons_self, e, m.2.2.2.1, fun S2 q => ⟨x, s, ls, lp, ts, rfl, S2, q⟩⟩
  | moon s bd td bm tm =>
    obtain ⟨dx, fs, e, m⟩ := MoonO.meth S
    exact ⟨CO, dx, fs, _, List.mem_cons_of_mem _ List.mem_cons_self, e, m.2.2.2.1, fun S2 q => ⟨x, s, bd, bm, td, tm, rfl, S2, q⟩⟩
/-- NoDate with its date -/
def ENoD (cD p : Addr) (H : Hp) (E : XK) : Prop := ∀ d H', Same H H' → H' d = some (.xd [("date", .ref p)]) → E (.ref cD) (some d) H'
theorem bt_log {k : Nat} {x : Int} (h : Bt k x) (hk : k ≤ 1920) (h0 : 0 < k) : x.natAbs.log2 < 1920 := by
  unfold Bt at h
  by_cases z : x.natAbs = 0
  · rw [z]; decide
  · exact Nat.lt_of_lt_of_le ((Nat.log2_lt z).mpr h) hk
def spDayE (K : PySem.W.Frag) (CS CO CM cD : Addr) (b : Bool) : Sp := fun vs H Q E => ∃ (x p : Addr) (y m r : Int) (d : CalD), vs = [.ref x, .ref p] ∧ isSun d = b ∧ CalO K CS CO CM H x d ∧ SqT K H p [.int y, .int m, .int r] ∧ Bt 300 y ∧ Bt 300 m ∧ Bt 300 r ∧ (IsD d y m r → ∀ H', Same H H' → Q (.int (DayOf d y m r)) H') ∧ (¬ IsD d y m r → ENoD cD p H E)
theorem CalO.dyE {K : PySem.W.Frag} {CS CO CM cD : Addr} {H : Hp} {x : Addr} {d : CalD} (S : CalO K CS CO CM H x d) : ∃ C dx fs sp, (C, sp) ∈ [(CS, spDayE K CS CO CM cD true), (CO, spDayE K CS CO CM cD false)] ∧ H x = some (.ins C dx fs) ∧ fs.lookup (Str.ofString "day_of") = none ∧
    ∀ {H2 : Hp} {p : Addr} {y m r : Int} {Q : VK} {E : XK}, CalO K CS CO CM H2 x d → SqT K H2 p [.int y, .int m, .int r] → Bt 300 y → Bt 300 m → Bt 300 r → (IsD d y m r → ∀ H', Same H2 H' → Q (.int (DayOf d y m r)) H') → (¬ IsD d y m r → ENoD cD p H2 E) → sp [.ref x, .ref p] H2 Q E := by
  cases d with
  | sun s ls lp ts =>
    obtain ⟨dx, fs, e, m⟩ := SunO.meth S
    exact ⟨CS, dx, fs, _, List.mem_cons_self, e, m.2.2.2.2.2, fun S2 hp b1 b2 b3 q1 q2 => ⟨x, _, _, _, _, _, rfl, rfl, S2, hp, b1, b2, b3, q1, q2⟩⟩
  | moon s bd td bm tm =>
    obtain ⟨dx, fs, e, m⟩ := MoonO.meth S
    exact ⟨CO, dx, fs, _, List.mem_cons_of_mem _ List.mem_cons_self, e, m.2.2.2.2.2, fun S2 hp b1 b2 b3 q1 q2 => ⟨x, _, _, _, _, _, rfl, rfl, S2, hp, b1, b2, b3, q1, q2⟩⟩
instance {a b c a' b' c' : Int} : Decidable (DLe a b c a' b' c') := by unfold DLe; infer_instance
instance {a b c a' b' c' : Int} : Decidable (DLt a b c a' b' c') := by unfold DLt; infer_instance
def cF (o n : Addr) (k : Int) (lo fn : Addr) : List (Str × V) := [("old", .ref o), ("new", .ref n), ("day", .int k), ("last_old", .ref lo), ("first_new", .ref fn)]
def CalH (K : PySem.W.Frag) (CS CO CM CC : Addr) (H : Hp) : Addr → CalT → Prop
  | x, .one d => CalO K CS CO CM H x d
  | x, .chg a b k => ∃ (dx o n lo fn : Addr) (p q s p' q' s' : Int), H x = some (.ins CC dx (cF o n k lo fn)) ∧ CalH K CS CO CM CC H o a ∧ CalH K CS CO CM CC H n b ∧ H lo = some (.tup [.int p, .int q, .int s]) ∧ H fn = some (.tup [.int p', .int q', .int s']) ∧
    a.D (k - 1) p q s ∧ b.D k p' q' s' ∧ DLt p q s p' q' s' ∧ Bt 288 k
section
variable {K : PySem.W.Frag} {CS CO CM CC cD cG : Addr} {H H' : Hp}
theorem CalH.same : ∀ {c : CalT} {x : Addr}, CalH K CS CO CM CC H x c → Same H H' → CalH K CS CO CM CC H' x c
  | .one d, x, S, e => CalO.same S e
  | .chg a b k, x, S, e => by
    obtain ⟨dx, o, n, lo, fn, p, q, s, p', q', s', h1, h2, h3, h4, h5, h6⟩ := S
    exact ⟨dx, o, n, lo, fn, p, q, s, p', q', s', e _ _ h1, CalH.same h2 e, CalH.same h3 e, e _ _ h4, e _ _ h5, h6⟩
theorem CalH.good : ∀ {c : CalT} {x : Addr}, CalH K CS CO CM CC H x c → c.good
  | .one d, x, S => CalO.good S
  | .chg a b k, x, S => by
    obtain ⟨dx, o, n, lo, fn, p, q, s, p', q', s', h1, h2, h3, h4, h5, h6, h7, h8, _⟩ := S
    exact ⟨CalH.good h2, CalH.good h3, p, q, s, p', q', s', h6, h7, h8⟩
end
section
variable {K : PySem.W.Frag} {CS CO CM CC cD cG : Addr} {H H' : Hp} {x : Addr}
end
theorem CalD.btk {d : CalD} {k : Nat} (g : d.good) {n : Int} (h : Bt k n) (hs : Bt k d.st) : Bt (k + 33) (d.Y n) := by
  cases d with
  | sun s ls lp ts =>
    have := bt_up (GoodS.ok g) (GoodS.sum g).1 (GoodS.sum g).2 (GoodS.few g) h
    exact ((Bt.mono hs (show k ≤ k + 16 by omega)).add this).mono (by omega)
  | moon s bd td bm tm =>
    have f1 := falls_nn (ts := td)
    have f2 := falls_nn (ts := tm)
    have h1 := GoodMo.fd g
    have h2 := GoodMo.fm g
    have h3 := GoodMo.gd g
    have h4 := GoodMo.gm g
    have a := bt_up (b := bm) (GoodMo.okm g) (by omega) (by omega) (GoodMo.fwm g) h
    have b := bt_up (b := bd) (GoodMo.okd g) (by omega) (by omega) (GoodMo.fwd g) a
    exact ((Bt.mono hs (show k ≤ k + 16 + 16 by omega)).add b).mono (by omega)
def CalT.bd (k : Nat) : CalT → Prop
  | .one d => Bt k d.st
  | .chg a b _ => a.bd k ∧ b.bd k
theorem CalT.nb {k : Nat} : ∀ {c : CalT}, c.good → c.bd k → ∀ {n y m r : Int}, Bt k y → c.D n y m r → Bt (k + 36) n
  | .one d, g, b, n, y, m, r, by', h => by
    have e := h.1.year g
    rw [h.2] at e
    have b' : Bt k d.st := b
    have p1 : 0 < 2 ^ k := Nat.two_pow_pos k
    have by1 : Bt (k + 1) (y + 1) := by unfold Bt at *; rw [Nat.pow_succ]; omega
    have u1 := CalD.btk g by' b'
    have u2 := CalD.btk g by1 (b'.mono (by omega))
    have u1' := u1.mono (show k + 33 ≤ k + 36 by omega)
    have u2' := u2.mono (show k + 1 + 33 ≤ k + 36 by omega)
    unfold Bt at u1' u2' ⊢
    omega
  | .chg a b k', g, z, n, y, m, r, by', h => by
    rcases h with ⟨_, h⟩ | ⟨_, h⟩
    · exact CalT.nb g.1 z.1 by' h
    · exact CalT.nb g.2.1 z.2 by' h
theorem Bt.sub {k : Nat} {x y : Int} (h : Bt k x) (g : Bt k y) : Bt (k + 1) (x - y) := by
  unfold Bt at *
  rw [Nat.pow_succ]
  omega
theorem Bt.one (k : Nat) : Bt (k + 1) 1 := by
  unfold Bt
  have : 0 < 2 ^ k := Nat.two_pow_pos k
  rw [Nat.pow_succ]
  omega
/-- the law's own number by a cell -/
def mixF (c k : Int) : Int := if c % 2 = 0 then Builtin.bitAnd (c / 2 / 2 ^ (41 * k).toNat) 2199023255551 else
  (c % 2147483647 + 7919 * k + 1) * 48271 % 2147483647 * ((c % 2147483647 + 7919 * k + 1) * 48271 % 2147483647 / 1009 + 69621) % 2147483647 * ((c % 2147483647 + 7919 * k + 1) * 48271 % 2147483647 * ((c % 2147483647 + 7919 * k + 1) * 48271 % 2147483647 / 1009 + 69621) % 2147483647 / 4099 + 16807 + k) % 2147483629
def spMixedD : Sp := fun vs H Q _ => ∃ c k : Int, vs = [.int c, .int k] ∧ 0 ≤ k ∧ k ≤ 100 ∧ Q (.int (mixF c k)) H
def pk2 (a b i : Int) : Int := if i = 0 then a else b
theorem at_pk2 {a b : Int} (i : Int) : atI (([a, b] : List Int).map V.int) (i % 2) = some (V.int (pk2 a b (i % 2))) := by
  rcases (by omega : i % 2 = 0 ∨ i % 2 = 1) with e | e <;> rw [e] <;> rfl
theorem tms_take {H : Hp} : ∀ {vs : List V} {ts : List Tm} (k : Nat), Tms H vs ts → Tms H (vs.take k) (ts.take k)
  | _, _, 0, _ => .nil
  | _, _, k + 1, .nil => .nil
  | _, _, k + 1, .cons g r => .cons g (tms_take k r)
def pcsV (b k : Nat) : List V := (List.range k).map fun j => V.int ((pc b j : Nat) : Int)
theorem pcsV_len (b k : Nat) : (pcsV b k).length = k := by unfold pcsV; simp
theorem pcsV_at {b k j : Nat} (h : j < k) : (pcsV b k)[j]? = some (V.int ((pc b j : Nat) : Int)) := by
  unfold pcsV
  rw [List.getElem?_map, List.getElem?_range h]
  rfl
theorem pcsV_zero (k : Nat) : (List.replicate k [V.int 0]).flatten = pcsV 0 k := by
  unfold pcsV
  have : (fun j => V.int ((pc 0 j : Nat) : Int)) = fun _ => V.int 0 := by
    funext j
    unfold pc
    simp
  rw [this, List.map_const', List.length_range]
  induction k with
  | zero => rfl
  | succ k ih => rw [List.replicate_succ, List.flatten_cons, ih, List.replicate_succ]; rfl
theorem pcsV_set {b k p : Nat} (h : p / 256 < k) : (pcsV b k).set (p / 256) (V.int ((pc b (p / 256) ||| 2 ^ (p % 256) : Nat) : Int)) = pcsV (b ||| 2 ^ p) k := by
  refine List.ext_getElem? fun j => ?_
  rw [List.getElem?_set]
  by_cases hj : j < k
  · rw [pcsV_at hj]
    by_cases c : p / 256 = j
    · rw [if_pos c, if_pos (by rw [pcsV_len]; omega)]
      subst c
      rw [pcsV_at hj, pc_or_at]
    · rw [if_neg c, pcsV_at hj, pc_or_ne (Ne.symm c)]
  · have e : ∀ b, (pcsV b k)[j]? = none := fun b => List.getElem?_eq_none (by rw [pcsV_len]; omega)
    rw [if_neg (by omega), e, e]
theorem rb_bits {n : Int} {b : Nat} (hn : 0 < n) (hb : b < 2 ^ n.toNat) : b % 2 ^ (256 * ((n / 256 + 1).toNat)) = b :=
  Nat.mod_eq_of_lt (Nat.lt_of_lt_of_le hb (Nat.pow_le_pow_right (by decide) (by omega)))
def okNum (v : V) : Prop := ∃ i : Int, v = .int i ∧ i.natAbs.log2 < 1920
def ELong (cT : Addr) (n : Int) (H : Hp) (E : XK) : Prop := ∀ d H', Same H H' → H' d = some (.xd [("needed", .int n)]) → E (.ref cT) (some d) H'
def ENum (cN : Addr) (H : Hp) (E : XK) : Prop := ∀ H', Same H H' → E (.ref cN) none H'
theorem ELong.later {cT : Addr} {n : Int} {H H' : Hp} {E : XK} (h : ELong cT n H E) (s : Same H H') : ELong cT n H' E := fun d H2 s2 e => h d H2 (s.trans s2) e
theorem ENum.here {cN : Addr} {H : Hp} {E : XK} (h : ENum cN H E) : E (.ref cN) none H := h H (Same.refl H)
theorem ENum.later {cN : Addr} {H H' : Hp} {E : XK} (h : ENum cN H E) (s : Same H H') : ENum cN H' E := fun H2 s2 => h H2 (s.trans s2)
def spRefuseE (cN : Addr) : Sp := fun vs H Q E => ∃ n : Int, vs = [.int n] ∧ (1 ≤ n → Q .non H) ∧ (n < 1 → ENum cN H E)
def spTooLongE (cT : Addr) : Sp := fun vs H Q E => ∃ n : Int, vs = [.int n] ∧ Bt 1900 n ∧ (n ≤ 150000 → Q .non H) ∧ (150000 < n → ELong cT n H E)
/-- a month or a day that is asked for, or none -/
def oI (o : Option Int) : V := match o with | none => .non | some i => .int i
structure WantOk (m d : Option Int) (st : Int) : Prop where
  m1 : ∀ i, m = some i → 1 ≤ i
  d0 : d ≠ some 0
  st : 1 ≤ st
def spWantE (cN : Addr) : Sp := fun vs H Q E => ∃ (m d : Option Int) (st : Int), vs = [oI m, oI d, .int st] ∧ (WantOk m d st → Q .non H) ∧ (¬ WantOk m d st → ENum cN H E)
/-- the wanted days of a month -/
def domF (f n : Int) (d : Option Int) : List Int := match d with
  | none => (List.range n.toNat).map fun i : Nat => f + (i : Int)
  | some i => if 0 < i then (if n ≤ i - 1 then [] else [f + (i - 1)]) else (if n + i < 0 ∨ n ≤ n + i then [] else [f + (n + i)])
def spCyc44 (CC cN : Addr) : Sp := fun vs H _ E => ∃ x : Addr, vs = [.ref x] ∧ E (.ref cN) none H
def spRoundByE (K : PySem.W.Frag) (cN cT : Addr) : Sp := fun vs H Q E => ∃ (a : Addr) (ds : List Int) (n : Int), vs = [.int n, .ref a] ∧ SqL K H a (ds.map V.int) ∧ Bt 1900 n ∧
  (1 ≤ n → n ≤ 150000 → ∀ (p : Addr) (b : Nat) (H' : Hp), Same H H' → H' p = some (.tup [.int n, .int (b : Int)]) → RB n ds b → Q (.ref p) H') ∧ (n < 1 → ENum cN H E) ∧ (150000 < n → ELong cT n H E)
/-- as many days as the common years need -/
def dSize (d : CalD) (st : Int) : Int := lcmI d.cy.1 st / d.cy.1 * d.cy.2
/-- a calendar that has a cycle, or a change -/
def CalOr (K : PySem.W.Frag) (CS CO CM CC : Addr) (H : Hp) (x : Addr) : Option CalD → Prop
  | some d => CalO K CS CO CM H x d ∧ Bt 200 d.cy.1 ∧ Bt 200 d.cy.2
  | none => ∃ dx fs, H x = some (.ins CC dx fs) ∧ fs.lookup (Str.ofString "cycle") = none
theorem CalOr.same {K : PySem.W.Frag} {CS CO CM CC : Addr} {H H' : Hp} {x : Addr} {o : Option CalD} (S : CalOr K CS CO CM CC H x o) (s : Same H H') : CalOr K CS CO CM CC H' x o := by
  cases o with
  | none =>
    obtain ⟨dx, fs, e, l⟩ := S
    exact ⟨dx, fs, s _ _ e, l⟩
  | some d => exact ⟨CalO.same S.1 s, S.2⟩
theorem CalOr.cyc {K : PySem.W.Frag} {CS CO CM CC cY : Addr} {H : Hp} {x : Addr} {o : Option CalD} (S : CalOr K CS CO CM CC H x o) : ∃ C dx fs sp, (C, sp) ∈ [(CS, spCyc K CS CM), (CO, spMCyc K CO CM), (CC, spCyc44 CC cY)] ∧ H x = some (.ins C dx fs) ∧ fs.lookup (Str.ofString "cycle") = none ∧
    ∀ {Q : VK} {E : XK}, (∀ d, o = some d → ∀ (p : Addr) H', Same H H' → H' p = some (.tup [.int d.cy.1, .int d.cy.2]) → Q (.ref p) H') → (o = none → E (.ref cY) none H) → sp [.ref x] H Q E := by
  cases o with
  | none =>
    obtain ⟨dx, fs, e, l⟩ := S
    exact ⟨CC, dx, fs, _, List.mem_cons_of_mem _ (List.mem_cons_of_mem _ List.mem_cons_self), e, l, fun _ h => ⟨x, rfl, h rfl⟩⟩
  | some d =>
    have S1 := S.1
    cases d with
    | sun s ls lp ts =>
      obtain ⟨dx, fs, e, m⟩ := SunO.meth S1
      exact ⟨CS, dx, fs, _, List.mem_cons_self, e, m.2.2.2.1, fun q _ => ⟨x, s, ls, lp, ts, rfl, S1, q _ rfl⟩⟩
    | moon s bd td bm tm =>
      obtain ⟨dx, fs, e, m⟩ := MoonO.meth S1
      exact ⟨CO, dx, fs, _, List.mem_cons_of_mem _ List.mem_cons_self, e, m.2.2.2.1, fun q _ => ⟨x, s, bd, bm, td, tm, rfl, S1, q _ rfl⟩⟩
theorem CalD.cy_pos {d : CalD} (g : d.good) : 0 < d.cy.1 := by
  cases d with
  | sun s ls lp ts => exact (per_pos' (GoodS.ok g)).1
  | moon s bd td bm tm =>
    have a := (per_pos' (GoodMo.okm g)).1
    have b := (per_pos' (GoodMo.okd g)).1
    refine Int.mul_pos a ?_
    unfold moT
    obtain ⟨u, hu⟩ := Int.gcd_dvd_left (a := PER td) (b := UP bm tm (PER tm))
    have q0 := gcd_pos (b := UP bm tm (PER tm)) b
    generalize (Int.gcd (PER td) (UP bm tm (PER tm)) : Int) = G at *
    rw [hu, Int.mul_ediv_cancel_left _ (by omega)]
    refine Int.not_le.mp fun z => ?_
    have := Int.mul_le_mul_of_nonneg_left z (show 0 ≤ G by omega)
    omega
theorem CalD.cy_le {d : CalD} (g : d.good) : d.cy.1 ≤ d.cy.2 := by
  have p := CalD.cy_pos g
  have a := CalD.cyY g 0
  have f := (CalD.far g d.cy.1.toNat).1
  rw [Int.toNat_of_nonneg (by omega)] at f
  rw [Int.zero_add] at a
  omega
theorem dSize_facts {d : CalD} (g : d.good) {st : Int} (h : 1 ≤ st) : 0 < lcmI d.cy.1 st ∧ st ≤ lcmI d.cy.1 st ∧ lcmI d.cy.1 st ≤ dSize d st ∧ lcmI d.cy.1 st ≤ d.cy.1 * st := by
  have p := CalD.cy_pos g
  have c := CalD.cy_le g
  have f := lcmI_facts p (show 0 < st by omega)
  refine ⟨f.1, Int.le_of_dvd f.1 f.2.2.1, ?_, lcmI_le p (by omega)⟩
  obtain ⟨u, hu⟩ := f.2.1
  have l0 := f.1
  unfold dSize
  rw [hu] at l0 ⊢
  rw [Int.mul_ediv_cancel_left _ (by omega), Int.mul_comm]
  refine Int.mul_le_mul_of_nonneg_left c ?_
  refine Int.not_lt.mp fun z => ?_
  have := Int.mul_le_mul_of_nonneg_left (show u ≤ 0 by omega) (show 0 ≤ d.cy.1 by omega)
  omega
def yrL : List Int → Int → Int → Option Int → Option Int → List Int
  | [], _, _, _, _ => []
  | n :: ls, f, k, m, i => (if m = none ∨ m = some k then domF f n i else []) ++ yrL ls (f + n) (k + 1) m i
theorem sum_leB {M : Int} : ∀ {ls : List Int}, (∀ n ∈ ls, 0 ≤ n ∧ n ≤ M) → 0 ≤ ls.sum ∧ ls.sum ≤ M * (ls.length : Int)
  | [], _ => ⟨Int.le_refl _, by simp⟩
  | a :: ls, h => by
    have := sum_leB (ls := ls) fun n hn => h n (List.mem_cons_of_mem _ hn)
    have := h a List.mem_cons_self
    have e : M * ((a :: ls).length : Int) = M * (ls.length : Int) + M := by
      rw [List.length_cons, show ((ls.length + 1 : Nat) : Int) = (ls.length : Int) + 1 by omega, Int.mul_add, Int.mul_one]
    rw [List.sum_cons, e]
    omega
theorem yrL_append : ∀ (l1 l2 : List Int) (f k : Int) (m i : Option Int), yrL (l1 ++ l2) f k m i = yrL l1 f k m i ++ yrL l2 (f + l1.sum) (k + (l1.length : Int)) m i
  | [], l2, f, k, m, i => by
    show yrL l2 f k m i = [] ++ yrL l2 (f + 0) (k + 0) m i
    rw [List.nil_append, Int.add_zero, Int.add_zero]
  | n :: l1, l2, f, k, m, i => by
    show _ ++ yrL (l1 ++ l2) (f + n) (k + 1) m i = (_ ++ yrL l1 (f + n) (k + 1) m i) ++ _
    rw [yrL_append l1 l2, List.append_assoc, List.sum_cons, List.length_cons, show f + (n + l1.sum) = f + n + l1.sum by omega, show k + ((l1.length + 1 : Nat) : Int) = k + 1 + (l1.length : Int) by omega]
theorem yrL_step {ls : List Int} {j : Nat} {n : Int} (h : ls[j]? = some n) (f : Int) (m i : Option Int) : yrL (ls.take (j + 1)) f 1 m i = yrL (ls.take j) f 1 m i ++ (if m = none ∨ m = some (1 + (j : Int)) then domF (f + PS ls j) n i else []) := by
  have hj := (List.getElem?_eq_some_iff.mp h).1
  rw [List.take_add_one, h, Option.toList_some, yrL_append, List.length_take, Nat.min_eq_left (by omega)]
  show _ ++ (_ ++ []) = _
  rw [List.append_nil]
  rfl
theorem domF_mem {f n : Int} (n0 : 0 ≤ n) (i : Option Int) (x : Int) : x ∈ domF f n i ↔ ∃ r : Int, 1 ≤ r ∧ r ≤ n ∧ x = f + r - 1 ∧ (i = none ∨ i = some r ∨ i = some (r - n - 1)) := by
  unfold domF
  cases i with
  | none =>
    simp only [List.mem_map, List.mem_range]
    constructor
    · rintro ⟨k, hk, rfl⟩
      exact ⟨(k : Int) + 1, by omega, by omega, by omega, .inl trivial⟩
    · rintro ⟨r, r0, r1, rfl, _⟩
      exact ⟨(r - 1).toNat, by omega, by omega⟩
  | some i =>
    simp only []
    by_cases c : 0 < i
    · rw [if_pos c]
      by_cases c2 : n ≤ i - 1
      · rw [if_pos c2]
        refine ⟨fun h => (nomatch h), ?_⟩
        rintro ⟨r, r0, r1, rfl, z | z | z⟩
        · cases z
        · have := Option.some.inj z
          omega
        · have := Option.some.inj z
          omega
      · rw [if_neg c2, List.mem_singleton]
        constructor
        · rintro rfl
          exact ⟨i, by omega, by omega, by omega, .inr (.inl rfl)⟩
        · rintro ⟨r, r0, r1, rfl, z | z | z⟩
          · cases z
          · have := Option.some.inj z
            omega
          · have := Option.some.inj z
            omega
    · rw [if_neg c]
      by_cases c2 : n + i < 0 ∨ n ≤ n + i
      · rw [if_pos c2]
        refine ⟨fun h => (nomatch h), ?_⟩
        rintro ⟨r, r0, r1, rfl, z | z | z⟩
        · cases z
        · have := Option.some.inj z
          omega
        · have := Option.some.inj z
          omega
      · rw [if_neg c2, List.mem_singleton]
        constructor
        · rintro rfl
          exact ⟨n + i + 1, by omega, by omega, by omega, .inr (.inr (congrArg some (by omega)))⟩
        · rintro ⟨r, r0, r1, rfl, z | z | z⟩
          · cases z
          · have := Option.some.inj z
            omega
          · have := Option.some.inj z
            omega
theorem yrL_mem : ∀ (ls : List Int) (f k : Int) (m i : Option Int) (x : Int), x ∈ yrL ls f k m i ↔ ∃ j : Nat, j < ls.length ∧ (m = none ∨ m = some (k + (j : Int))) ∧ x ∈ domF (f + PS ls j) (ls.getD j 0) i
  | [], f, k, m, i, x => ⟨fun h => (nomatch h), fun ⟨j, hj, _⟩ => absurd hj (Nat.not_lt_zero _)⟩
  | n :: ls, f, k, m, i, x => by
    show x ∈ (if m = none ∨ m = some k then domF f n i else []) ++ yrL ls (f + n) (k + 1) m i ↔ _
    rw [List.mem_append, yrL_mem ls]
    constructor
    · rintro (h | ⟨j, hj, hm, hx⟩)
      · by_cases c : m = none ∨ m = some k
        · rw [if_pos c] at h
          refine ⟨0, by simp, ?_, ?_⟩
          · rcases c with c | c
            · exact .inl c
            · exact .inr (by rw [c]; simp)
          · show x ∈ domF (f + 0) n i
            rw [Int.add_zero]
            exact h
        · rw [if_neg c] at h
          cases h
      · refine ⟨j + 1, by rw [List.length_cons]; omega, ?_, ?_⟩
        · rcases hm with c | c
          · exact .inl c
          · exact .inr (by rw [c]; exact congrArg some (by omega))
        · have e : PS (n :: ls) (j + 1) = n + PS ls j := by unfold PS; rw [List.take_succ_cons, List.sum_cons]
          rw [e, ← Int.add_assoc]
          exact hx
    · rintro ⟨j, hj, hm, hx⟩
      cases j with
      | zero =>
        refine .inl ?_
        rw [if_pos (by rcases hm with c | c; exact .inl c; exact .inr (by rw [c]; simp))]
        have : x ∈ domF (f + 0) n i := hx
        rwa [Int.add_zero] at this
      | succ j =>
        refine .inr ⟨j, by rw [List.length_cons] at hj; omega, ?_, ?_⟩
        · rcases hm with c | c
          · exact .inl c
          · exact .inr (by rw [c]; exact congrArg some (by omega))
        · have e : PS (n :: ls) (j + 1) = n + PS ls j := by unfold PS; rw [List.take_succ_cons, List.sum_cons]
          rw [e, ← Int.add_assoc] at hx
          exact hx
theorem domF_le {f n : Int} (n0 : 0 ≤ n) (i : Option Int) : ((domF f n i).length : Int) ≤ n := by
  unfold domF
  cases i with
  | none =>
    simp only [List.length_map, List.length_range]
    omega
  | some i =>
    simp only []
    split <;> split <;> simp <;> omega
theorem yrL_le : ∀ (ls : List Int) (f k : Int) (m i : Option Int), (∀ n ∈ ls, 0 ≤ n) → ((yrL ls f k m i).length : Int) ≤ ls.sum
  | [], f, k, m, i, _ => Int.le_refl _
  | n :: ls, f, k, m, i, h => by
    have a := yrL_le ls (f + n) (k + 1) m i fun x hx => h x (List.mem_cons_of_mem _ hx)
    have n0 := h n List.mem_cons_self
    have b := domF_le (f := f) n0 i
    show (((if m = none ∨ m = some k then domF f n i else []) ++ yrL ls (f + n) (k + 1) m i).length : Int) ≤ (n :: ls).sum
    rw [List.length_append, List.sum_cons]
    split
    · omega
    · rw [List.length_nil]
      omega
/-- what is wanted of a date -/
def Wants (d : CalD) (m i : Option Int) (st r y mo rr : Int) : Prop := (m = none ∨ m = some mo) ∧ (y - r) % st = 0 ∧ (i = none ∨ i = some rr ∨ i = some (rr - (d.L y).getD (mo - 1).toNat 0 - 1))
theorem yr_mem {d : CalD} (g : d.good) (y : Int) (m i : Option Int) (x : Int) : x ∈ yrL (d.L y) (d.Y y) 1 m i ↔ ∃ mo r, IsD d y mo r ∧ DayOf d y mo r = x ∧ (m = none ∨ m = some mo) ∧ (i = none ∨ i = some r ∨ i = some (r - (d.L y).getD (mo - 1).toNat 0 - 1)) := by
  rw [yrL_mem]
  have nn : ∀ j, 0 ≤ (d.L y).getD j 0 := fun j => by
    by_cases c : j < (d.L y).length
    · exact (CalD.mem g y _ (getD_mem' c)).1
    · simp [List.getD, List.getElem?_eq_none (show (d.L y).length ≤ j by omega)]
  constructor
  · rintro ⟨j, hj, hm, hx⟩
    obtain ⟨r, r0, r1, rfl, hi⟩ := (domF_mem (nn j) i x).mp hx
    have ej : ((1 + (j : Int)) - 1).toNat = j := by omega
    refine ⟨1 + (j : Int), r, ⟨by omega, by omega, r0, by rw [ej]; exact r1⟩, ?_, hm, by rw [ej]; exact hi⟩
    unfold DayOf
    rw [ej]
  · rintro ⟨mo, r, h, rfl, hm, hi⟩
    have m0 := h.m0
    have m1 := h.m1
    refine ⟨(mo - 1).toNat, by omega, ?_, (domF_mem (nn _) i _).mpr ⟨r, h.r0, h.r1, rfl, hi⟩⟩
    rcases hm with c | c
    · exact .inl c
    · exact .inr (by rw [c]; exact congrArg some (by omega))
theorem cyN {d : CalD} (g : d.good) (k : Nat) : ∀ y : Int, d.L (y + (k : Int) * d.cy.1) = d.L y ∧ d.Y (y + (k : Int) * d.cy.1) = d.Y y + (k : Int) * d.cy.2 := by
  induction k with
  | zero => exact fun y => ⟨by simp, by simp⟩
  | succ k ih =>
    intro y
    have e : y + ((k + 1 : Nat) : Int) * d.cy.1 = y + (k : Int) * d.cy.1 + d.cy.1 := by rw [show ((k + 1 : Nat) : Int) = (k : Int) + 1 by omega, Int.add_mul, Int.one_mul, Int.add_assoc]
    have e2 : d.Y y + ((k + 1 : Nat) : Int) * d.cy.2 = d.Y y + (k : Int) * d.cy.2 + d.cy.2 := by rw [show ((k + 1 : Nat) : Int) = (k : Int) + 1 by omega, Int.add_mul, Int.one_mul, Int.add_assoc]
    rw [e, e2, CalD.cyL g, CalD.cyY g, (ih y).1, (ih y).2]
    exact ⟨rfl, rfl⟩
theorem cyZ {d : CalD} (g : d.good) (q y : Int) : d.L (y + q * d.cy.1) = d.L y ∧ d.Y (y + q * d.cy.1) = d.Y y + q * d.cy.2 := by
  rcases Int.le_total 0 q with c | c
  · have := cyN g q.toNat y
    rwa [show ((q.toNat : Nat) : Int) = q by omega] at this
  · have := cyN g (-q).toNat (y + q * d.cy.1)
    rw [show (((-q).toNat : Nat) : Int) = -q by omega, show y + q * d.cy.1 + -q * d.cy.1 = y by rw [Int.neg_mul]; omega] at this
    refine ⟨this.1.symm, ?_⟩
    have e := this.2
    rw [Int.neg_mul] at e
    omega
theorem IsD.cyZ {d : CalD} (g : d.good) {y m r : Int} (h : IsD d y m r) (q : Int) : IsD d (y + q * d.cy.1) m r ∧ DayOf d (y + q * d.cy.1) m r = DayOf d y m r + q * d.cy.2 := by
  obtain ⟨e, e2⟩ := Fw.cyZ g q y
  refine ⟨⟨h.m0, by rw [e]; exact h.m1, h.r0, by rw [e]; exact h.r1⟩, ?_⟩
  unfold DayOf
  rw [e, e2]
  omega
theorem dated_on {d : CalD} (g : d.good) {m i : Option Int} {st r : Int} (h1 : 1 ≤ st) {n : Nat} (hn : ∀ k : Nat, k < n ↔ r % st + (k : Int) * st < lcmI d.cy.1 st) {ds : List Int} (hds : ∀ x, x ∈ ds ↔ ∃ k : Nat, k < n ∧ x ∈ yrL (d.L (r % st + (k : Int) * st)) (d.Y (r % st + (k : Int) * st)) 1 m i)
    {b : Nat} (B : RB (dSize d st) ds b) {t y mo rr : Int} (hD : IsD d y mo rr) (ht : DayOf d y mo rr = t) : On (dSize d st) b t = true ↔ Wants d m i st r y mo rr := by
  have c0 := CalD.cy_pos g
  have f := lcmI_facts c0 (show 0 < st by omega)
  obtain ⟨u, hu⟩ := f.2.1
  obtain ⟨v, hv⟩ := f.2.2.1
  have eZ : dSize d st = u * d.cy.2 := by
    unfold dSize
    rw [hu, Int.mul_ediv_cancel_left _ (by omega)]
  have l0 := f.1
  generalize hY : lcmI d.cy.1 st = Yl at *
  have r0 := Int.emod_nonneg r (show st ≠ 0 by omega)
  have r1 := Int.emod_lt_of_pos r (show 0 < st by omega)
  have rd : r = r % st + st * (r / st) := (Int.emod_add_mul_ediv r st).symm
  rw [B.bit t]
  unfold hit
  rw [List.any_eq_true]
  constructor
  · rintro ⟨x, hx, hz⟩
    rw [decide_eq_true_eq] at hz
    obtain ⟨q, hq⟩ := Int.dvd_of_emod_eq_zero hz
    obtain ⟨k, hk, hx⟩ := (hds x).mp hx
    obtain ⟨mo', r', hI, rfl, hm, hi⟩ := (yr_mem g _ m i x).mp hx
    obtain ⟨s1, s2⟩ := hI.cyZ g (q * u)
    have et : DayOf d y mo rr = DayOf d (r % st + (k : Int) * st + q * u * d.cy.1) mo' r' := by
      rw [s2, ht]
      rw [eZ, show u * d.cy.2 * q = q * u * d.cy.2 by rw [Int.mul_comm, Int.mul_assoc]] at hq
      omega
    obtain ⟨z1, z2, z3⟩ := hD.uniq g s1 et
    have eL := (Fw.cyZ g (q * u) (r % st + (k : Int) * st)).1
    rw [← z1] at eL
    refine ⟨by rw [z2]; exact hm, ?_, by rw [z2, z3, eL]; exact hi⟩
    refine Int.emod_eq_zero_of_dvd ⟨(k : Int) + q * v - r / st, ?_⟩
    have e1 : q * u * d.cy.1 = q * (st * v) := by rw [← hv, hu, Int.mul_assoc, Int.mul_comm u]
    have e2 : st * ((k : Int) + q * v - r / st) = (k : Int) * st + q * (st * v) - st * (r / st) := by
      rw [Int.mul_sub, Int.mul_add, Int.mul_comm st (k : Int), show st * (q * v) = q * (st * v) by rw [← Int.mul_assoc, Int.mul_comm st q, Int.mul_assoc]]
    rw [e2, z1, e1]
    generalize q * (st * v) = A
    generalize (k : Int) * st = C
    generalize st * (r / st) = D' at *
    omega
  · rintro ⟨hm, hy, hi⟩
    have y0 := Int.emod_nonneg y (show Yl ≠ 0 by omega)
    have y1 := Int.emod_lt_of_pos y l0
    have yd : y = y % Yl + Yl * (y / Yl) := (Int.emod_add_mul_ediv y Yl).symm
    obtain ⟨w, hw⟩ := Int.dvd_of_emod_eq_zero hy
    -- the year within the common years
    have ek : y % Yl - r % st = st * (w + r / st - v * (y / Yl)) := by
      rw [Int.mul_sub, Int.mul_add, ← hw, ← Int.mul_assoc, ← hv]
      omega
    generalize w + r / st - v * (y / Yl) = k at ek
    have k0 : 0 ≤ k := by
      refine Int.not_lt.mp fun z => ?_
      have := Int.mul_le_mul_of_nonneg_left (show k ≤ -1 by omega) (show 0 ≤ st by omega)
      omega
    obtain ⟨kn, rfl⟩ : ∃ kn : Nat, k = (kn : Int) := ⟨k.toNat, by omega⟩
    have ey : r % st + (kn : Int) * st = y % Yl := by rw [Int.mul_comm]; omega
    have q1 : y % Yl = y + -(u * (y / Yl)) * d.cy.1 := by
      rw [Int.neg_mul, show u * (y / Yl) * d.cy.1 = Yl * (y / Yl) by rw [hu, Int.mul_comm u, Int.mul_assoc, Int.mul_comm, Int.mul_comm u d.cy.1]]
      omega
    obtain ⟨s1, s2⟩ := hD.cyZ g (-(u * (y / Yl)))
    have eL := (Fw.cyZ g (-(u * (y / Yl))) y).1
    rw [← q1] at s1 s2 eL
    refine ⟨DayOf d (y % Yl) mo rr, (hds _).mpr ⟨kn, (hn kn).mpr (by rw [ey]; exact y1), ?_⟩, ?_⟩
    · rw [ey, yr_mem g]
      exact ⟨mo, rr, s1, rfl, hm, by rw [eL]; exact hi⟩
    · rw [decide_eq_true_eq, s2, ht]
      refine Int.emod_eq_zero_of_dvd ⟨y / Yl, ?_⟩
      rw [eZ, Int.neg_mul, show u * (y / Yl) * d.cy.2 = u * d.cy.2 * (y / Yl) by rw [Int.mul_assoc, Int.mul_comm (y / Yl), Int.mul_assoc]]
      omega
def spDoM40 : Sp := fun vs H Q _ => ∃ (f n : Int) (d : Option Int), vs = [.int f, .int n, oI d] ∧ 0 ≤ n ∧ n ≤ 10000 ∧ ∀ (l : Addr) (H' : Hp), H l = none → Same H H' → H' l = some (.lst ((domF f n d).map V.int)) → Q (.ref l) H'
def spDoY40 (K : PySem.W.Frag) (CS CO CM : Addr) : Sp := fun vs H Q _ => ∃ (x : Addr) (d : CalD) (y : Int) (m i : Option Int), vs = [.ref x, .int y, oI m, oI i] ∧ CalO K CS CO CM H x d ∧ Bt 370 y ∧ ∀ (l : Addr) (H' : Hp), H l = none → Same H H' → H' l = some (.lst ((yrL (d.L y) (d.Y y) 1 m i).map V.int)) → Q (.ref l) H'
def spDated40 (K : PySem.W.Frag) (CS CO CM cN cT : Addr) : Sp := fun vs H Q E => ∃ (x : Addr) (d : CalD) (m i : Option Int) (st r : Int), vs = [.ref x, oI m, oI i, .int st, .int r] ∧ CalO K CS CO CM H x d ∧ Bt 200 d.cy.1 ∧ Bt 200 d.cy.2 ∧ Bt 300 st ∧
  (¬ WantOk m i st → ENum cN H E) ∧ (WantOk m i st → 150000 < dSize d st → ELong cT (dSize d st) H E) ∧
  (WantOk m i st → dSize d st ≤ 150000 → ∀ (p : Addr) (b : Nat) (H' : Hp), Same H H' → H' p = some (.tup [.int (dSize d st), .int (b : Int)]) → b < 2 ^ (dSize d st).toNat →
    (∀ {t y mo rr : Int}, IsD d y mo rr → DayOf d y mo rr = t → (On (dSize d st) b t = true ↔ Wants d m i st r y mo rr)) → Q (.ref p) H')
def pk4 (a b c e i : Int) : Int := if i = 0 then a else if i = 1 then b else if i = 2 then c else e
theorem at_pk4 {a b c e : Int} (i : Int) : atI (([a, b, c, e] : List Int).map V.int) (i % 4) = some (V.int (pk4 a b c e (i % 4))) := by
  rcases (by omega : i % 4 = 0 ∨ i % 4 = 1 ∨ i % 4 = 2 ∨ i % 4 = 3) with z | z | z | z <;> rw [z] <;> rfl
def anyN (c k m : Int) : Int := 1 + mixF c (4 * k + 1) % m
def anyT (c k m : Int) : Tm := (1 - 2 * (mixF c (4 * k + 4) % 2), mixF c (4 * k + 2) % (anyN c k m + 1), mixF c (4 * k + 3) % anyN c k m, anyN c k m)
def anyM (c : Int) : Int := pk4 2 5 30 1000 (c / 7 % 4)
def anyTs (c : Int) : List Tm := (List.range (c % 7).toNat).map fun j : Nat => anyT (c / 28) (j : Int) (anyM c)
theorem anyT_ok {c k m : Int} (m0 : 1 ≤ m) (m1 : m ≤ 1000) : OkT (anyT c k m) := by
  have n0 := Int.emod_nonneg (mixF c (4 * k + 1)) (show m ≠ 0 by omega)
  have n1 := Int.emod_lt_of_pos (mixF c (4 * k + 1)) (show 0 < m by omega)
  have hn : anyN c k m = 1 + mixF c (4 * k + 1) % m := rfl
  have a0 := Int.emod_nonneg (mixF c (4 * k + 2)) (show anyN c k m + 1 ≠ 0 by omega)
  have a1 := Int.emod_lt_of_pos (mixF c (4 * k + 2)) (show 0 < anyN c k m + 1 by omega)
  have b0 := Int.emod_nonneg (mixF c (4 * k + 3)) (show anyN c k m ≠ 0 by omega)
  have b1 := Int.emod_lt_of_pos (mixF c (4 * k + 3)) (show 0 < anyN c k m by omega)
  exact ⟨by show 1 - 2 * (mixF c (4 * k + 4) % 2) = 1 ∨ 1 - 2 * (mixF c (4 * k + 4) % 2) = -1; omega, by show 1 ≤ anyN c k m; omega, by show anyN c k m ≤ 1000; omega, a0, by show mixF c (4 * k + 2) % (anyN c k m + 1) ≤ anyN c k m; omega, b0, b1⟩
theorem anyM_b (c : Int) : 1 ≤ anyM c ∧ anyM c ≤ 1000 := by
  unfold anyM pk4
  split
  · omega
  · split
    · omega
    · split <;> omega
theorem anyTs_ok (c : Int) : ∀ t ∈ anyTs c, OkT t := fun t ht => by
  obtain ⟨j, _, rfl⟩ := List.mem_map.mp ht
  exact anyT_ok (anyM_b c).1 (anyM_b c).2
theorem anyTs_few (c : Int) : (anyTs c).length ≤ 6 := by
  unfold anyTs
  rw [List.length_map, List.length_range]
  omega
def anyB (c mo : Int) : Int := if falls (anyTs c) + 1 + mixF (c / 28) 30 % pk2 3 mo (mixF (c / 28) 31 % 2) < mo then falls (anyTs c) + 1 + mixF (c / 28) 30 % pk2 3 mo (mixF (c / 28) 31 % 2) else mo
theorem falls6 {ts : List Tm} (h : ts.length ≤ 6) : 0 ≤ falls ts ∧ falls ts ≤ 6 := by
  have f6 : (ts.filter fun t => decide (t.1 = -1)).length ≤ ts.length := List.length_filter_le _ _
  unfold falls
  omega
theorem pk2_pos {a b i : Int} (h1 : 1 ≤ a) (h2 : 1 ≤ b) : 1 ≤ pk2 a b i := by
  unfold pk2
  split <;> omega
theorem anyB_ok (c : Int) {mo : Int} (m0 : 20 ≤ mo) : falls (anyTs c) < anyB c mo ∧ anyB c mo ≤ mo := by
  have f := falls6 (anyTs_few c)
  have p := pk2_pos (a := 3) (b := mo) (i := mixF (c / 28) 31 % 2) (by omega) (by omega)
  have w := Int.emod_nonneg (mixF (c / 28) 30) (show pk2 3 mo (mixF (c / 28) 31 % 2) ≠ 0 by omega)
  unfold anyB
  split <;> omega
def anyMany (c : Int) : Int := 1 + c / 4 % 20
def anyL0 (c : Int) : List Int := (List.range (anyMany c).toNat).map fun j : Nat => mixF (c / 80) (j : Int) % pk4 3 13 32 1001 (c % 4)
def anyLp (c : Int) : Int := 1 + mixF (c / 80) 30 % anyMany c
def anyLs (c f : Int) : List Int := (anyL0 c).set (anyLp c - 1).toNat (if f + 1 > (anyL0 c).getD (anyLp c - 1).toNat 0 then f + 1 else (anyL0 c).getD (anyLp c - 1).toNat 0)
def anyD (ns : List Int) (st : Int) : CalD :=
  if ns.getD 9 0 % 3 = 2 then .moon st (anyB (ns.getD 9 0 / 3) 1000) (anyTs (ns.getD 9 0 / 3)) (anyB (ns.getD 10 0) 20) (anyTs (ns.getD 10 0))
  else .sun st (anyLs (ns.getD 10 0) (falls (anyTs (ns.getD 9 0 / 3)))) (anyLp (ns.getD 10 0)) (anyTs (ns.getD 9 0 / 3))
theorem anyD_cy (ns : List Int) (s s' : Int) : (anyD ns s).cy = (anyD ns s').cy := by
  unfold anyD
  split <;> rfl
theorem anyL_good (c : Int) {ts : List Tm} (ok : ∀ t ∈ ts, OkT t) (few : ts.length ≤ 6) : GoodS (anyLs c (falls ts)) (anyLp c) ts := by
  have f := falls6 few
  have em : anyMany c = 1 + c / 4 % 20 := rfl
  have lp0 := Int.emod_nonneg (mixF (c / 80) 30) (show anyMany c ≠ 0 by omega)
  have lp1 := Int.emod_lt_of_pos (mixF (c / 80) 30) (show 0 < anyMany c by omega)
  have elp : anyLp c = 1 + mixF (c / 80) 30 % anyMany c := rfl
  have l0 : (anyL0 c).length = (anyMany c).toNat := by unfold anyL0; rw [List.length_map, List.length_range]
  have m0 : ∀ n ∈ anyL0 c, 0 ≤ n ∧ n ≤ 1000 := fun n hn => by
    obtain ⟨j, _, rfl⟩ := List.mem_map.mp hn
    obtain ⟨p0, p1⟩ : 1 ≤ pk4 3 13 32 1001 (c % 4) ∧ pk4 3 13 32 1001 (c % 4) ≤ 1001 := by
      unfold pk4
      split
      · omega
      · split
        · omega
        · split <;> omega
    have := Int.emod_nonneg (mixF (c / 80) (j : Int)) (show pk4 3 13 32 1001 (c % 4) ≠ 0 by omega)
    have := Int.emod_lt_of_pos (mixF (c / 80) (j : Int)) (show 0 < pk4 3 13 32 1001 (c % 4) by omega)
    omega
  have il : (anyLp c - 1).toNat < (anyL0 c).length := by omega
  have g0 := m0 _ (getD_mem' il)
  have hg : ∀ v : Int, ((anyL0 c).set (anyLp c - 1).toNat v).getD (anyLp c - 1).toNat 0 = v := fun v => by
    rw [List.getD_eq_getElem?_getD, List.getElem?_set_self il]
    rfl
  have hm : ∀ v : Int, 0 ≤ v → v ≤ 1000 → ∀ n ∈ (anyL0 c).set (anyLp c - 1).toNat v, 0 ≤ n ∧ n ≤ 1000 := fun v v0 v1 n hn => by
    rcases List.mem_or_eq_of_mem_set hn with z | z
    · exact m0 n z
    · omega
  unfold anyLs
  generalize hv : (if falls ts + 1 > (anyL0 c).getD (anyLp c - 1).toNat 0 then falls ts + 1 else (anyL0 c).getD (anyLp c - 1).toNat 0) = v
  obtain ⟨v0, v1⟩ : falls ts + 1 ≤ v ∧ v ≤ 1000 := by rw [← hv]; split <;> omega
  have hs := sum_set (ls := anyL0 c) (i := (anyLp c - 1).toNat) (e := v - (anyL0 c).getD (anyLp c - 1).toNat 0) il
  rw [show (anyL0 c).getD (anyLp c - 1).toNat 0 + (v - (anyL0 c).getD (anyLp c - 1).toNat 0) = v by omega] at hs
  have nn := sum_le (hm 0 (by omega) (by omega))
  have hz := sum_set (ls := anyL0 c) (i := (anyLp c - 1).toNat) (e := 0 - (anyL0 c).getD (anyLp c - 1).toNat 0) il
  rw [show (anyL0 c).getD (anyLp c - 1).toNat 0 + (0 - (anyL0 c).getD (anyLp c - 1).toNat 0) = 0 by omega] at hz
  exact ⟨by rw [List.length_set]; omega, by rw [List.length_set]; omega, hm v (by omega) v1, by omega, by rw [List.length_set]; omega, by rw [hg]; omega, by omega, ok, few⟩
def spAnyT : Sp := fun vs H Q _ => ∃ c k m : Int, vs = [.int c, .int k, .int m] ∧ 0 ≤ k ∧ k ≤ 10 ∧ 1 ≤ m ∧ m ≤ 1000 ∧ ∀ (p : Addr) (H' : Hp), Same H H' → H' p = some (.tup (tmV (anyT c k m))) → Q (.ref p) H'
def spAnyTs (K : PySem.W.Frag) : Sp := fun vs H Q _ => ∃ c : Int, vs = [.int c] ∧ ∀ (l : Addr) (us : List V) (H' : Hp), Same H H' → TmL K H' l us (anyTs c) → Q (.ref l) H'
def spAnyMe (K : PySem.W.Frag) (CM : Addr) : Sp := fun vs H Q _ => ∃ c mo : Int, vs = [.int c, .int mo] ∧ 20 ≤ mo ∧ mo ≤ 1000 ∧ ∀ (x : Addr) (H' : Hp), Same H H' → Me K CM H' x (anyB c mo) (anyTs c) → Q (.ref x) H'
def spAny40 (K : PySem.W.Frag) (CS CO CM : Addr) : Sp := fun vs H Q _ => ∃ (a : Addr) (ns : List Int), vs = [.ref a] ∧ SqL K H a (ns.map V.int) ∧ ns.length ≤ 63 ∧ ∀ (x : Addr) (st : Int) (H' : Hp), Same H H' → Bt 200 st → CalO K CS CO CM H' x (anyD ns st) → Q (.ref x) H'
theorem UP_le' {b : Int} {ts : List Tm} (h : ∀ t ∈ ts, OkT t) {k : Int} (k0 : 0 ≤ k) : UP b ts k ≤ (b + (ts.length : Int)) * k := by
  have := (SU_le h k0).2
  unfold UP
  rw [Int.add_mul]
  omega
theorem mul_le2 {a b A B : Int} (h1 : a ≤ A) (h2 : b ≤ B) (b0 : 0 ≤ b) (A0 : 0 ≤ A) : a * b ≤ A * B := Int.mul_le_mul h1 h2 b0 A0
theorem cyS {s lp : Int} {ls : List Int} {ts : List Tm} (g : GoodS ls lp ts) {B N : Int} (hB : ls.sum + (ts.length : Int) ≤ B) (hN : PER ts ≤ N) (B0 : 0 ≤ B) (h : B * N ≤ 30000) (hn : N ≤ 400) : (CalD.sun s ls lp ts).cy.1 ≤ 400 ∧ (CalD.sun s ls lp ts).cy.2 ≤ 30000 := by
  have p := (per_pos' (GoodS.ok g)).1
  have a := UP_le' (b := ls.sum) g.ok (show 0 ≤ PER ts by omega)
  have b := mul_le2 hB hN (by omega) B0
  refine ⟨?_, ?_⟩
  · show PER ts ≤ 400
    omega
  · show UP ls.sum ts (PER ts) ≤ 30000
    omega
theorem cyM {s bd bm : Int} {td tm : List Tm} (g : GoodMo bd td bm tm) (h1 : PER tm ≤ 19) (h2 : bm + (tm.length : Int) ≤ 13) (h3 : PER td ≤ 4) (h4 : bd + (td.length : Int) ≤ 13) : (CalD.moon s bd td bm tm).cy.1 ≤ 400 ∧ (CalD.moon s bd td bm tm).cy.2 ≤ 30000 := by
  have pm := (per_pos' g.okm).1
  have pd := (per_pos' g.okd).1
  have f1 := falls_nn (ts := td)
  have f2 := falls_nn (ts := tm)
  have fd := g.fd
  have fm := g.fm
  have u0 := UP_pos (base := bm) g.okm g.fm pm
  have u1 := UP_le' (b := bm) g.okm (show 0 ≤ PER tm by omega)
  have u2 := mul_le2 h2 h1 (by omega) (by decide)
  have gp := gcd_pos (b := UP bm tm (PER tm)) pd
  have t1 : moT td bm tm ≤ PER td := Int.ediv_le_self _ (by omega)
  have t0 : 0 ≤ moT td bm tm := Int.ediv_nonneg (by omega) (by omega)
  have m1 := mul_le2 (show UP bm tm (PER tm) ≤ 247 by omega) (show moT td bm tm ≤ 4 by omega) t0 (by decide)
  have m0 : 0 ≤ UP bm tm (PER tm) * moT td bm tm := Int.mul_nonneg (by omega) t0
  have d1 := UP_le' (b := bd) g.okd m0
  have d2 := mul_le2 h4 m1 m0 (by decide)
  have c1 := mul_le2 h1 (show moT td bm tm ≤ 4 by omega) t0 (by decide)
  refine ⟨?_, ?_⟩
  · show PER tm * moT td bm tm ≤ 400
    omega
  · show UP bd td (UP bm tm (PER tm) * moT td bm tm) ≤ 30000
    omega
theorem per16 {ts : List Tm} (ok : ∀ t ∈ ts, OkT t) (few : ts.length ≤ 2) (h : ∀ t ∈ ts, t.2.2.2 ≤ 4) : PER ts ≤ 16 := by
  match ts, ok, few, h with
  | [], _, _, _ => decide
  | [t], ok, _, h =>
    have n0 := (ok t List.mem_cons_self).n0
    have n1 := h t List.mem_cons_self
    have := lcmI_le (a := 1) (b := t.2.2.2) (by decide) (by omega)
    show lcmI 1 t.2.2.2 ≤ 16
    omega
  | [t, u], ok, _, h =>
    have n0 := (ok t List.mem_cons_self).n0
    have n1 := h t List.mem_cons_self
    have k0 := (ok u (List.mem_cons_of_mem _ List.mem_cons_self)).n0
    have k1 := h u (List.mem_cons_of_mem _ List.mem_cons_self)
    have a := lcmI_le (a := 1) (b := t.2.2.2) (by decide) (by omega)
    have p := (lcmI_facts (a := 1) (b := t.2.2.2) (by decide) (by omega)).1
    have b := lcmI_le (a := lcmI 1 t.2.2.2) (b := u.2.2.2) p (by omega)
    have m := mul_le2 (show lcmI 1 t.2.2.2 ≤ 4 by omega) k1 (by omega) (by decide)
    show lcmI (lcmI 1 t.2.2.2) u.2.2.2 ≤ 16
    omega
theorem per4 {ts : List Tm} (ok : ∀ t ∈ ts, OkT t) (few : ts.length ≤ 1) (h : ∀ t ∈ ts, t.2.2.2 ≤ 4) : PER ts ≤ 4 := by
  match ts, ok, few, h with
  | [], _, _, _ => decide
  | [t], ok, _, h =>
    have n0 := (ok t List.mem_cons_self).n0
    have n1 := h t List.mem_cons_self
    have := lcmI_le (a := 1) (b := t.2.2.2) (by decide) (by omega)
    show lcmI 1 t.2.2.2 ≤ 4
    omega
theorem falls_le {ts : List Tm} : falls ts ≤ (ts.length : Int) := by
  have f6 : (ts.filter fun t => decide (t.1 = -1)).length ≤ ts.length := List.length_filter_le _ _
  unfold falls
  omega
def spTerm40 : Sp := fun vs H Q _ => ∃ c m : Int, vs = [.int c, .int m] ∧ 1 ≤ m ∧ m ≤ 1000 ∧ ∀ (p : Addr) (t : Tm) (H' : Hp), Same H H' → H' p = some (.tup (tmV t)) → OkT t → t.2.2.2 ≤ m → Q (.ref p) H'
def spCal40 (K : PySem.W.Frag) (CS CO CM : Addr) : Sp := fun vs H Q _ => ∃ (a : Addr) (ns : List Int), vs = [.ref a] ∧ SqL K H a (ns.map V.int) ∧ ns.length ≤ 63 ∧ ∀ (x : Addr) (d : CalD) (H' : Hp), Same H H' → CalO K CS CO CM H' x d → d.cy.1 ≤ 400 → d.cy.2 ≤ 30000 → Bt 200 d.st → Q (.ref x) H'
def OBt (o : Option Int) : Prop := ∀ i, o = some i → Bt 200 i
def spWanted40 (K : PySem.W.Frag) : Sp := fun vs H Q _ => ∃ (a : Addr) (ns : List Int), vs = [.ref a] ∧ SqL K H a (ns.map V.int) ∧ ns.length ≤ 63 ∧ ∀ (p : Addr) (m i : Option Int) (st r : Int) (H' : Hp), Same H H' → H' p = some (.tup [oI m, oI i, .int st, .int r]) → WantOk m i st → st ≤ 4 → OBt m → OBt i → Bt 200 r → Q (.ref p) H'
def spYears40 (K : PySem.W.Frag) (CS CO CM : Addr) : Sp := fun vs H Q _ => ∃ (x : Addr) (d : CalD) (st : Int), vs = [.ref x, .int st] ∧ CalO K CS CO CM H x d ∧ 1 ≤ st ∧ st ≤ 800 ∧ Bt 200 d.cy.1 ∧ ∀ H', Same H H' → Q (.int (lcmI d.cy.1 st)) H'
def spSize40 (K : PySem.W.Frag) (CS CO CM : Addr) : Sp := fun vs H Q _ => ∃ (x : Addr) (d : CalD) (st : Int), vs = [.ref x, .int st] ∧ CalO K CS CO CM H x d ∧ 1 ≤ st ∧ st ≤ 800 ∧ Bt 200 d.cy.1 ∧ Bt 200 d.cy.2 ∧ ∀ H', Same H H' → Q (.int (dSize d st)) H'
def spShort40 (K : PySem.W.Frag) (CS CO CM : Addr) : Sp := fun vs H Q _ => ∃ (x : Addr) (d : CalD), vs = [.ref x] ∧ CalO K CS CO CM H x d ∧ ∀ (b : Bool) H', Same H H' → (b = true → d.cy.1 ≤ 800 ∧ d.cy.2 ≤ 4400) → Q (.bl b) H'
def spStep40 (K : PySem.W.Frag) (CS CO CM : Addr) : Sp := fun vs H Q _ => ∃ (x w : Addr) (d : CalD) (c : Int) (m i : Option Int) (st r : Int), vs = [.ref x, .ref w, .int c] ∧ CalO K CS CO CM H x d ∧ d.cy.1 ≤ 800 ∧ d.cy.2 ≤ 4400 ∧ SqT K H w [oI m, oI i, .int st, .int r] ∧ ∀ (p : Addr) (st' : Int) (H' : Hp), Same H H' → H' p = some (.tup [oI m, oI i, .int st', .int r]) → 1 ≤ st' → st' ≤ 800 → dSize d st' ≤ 4400 → Q (.ref p) H'
def spMade40 (K : PySem.W.Frag) (CS CO CM : Addr) : Sp := fun vs H Q _ => ∃ (x w : Addr) (d : CalD) (c : Int) (m i : Option Int) (st r : Int), vs = [.ref x, .ref w, .int c] ∧ CalO K CS CO CM H x d ∧ Bt 200 d.cy.1 ∧ Bt 200 d.cy.2 ∧ SqT K H w [oI m, oI i, .int st, .int r] ∧ WantOk m i st ∧ st ≤ 800 ∧ dSize d st ≤ 150000 ∧
  ∀ (p : Addr) (b : Nat) (H' : Hp), Same H H' → H' p = some (.tup [.int (dSize d st), .int (b : Int)]) → b < 2 ^ (dSize d st).toNat → (∀ {t y mo rr : Int}, IsD d y mo rr → DayOf d y mo rr = t → (On (dSize d st) b t = true ↔ Wants d m i st r y mo rr)) → Q (.ref p) H'
def spAimed40 (K : PySem.W.Frag) (CS CO CM : Addr) : Sp := fun vs H Q _ => ∃ (x w : Addr) (d : CalD) (n : Int) (m i : Option Int) (st r : Int), vs = [.ref x, .ref w, .int n] ∧ CalO K CS CO CM H x d ∧ Bt 200 d.st ∧ SqT K H w [oI m, oI i, .int st, .int r] ∧ WantOk m i st ∧ st ≤ 800 ∧ OBt m ∧ OBt i ∧ Bt 200 r ∧ Bt 200 n ∧ ∀ (v : Int) (H' : Hp), Same H H' → Bt 260 v → Q (.int v) H'
def spDue40 (K : PySem.W.Frag) (CS CO CM : Addr) : Sp := fun vs H Q _ => ∃ (x w : Addr) (d : CalD) (t : Int) (m i : Option Int) (st r : Int), vs = [.ref x, .ref w, .int t] ∧ CalO K CS CO CM H x d ∧ SqT K H w [oI m, oI i, .int st, .int r] ∧ WantOk m i st ∧ Bt 290 t ∧ ∀ (b : Bool) (y mo rr : Int) (H' : Hp), Same H H' → IsD d y mo rr → DayOf d y mo rr = t → (b = true ↔ Wants d m i st r y mo rr) → Q (.bl b) H'
theorem dSize_one {d : CalD} (g : d.good) : dSize d 1 = d.cy.2 := by
  have c := CalD.cy_pos g
  unfold dSize lcmI
  rw [show (Int.gcd d.cy.1 1 : Int) = 1 by rw [Int.gcd_one]; rfl, Int.ediv_one, Int.mul_one, Int.ediv_self (by omega), Int.one_mul]
theorem dSize_le {d : CalD} (g : d.good) {st : Int} (h : 1 ≤ st) : dSize d st ≤ st * d.cy.2 := by
  have c := CalD.cy_pos g
  have c2 := CalD.cy_le g
  have f := dSize_facts g h
  obtain ⟨u, hu⟩ := (lcmI_facts c (show 0 < st by omega)).2.1
  unfold dSize
  rw [hu, Int.mul_ediv_cancel_left _ (by omega)]
  refine Int.mul_le_mul_of_nonneg_right ?_ (by omega)
  refine Int.le_of_mul_le_mul_left (a := d.cy.1) ?_ c
  rw [← hu]
  exact f.2.2.2
theorem Wants.one {d : CalD} {m i : Option Int} {r r' y mo rr : Int} : Wants d m i 1 r y mo rr ↔ Wants d m i 1 r' y mo rr := by
  unfold Wants
  rw [Int.emod_one, Int.emod_one]
theorem bit1_40 (b k : Nat) : decide (V.int (Builtin.bitAnd (((b : Nat) : Int) / 2 ^ k) 1) = V.int 1) = b.testBit k := by
  rw [shr_cast, show (1 : Int) = ((1 : Nat) : Int) from rfl, bitAnd_nat, Bool.eq_iff_iff, decide_eq_true_eq, Nat.testBit]
  simp only [V.int.injEq, bne_iff_ne, ne_eq]
  rw [Nat.and_comm, Nat.one_and_eq_mod_two]
  omega
structure Errs (K : PySem.W.Frag) (mg : Str → Option Value) (c_FeastError c_NoNumber c_TooLong c_NoMeasure c_NoDate c_Measure c_Calendar c_Sun c_Moon : Addr) : Prop where
  h_NoDate : HCls K mg "NoDate" c_NoDate
  o_NoDate : XOwn K c_NoDate c_FeastError
  f_FeastError : FInit K mg "FeastError" c_FeastError
  na_NoDate_date : PySem.W.findIn K (.ref c_NoDate) "date" = some none
  r_NoDate_NoDate : PySem.W.mroIn K c_NoDate (.ref c_NoDate) = some true
  x_NoNumber : XCls K mg "NoNumber" c_NoNumber
  o_TooLong : XOwn K c_TooLong c_FeastError
  na_TooLong_needed : PySem.W.findIn K (.ref c_TooLong) "needed" = some none
  cl_Measure : Cls K c_Measure
  na_Measure_base : NoAttr K c_Measure "base"
  na_Measure_terms : NoAttr K c_Measure "terms"
  na_Measure_full_count : NoAttr K c_Measure "full_count"
  na_Measure_full_sum : NoAttr K c_Measure "full_sum"
  cl_Sun : Cls K c_Sun
  na_Sun_start : NoAttr K c_Sun "start"
  na_Sun_months : NoAttr K c_Sun "months"
  na_Sun_leap : NoAttr K c_Sun "leap"
  na_Sun_years : NoAttr K c_Sun "years"
  cl_Moon : Cls K c_Moon
  na_Moon_start : NoAttr K c_Moon "start"
  na_Moon_days : NoAttr K c_Moon "days"
  na_Moon_many : NoAttr K c_Moon "many"
section
variable {P : Program} {w : World} {K : PySem.W.Frag} {mg : Str → Option Value} {base : Heap}
variable {c_FeastError c_NoNumber c_TooLong c_NoMeasure c_NoDate c_Measure c_Calendar c_Sun c_Moon : Addr}
theorem sc_TooLong___init__ : FnScope ["self", "needed"] ["self", "needed"] (defScope s_TooLong___init__) := ⟨rfl, rfl, rfl, by decide +kernel, rfl, by decide +kernel, by decide +kernel⟩
theorem ok_TooLong___init__ {f : Addr} {fd : FuncData} (F : Fun K "__init__" "TooLong.__init__" s_TooLong___init__ f fd) (er : Errs K mg c_FeastError c_NoNumber c_TooLong c_NoMeasure c_NoDate c_Measure c_Calendar c_Sun c_Moon) : FnOk P w K mg base CX0 1 f fd ["self", "needed"] (spInit1 c_TooLong "needed" okNum) := by
  refine F.ok (k := 0) sc_TooLong___init__ (fun vs H Q E h => ?_) (fun cdv A outer s H vs Q E hr h => ?_)
  · obtain ⟨e, v, rfl, _⟩ := h
    rfl
  obtain ⟨e, v, rfl, ⟨n, rfl, hn⟩, he, q⟩ := h
  refine ⟨_, (pss_cons (ps_expr (pe_xinit er.f_FeastError rfl (pa_cons (pv 0) (pa_cons (pe_join (pj_cons pe_str (pj_cons (pe_fmt hr.toN (pv 1)) (pj_cons pe_str pj_nil)))) pa_nil))))
      (pss_one (ps_xf1 (pv 0) (pv 1) (by rfl)))), ?_⟩
  walk_at "rdx"
  refine rd_jc 0 (by decide) (by decide) fun l1 => rd_ji _ l1 (by decide) rfl hn fun l2 => rd_jc _ l2 (by decide) fun l3 => rd_jnil (fits l3 (by decide)) ?_
  walk_at "rdx"
  refine ⟨e, _, _, _, _, rfl, he, er.o_TooLong, (by show 1 ≤ sizeLine; decide), ?_⟩
  walk_at "rdx"
  exact ⟨e, _, _, rfl, he, er.o_TooLong, er.na_TooLong_needed, fun d hd => q d hd⟩
theorem sc_NoDate___init__ : FnScope ["self", "date"] ["self", "date"] (defScope s_NoDate___init__) := ⟨rfl, rfl, rfl, by decide +kernel, rfl, by decide +kernel, by decide +kernel⟩
theorem ok_NoDate___init__ {f : Addr} {fd : FuncData} (F : Fun K "__init__" "NoDate.__init__" s_NoDate___init__ f fd) (er : Errs K mg c_FeastError c_NoNumber c_TooLong c_NoMeasure c_NoDate c_Measure c_Calendar c_Sun c_Moon) : FnOk P w K mg base CX0 1 f fd ["self", "date"] (spInitD K c_NoDate "date") := by
  refine F.ok (k := 0) sc_NoDate___init__ (fun vs H Q E h => ?_) (fun cdv A outer s H vs Q E hr h => ?_)
  · obtain ⟨e, p, a, b, c, rfl, _⟩ := h
    rfl
  obtain ⟨e, p, a, b, c, rfl, hp, ha, hb, hc, he, q⟩ := h
  refine ⟨_, (pss_cons (ps_expr (pe_xinit er.f_FeastError rfl (pa_cons (pv 0) (pa_cons (pe_join (pj_cons pe_str (pj_cons (pe_fmt hr.toN (pv 1)) pj_nil))) pa_nil))))
      (pss_one (ps_xf1 (pv 0) (pv 1) (by rfl)))), ?_⟩
  walk_at "rdx"
  refine rd_jc 0 (by decide) (by decide) fun l1 => rd_jt _ l1 (by decide) rfl hp ha hb hc fun l2 => rd_jnil (fits l2 (by decide)) ?_
  walk_at "rdx"
  refine ⟨e, _, _, _, _, rfl, he, er.o_NoDate, (by show 1 ≤ sizeLine; decide), ?_⟩
  walk_at "rdx"
  exact ⟨e, _, _, rfl, he, er.o_NoDate, er.na_NoDate_date, fun d hd => q d hd⟩
theorem sc_refuse_below_one : FnScope ["number"] ["number"] (defScope s_refuse_below_one) := ⟨rfl, rfl, rfl, by decide +kernel, rfl, by decide +kernel, by decide +kernel⟩
theorem ok_refuse_below_one {f : Addr} {fd : FuncData} (F : Fun K "refuse_below_one" "refuse_below_one" s_refuse_below_one f fd) (er : Errs K mg c_FeastError c_NoNumber c_TooLong c_NoMeasure c_NoDate c_Measure c_Calendar c_Sun c_Moon) : FnOk P w K mg base (CX1 P w) 1 f fd ["number"] (spRefuseE c_NoNumber) := by
  refine F.okE (k := 0) sc_refuse_below_one (fun vs H Q E h => ?_) (fun cdv A outer s H vs Q E hr h T => ?_)
  · obtain ⟨n, rfl, _⟩ := h
    rfl
  obtain ⟨n, rfl, qs, qe⟩ := h
  refine ⟨_, (pss_one (ps_if (pt_cmpR op_lt (pv 0) pe_int (nomark _))
        (pss_one (ps_raise T rfl er.x_NoNumber rfl (pa_cons pe_str pa_nil)))
        pss_nil)), ?_⟩
  walk_at "rdx"
  refine ite2d (fun c => ?_) (fun c => ?_)
  · walk_at "rdx"
    exact ⟨(by show 1 ≤ sizeLine; decide), (qe c).here⟩
  · walk_at "rdx"
    exact qs (by omega)
theorem sc_equation : FnScope ["one", "other", "row", "below", "times", "rest"] ["one", "other"] (defScope s_equation) := ⟨rfl, rfl, rfl, by decide +kernel, rfl, by decide +kernel, by decide +kernel⟩
theorem ok_equation {f : Addr} {fd : FuncData} (F : Fun K "equation" "equation" s_equation f fd) : FnOk P w K mg base CX0 1 f fd ["one", "other"] spEq := by
  refine F.ok (k := 0) sc_equation (fun vs H Q E h => ?_) (fun cdv A outer s H vs Q E hr h => ?_)
  · obtain ⟨a, b, rfl, _⟩ := h
    rfl
  obtain ⟨a, b, rfl, ha, hb, q⟩ := h
  refine ⟨_, (pss_cons (ps_set (i := 2) sc_equation.nd rfl (by first | exact Or.inl rfl | exact Or.inr rfl) (pe_tup (pa_cons pe_int (pa_cons pe_int (pa_cons (pv 0) pa_nil)))))
      (pss_cons (ps_set (i := 3) sc_equation.nd rfl (by first | exact Or.inl rfl | exact Or.inr rfl) (pe_tup (pa_cons pe_int (pa_cons pe_int (pa_cons (pv 1) pa_nil)))))
      (pss_cons (ps_while PassesOwn.never (pt_cmpR op_ne (pe_ix ix_tup (pv 3) pe_int (fun _ _ => rfl)) pe_int (nomark _))
        (pss_cons (ps_set (i := 4) sc_equation.nd rfl (by first | exact Or.inl rfl | exact Or.inr rfl) (pe_op op_fdivF (pe_ix ix_tup (pv 2) pe_int (fun _ _ => rfl)) (pe_ix ix_tup (pv 3) pe_int (fun _ _ => rfl))))
      (pss_cons (ps_set (i := 5) sc_equation.nd rfl (by first | exact Or.inl rfl | exact Or.inr rfl) (pe_tup (pa_cons (pe_op op_sub (pe_ix ix_tup (pv 2) pe_int (fun _ _ => rfl)) (pe_op op_mulB (pv 4) (pe_ix ix_tup (pv 3) pe_int (fun _ _ => rfl)))) (pa_cons (pe_op op_sub (pe_ix ix_tup (pv 2) pe_int (fun _ _ => rfl)) (pe_op op_mulB (pv 4) (pe_ix ix_tup (pv 3) pe_int (fun _ _ => rfl)))) (pa_cons (pe_op op_sub (pe_ix ix_tup (pv 2) pe_int (fun _ _ => rfl)) (pe_op op_mulB (pv 4) (pe_ix ix_tup (pv 3) pe_int (fun _ _ => rfl)))) pa_nil)))))
      (pss_cons (ps_set (i := 2) sc_equation.nd rfl (by first | exact Or.inl rfl | exact Or.inr rfl) (pv 3))
      (pss_one (ps_set (i := 3) sc_equation.nd rfl (by first | exact Or.inl rfl | exact Or.inr rfl) (pv 5)))))))
      (pss_cons (ps_if (pt_cmpR op_lt (pe_ix ix_tup (pv 2) pe_int (fun _ _ => rfl)) pe_int (nomark _))
        (pss_one (ps_ret (pe_tup (pa_cons (pe_un un_neg (pe_ix ix_tup (pv 2) pe_int (fun _ _ => rfl))) (pa_cons (pe_un un_neg (pe_ix ix_tup (pv 2) pe_int (fun _ _ => rfl))) (pa_cons (pe_un un_neg (pe_ix ix_tup (pv 2) pe_int (fun _ _ => rfl))) pa_nil))))))
        pss_nil)
      (pss_one (ps_ret (pv 2))))))), ?_⟩
  walk_at "rd"
  refine ⟨three, fun p1 hp1 => ?_⟩
  walk_at "rd"
  refine ⟨three, fun p2 hp2 => ?_⟩
  walk_at "rd"
  have n12 : p1 ≠ p2 := fun z => by rw [← z, upd_same] at hp2; cases hp2
  refine ⟨fun m σ' H' => ∃ (pr pb : Addr) (u v r u' v' r' : Int) (t1 t2 : Option V), σ' = [some (.int a), some (.int b), some (.ref pr), some (.ref pb), t1, t2] ∧ Same H H' ∧
      H' pr = some (.tup [.int u, .int v, .int r]) ∧ H' pb = some (.tup [.int u', .int v', .int r']) ∧ EqI a b u v r u' v' r' ∧ m = r'.natAbs,
    ⟨_, p1, p2, 1, 0, a, 0, 1, b, none, none, rfl, (same_new hp1 _).trans (same_new hp2 _), by rw [upd_ne n12]; exact upd_same, upd_same, EqI.start a b, rfl⟩, ?_⟩
  rintro m σ' H' ⟨pr, pb, u, v, r, u', v', r', t1, t2, rfl, sm, hpr, hpb, I, rfl⟩
  have B := I.bounds
  have br := bt_le2 (m := 510) ha hb (show r.natAbs ≤ a.natAbs + b.natAbs + 4 by omega) (by decide)
  have br' := bt_le (m := 510) hb (show r'.natAbs ≤ 4 * b.natAbs + 4 by omega) (by decide)
  have bu' := bt_le (m := 510) hb (show u'.natAbs ≤ 4 * b.natAbs + 4 by omega) (by decide)
  have bv' := bt_le (m := 510) ha (show v'.natAbs ≤ 4 * a.natAbs + 4 by omega) (by decide)
  walk_at "rd"
  refine rd_ixT (SqT.of hpb) at32 ?_
  walk_at "rd"
  by_cases hz : r' = 0
  · subst hz
    refine iteNS rfl ?_
    have D := I.done
    walk_at "rd"
    refine rd_ixT (SqT.of hpr) at32 ?_
    walk_at "rd"
    refine ite2d (fun c => ?_) (fun c => ?_)
    · walk_at "rd"
      refine rd_ixT (SqT.of hpr) at30 ?_
      walk_at "rd"
      refine rd_ixT (SqT.of hpr) at31 ?_
      walk_at "rd"
      refine rd_ixT (SqT.of hpr) at32 ?_
      walk_at "rd"
      refine ⟨three, fun p hp => ?_⟩
      exact q p _ _ _ _ (sm.trans (same_new hp _)) upd_same (D.1 c)
    · walk_at "rd"
      exact q pr _ _ _ _ sm hpr (D.2 c)
  · refine iteNN (fun z => hz (V.int.inj z)) ?_
    refine ⟨_, fun σ' H' hh => hh, ?_⟩
    have St := I.step hz
    have bq := bt_le (m := 520) br (show (r.fdiv r').natAbs ≤ 4 * r.natAbs + 4 by have := quot_bound (r := r) hz; omega) (by decide)
    walk_at "rd"
    refine rd_ixT (SqT.of hpr) at32 ?_
    walk_at "rd"
    refine rd_ixT (SqT.of hpb) at32 ?_
    refine rd_i ⟨hz, br'.mono (by decide)⟩ ?_
    walk_at "rd"
    refine rd_ixT (SqT.of hpr) at30 ?_
    walk_at "rd"
    refine rd_ixT (SqT.of hpb) at30 ?_
    refine rd_i ⟨520, 510, bq, bu', by decide⟩ ?_
    walk_at "rd"
    refine rd_ixT (SqT.of hpr) at31 ?_
    walk_at "rd"
    refine rd_ixT (SqT.of hpb) at31 ?_
    refine rd_i ⟨520, 510, bq, bv', by decide⟩ ?_
    walk_at "rd"
    refine rd_ixT (SqT.of hpr) at32 ?_
    walk_at "rd"
    refine rd_ixT (SqT.of hpb) at32 ?_
    refine rd_i ⟨520, 510, bq, br', by decide⟩ ?_
    walk_at "rd"
    refine ⟨three, fun p hp => ?_⟩
    walk_at "rd"
    exact ⟨_, St.2, pb, p, u', v', r', _, _, _, _, _, rfl, sm.trans (same_new hp _), (same_new hp _) _ _ hpb, upd_same, St.1, rfl⟩
theorem sc_divisor : FnScope ["one", "other"] ["one", "other"] (defScope s_divisor) := ⟨rfl, rfl, rfl, by decide +kernel, rfl, by decide +kernel, by decide +kernel⟩
theorem ok_divisor {f : Addr} {fd : FuncData} (F : Fun K "divisor" "divisor" s_divisor f fd) (c_equation : Cal P w K mg base 1 "equation" ["one", "other"] spEq) : FnOk P w K mg base CX0 2 f fd ["one", "other"] spDivisor := by
  refine F.ok (k := 1) sc_divisor (fun vs H Q E h => ?_) (fun cdv A outer s H vs Q E hr h => ?_)
  · obtain ⟨a, b, rfl, _⟩ := h
    rfl
  obtain ⟨a, b, rfl, ha, hb, q⟩ := h
  refine ⟨_, (pss_one (ps_ret (pe_ix ix_tup (pe_cal c_equation (hr.mono (by decide)) rfl (pa_cons (pv 0) (pa_cons (pv 1) pa_nil))) pe_int (fun _ _ => rfl)))), ?_⟩
  walk_at "rd"
  refine ⟨a, b, rfl, ha, hb, fun p u v g H' sm hp e => ?_⟩
  walk_at "rd"
  refine rd_ixT (SqT.of hp) at32 ?_
  rw [e.gd]
  exact q _ sm
theorem sc_common : FnScope ["one", "other"] ["one", "other"] (defScope s_common) := ⟨rfl, rfl, rfl, by decide +kernel, rfl, by decide +kernel, by decide +kernel⟩
theorem ok_common {f : Addr} {fd : FuncData} (F : Fun K "common" "common" s_common f fd) (c_refuse_below_one : CalE P w K mg base 1 "refuse_below_one" ["number"] (spRefuseE c_NoNumber)) (c_divisor : Cal P w K mg base 2 "divisor" ["one", "other"] spDivisor) : FnOk P w K mg base CX0 3 f fd ["one", "other"] spCommon := by
  refine F.ok (k := 2) sc_common (fun vs H Q E h => ?_) (fun cdv A outer s H vs Q E hr h => ?_)
  · obtain ⟨a, b, rfl, _⟩ := h
    rfl
  obtain ⟨a, b, rfl, a0, b0, ha, hb, q⟩ := h
  refine ⟨_, (pss_cons (ps_expr (pe_calE thr_never c_refuse_below_one (hr.mono (by decide)) rfl (pa_cons (pv 0) pa_nil)))
      (pss_cons (ps_expr (pe_calE thr_never c_refuse_below_one (hr.mono (by decide)) rfl (pa_cons (pv 1) pa_nil)))
      (pss_one (ps_ret (pe_op op_mulB (pe_op op_fdivB (pv 0) (pe_cal c_divisor (hr.mono (by decide)) rfl (pa_cons (pv 0) (pa_cons (pv 1) pa_nil)))) (pv 1)))))), ?_⟩
  walk_at "rdx"
  refine ⟨a, rfl, fun _ => ?_, fun h => absurd h (by omega)⟩
  walk_at "rdx"
  refine ⟨b, rfl, fun _ => ?_, fun h => absurd h (by omega)⟩
  walk_at "rdx"
  refine ⟨a, b, rfl, ha, hb, fun H' sm => ?_⟩
  have g0 := gcd_pos (b := b) a0
  have g1 := gcd_le (b := b) a0
  refine rd_i ⟨g0, (ha.le (x := (Int.gcd a b : Int)) (by omega)).mono (by decide)⟩ ?_
  walk_at "rdx"
  have d0 : 0 ≤ a / (Int.gcd a b : Int) := Int.ediv_nonneg (by omega) (by omega)
  have d1 : a / (Int.gcd a b : Int) ≤ a := Int.ediv_le_self _ (by omega)
  refine rd_i ⟨500, 500, ha.le (by omega), hb, by decide⟩ ?_
  exact q _ sm
theorem sc_term_on : FnScope ["term", "k"] ["term", "k"] (defScope s_term_on) := ⟨rfl, rfl, rfl, by decide +kernel, rfl, by decide +kernel, by decide +kernel⟩
theorem ok_term_on {f : Addr} {fd : FuncData} (F : Fun K "term_on" "term_on" s_term_on f fd) : FnOk P w K mg base CX0 1 f fd ["term", "k"] spTermOn := by
  refine F.ok (k := 0) sc_term_on (fun vs H Q E h => ?_) (fun cdv A outer s H vs Q E hr h => ?_)
  · obtain ⟨p, k, t, rfl, _⟩ := h
    rfl
  obtain ⟨p, k, t, rfl, hp, ok, bk, q⟩ := h
  have n0 := ok.n0
  have n1 := ok.n1
  have a0 := ok.a0
  have a1 := ok.a1
  refine ⟨_, (pss_one (ps_ret (pe_cmpR op_ge (pe_op op_add (pe_op op_mod (pe_op op_add (pe_op op_mulB (pe_ix ix_tup (pv 0) pe_int (fun _ _ => rfl)) (pv 1)) (pe_ix ix_tup (pv 0) pe_int (fun _ _ => rfl))) (pe_ix ix_tup (pv 0) pe_int (fun _ _ => rfl))) (pe_ix ix_tup (pv 0) pe_int (fun _ _ => rfl))) (pe_ix ix_tup (pv 0) pe_int (fun _ _ => rfl)) (nomark _)))), ?_⟩
  walk_at "rd"
  refine rd_ixT (SqT.of hp) at41 ?_
  walk_at "rd"
  refine rd_i ⟨64, 400, bt_small (by omega) (by omega) (by decide), bk, by decide⟩ ?_
  walk_at "rd"
  refine rd_ixT (SqT.of hp) at42 ?_
  walk_at "rd"
  refine rd_ixT (SqT.of hp) at43 ?_
  walk_at "rd"
  refine rd_ixT (SqT.of hp) at41 ?_
  walk_at "rd"
  refine rd_ixT (SqT.of hp) at43 ?_
  walk_at "rd"
  exact q
theorem sc_signs_upto : FnScope ["terms", "k"] ["terms", "k"] (defScope s_signs_upto) := ⟨rfl, rfl, rfl, by decide +kernel, rfl, by decide +kernel, by decide +kernel⟩
theorem ok_signs_upto {f : Addr} {fd : FuncData} (F : Fun K "signs_upto" "signs_upto" s_signs_upto f fd) (z_sum : mg "sum" = none) : FnOk P w K mg base CX0 1 f fd ["terms", "k"] (spSigns K) := by
  refine F.ok (k := 0) sc_signs_upto (fun vs H Q E h => ?_) (fun cdv A outer s H vs Q E hr h => ?_)
  · obtain ⟨p, k, ts, rfl, _⟩ := h
    rfl
  obtain ⟨p, k, ts, rfl, T, bk, q⟩ := h
  obtain ⟨us, hS, hT⟩ := T.ex
  refine ⟨_, (pss_one (ps_ret (pe_callB (call_sum rfl) rfl z_sum PyProof.Rows.boot_sum (pa_cons (pe_comp rfl (compOk_freeM ["terms", "k"] ["terms", "k"] rfl rfl (by with_unfolding_all rfl) (by decide +kernel) rfl (by decide +kernel) rfl (by decide +kernel) (by walk_at "fm") (by with_unfolding_all rfl) (by with_unfolding_all rfl)) (pi_tup (pv 0)) (fun _ _ _ _ => pifs_nil) (fun _ _ _ _ => (pe_op op_mulB (pe_ix ix_tup_c (pv 0) pe_int (fun _ _ => rfl)) (pe_op op_fdivB (pe_op op_add (pe_op op_mulB (pe_ix ix_tup_c (pv 0) pe_int (fun _ _ => rfl)) (pv 2)) (pe_ix ix_tup_c (pv 0) pe_int (fun _ _ => rfl))) (pe_ix ix_tup_c (pv 0) pe_int (fun _ _ => rfl)))))) pa_nil)))), ?_⟩
  walk_at "rd"
  refine comp_t rfl hS (by rw [hT.len]; exact small1000 (by have := T.few; omega)) (fun v => ((tmAt H v).map fun _ => true).getD false) (fun v => ((tmAt H v).map fun t => V.int (t.1 * ctT t k)).getD .non) (fun x hx D ys Q' hD h => ?_) (fun x hx _ D ys Q' hD h => ?_) (fun D hD => ?_)
  · obtain ⟨a, t, rfl, ht, ha⟩ := hT.mem hx
    rw [tmAt_eq ha] at h
    exact h
  · obtain ⟨a, t, rfl, ht, ha⟩ := hT.mem hx
    rw [tmAt_eq ha] at h
    have ok := T.ok t ht
    have n0 := ok.n0
    have n1 := ok.n1
    have a0 := ok.a0
    have a1 := ok.a1
    have sg := ok.sg
    have b0 := ok.b0
    have b1 := ok.b1
    have ha' := same_new hD (.lst ys) _ _ ha
    walk_at "rd"
    refine rd_ixT (SqT.of ha') at40 ?_
    walk_at "rd"
    refine rd_ixT (SqT.of ha') at41 ?_
    walk_at "rd"
    refine rd_i ⟨64, 400, bt_small (by omega) (by omega) (by decide), bk, by decide⟩ ?_
    walk_at "rd"
    refine rd_ixT (SqT.of ha') at42 ?_
    walk_at "rd"
    refine rd_ixT (SqT.of ha') at43 ?_
    refine rd_i (cdiv_small (by omega) (by omega)) ?_
    have bb : Bt 465 (t.2.1 * k + t.2.2.1) := ((show Bt 64 t.2.1 from bt_small (by omega) (by omega) (by decide)).mul bk).add ((show Bt 64 t.2.2.1 from bt_small (by omega) (by omega) (by decide)).mono (by decide))
    refine rd_i ⟨200, 465, bt_of (by omega) (by omega), bt_div bb (by omega), by decide⟩ ?_
    exact h
  rw [hT.fm (fun _ => true) fun t => V.int (t.1 * ctT t k), List.filter_eq_self.mpr (fun _ _ => rfl)]
  have e : (ts.map fun t => V.int (t.1 * ctT t k)) = (ts.map fun t => t.1 * ctT t k).map V.int := by rw [List.map_map]; rfl
  rw [e]
  walk_at "rd"
  refine ⟨D, _, rfl, SqL.of upd_same, ?_⟩
  exact q _ (same_new hD _)
theorem sc_is_term : FnScope ["term"] ["term"] (defScope s_is_term) := ⟨rfl, rfl, rfl, by decide +kernel, rfl, by decide +kernel, by decide +kernel⟩
theorem ok_is_term {f : Addr} {fd : FuncData} (F : Fun K "is_term" "is_term" s_is_term f fd) {tk_GREATEST_N : Tok} (m_GREATEST_N : mg "GREATEST_N" = some (.int 1000 tk_GREATEST_N)) : FnOk P w K mg base CX0 1 f fd ["term"] spIsTerm := by
  refine F.ok (k := 0) sc_is_term (fun vs H Q E h => ?_) (fun cdv A outer s H vs Q E hr h => ?_)
  · obtain ⟨p, t, rfl, _⟩ := h
    rfl
  obtain ⟨p, t, rfl, hp, ok, q⟩ := h
  have n0 := ok.n0
  have n1 := ok.n1
  have a0 := ok.a0
  have a1 := ok.a1
  have sg := ok.sg
  have b0 := ok.b0
  have b1 := ok.b1
  refine ⟨_, (pss_cons (ps_if (PW.pt (pw_and (pt_cmpR op_ne (pe_ix ix_tup (pv 0) pe_int (fun _ _ => rfl)) pe_int (nomark _)) (pw_and1 (pt_cmpR op_ne (pe_ix ix_tup (pv 0) pe_int (fun _ _ => rfl)) (pe_un un_neg pe_int) (nomark _)))))
        (pss_one (ps_ret pe_bl))
        pss_nil)
      (pss_one (ps_ret (pe_and (pe_chain op_le op_le pe_int (pe_ix ix_tup (pv 0) pe_int (fun _ _ => rfl)) (pe_glob rfl m_GREATEST_N (rel_int _ _))) (pe_and (pe_chain op_le op_le pe_int (pe_ix ix_tup (pv 0) pe_int (fun _ _ => rfl)) (pe_ix ix_tup (pv 0) pe_int (fun _ _ => rfl))) (pe_one (pe_chain op_le op_lt pe_int (pe_ix ix_tup (pv 0) pe_int (fun _ _ => rfl)) (pe_ix ix_tup (pv 0) pe_int (fun _ _ => rfl))))))))), ?_⟩
  walk_at "rd"
  refine rd_ixT (SqT.of hp) at40 ?_
  walk_at "rd"
  have rest : True := trivial
  rcases sg with e | e
  · refine iteNS (congrArg V.int e) (iteF ?_)
    walk_at "rd"
    refine rd_ixT (SqT.of hp) at43 ?_
    walk_at "rd"
    refine iteD n0 ?_
    walk_at "rd"
    rw [decide_eq_true n1]
    refine iteT ?_
    walk_at "rd"
    refine rd_ixT (SqT.of hp) at41 ?_
    walk_at "rd"
    refine iteD a0 ?_
    walk_at "rd"
    refine rd_ixT (SqT.of hp) at43 ?_
    walk_at "rd"
    rw [decide_eq_true a1]
    refine iteT ?_
    walk_at "rd"
    refine rd_ixT (SqT.of hp) at42 ?_
    walk_at "rd"
    refine iteD b0 ?_
    walk_at "rd"
    refine rd_ixT (SqT.of hp) at43 ?_
    walk_at "rd"
    rw [decide_eq_true b1]
    exact q
  · refine iteNN (fun z => by have := V.int.inj z; omega) ?_
    walk_at "rd"
    refine rd_ixT (SqT.of hp) at40 ?_
    walk_at "rd"
    refine iteNS (congrArg V.int e) ?_
    walk_at "rd"
    refine rd_ixT (SqT.of hp) at43 ?_
    walk_at "rd"
    refine iteD n0 ?_
    walk_at "rd"
    rw [decide_eq_true n1]
    refine iteT ?_
    walk_at "rd"
    refine rd_ixT (SqT.of hp) at41 ?_
    walk_at "rd"
    refine iteD a0 ?_
    walk_at "rd"
    refine rd_ixT (SqT.of hp) at43 ?_
    walk_at "rd"
    rw [decide_eq_true a1]
    refine iteT ?_
    walk_at "rd"
    refine rd_ixT (SqT.of hp) at42 ?_
    walk_at "rd"
    refine iteD b0 ?_
    walk_at "rd"
    refine rd_ixT (SqT.of hp) at43 ?_
    walk_at "rd"
    rw [decide_eq_true b1]
    exact q
theorem sc_least_length : FnScope ["base", "terms"] ["base", "terms"] (defScope s_least_length) := ⟨rfl, rfl, rfl, by decide +kernel, rfl, by decide +kernel, by decide +kernel⟩
theorem ok_least_length {f : Addr} {fd : FuncData} (F : Fun K "least_length" "least_length" s_least_length f fd) (z_len : mg "len" = none) : FnOk P w K mg base CX0 1 f fd ["base", "terms"] (spLeast K) := by
  refine F.ok (k := 0) sc_least_length (fun vs H Q E h => ?_) (fun cdv A outer s H vs Q E hr h => ?_)
  · obtain ⟨p, b, ts, rfl, _⟩ := h
    rfl
  obtain ⟨p, b, ts, rfl, T, q⟩ := h
  obtain ⟨us, hS, hT⟩ := T.ex
  refine ⟨_, (pss_one (ps_ret (pe_op op_sub (pv 0) (pe_callB call_len_seq rfl z_len PySem.boot_len (pa_cons (pe_comp rfl (compOk_nil ["base", "terms"] rfl (by decide +kernel) rfl (by decide +kernel) rfl (by decide +kernel) (by decide +kernel)) (pi_tup (pv 1)) (fun _ _ _ _ => (pifs_one (pt_cmpR op_eq (pe_ix ix_tup_c (pv 0) pe_int (fun _ _ => rfl)) (pe_un un_neg pe_int) (nomark _)))) (fun _ _ _ _ => (pv 0))) pa_nil))))), ?_⟩
  walk_at "rd"
  refine comp_t rfl hS (by rw [hT.len]; exact small1000 (by have := T.few; omega)) (fun v => ((tmAt H v).map fun t => decide (t.1 = -1)).getD false) (fun v => v) (fun x hx D ys Q' hD h => ?_) (fun x hx _ D ys Q' hD h => ⟨_, rfl, h⟩) (fun D hD => ?_)
  · obtain ⟨a, t, rfl, ht, ha⟩ := hT.mem hx
    rw [tmAt_eq ha] at h
    walk_at "rd"
    refine rd_ixT (SqT.of (same_new hD _ _ _ ha)) at40 ?_
    walk_at "rd"
    rw [dec_int0]
    exact h
  walk_at "rd"
  refine ⟨D, _, rfl, .inl (SqL.of upd_same), ?_⟩
  walk_at "rd"
  have e : ((us.filter fun v => ((tmAt H v).map fun t => decide (t.1 = -1)).getD false).map fun v => v).length = (ts.filter fun t => decide (t.1 = -1)).length := by
    have := congrArg List.length (hT.fm (fun t => decide (t.1 = -1)) (fun _ => V.non))
    rw [List.length_map, List.length_map] at this
    rw [List.length_map]
    exact this
  rw [e]
  exact q _ (same_new hD _)
theorem sc_refuse_measure : FnScope ["base", "terms"] ["base", "terms"] (defScope s_refuse_measure) := ⟨rfl, rfl, rfl, by decide +kernel, rfl, by decide +kernel, by decide +kernel⟩
theorem ok_refuse_measure {f : Addr} {fd : FuncData} (F : Fun K "refuse_measure" "refuse_measure" s_refuse_measure f fd) (c_is_term : Cal P w K mg base 1 "is_term" ["term"] spIsTerm) (c_least_length : Cal P w K mg base 1 "least_length" ["base", "terms"] (spLeast K)) (z_len : mg "len" = none) (z_all : mg "all" = none) {tk_GREATEST_BASE : Tok} (m_GREATEST_BASE : mg "GREATEST_BASE" = some (.int 20000 tk_GREATEST_BASE)) {tk_MOST_TERMS : Tok} (m_MOST_TERMS : mg "MOST_TERMS" = some (.int 6 tk_MOST_TERMS)) : FnOk P w K mg base CX0 2 f fd ["base", "terms"] (spRefuseM K) := by
  refine F.ok (k := 1) sc_refuse_measure (fun vs H Q E h => ?_) (fun cdv A outer s H vs Q E hr h => ?_)
  · obtain ⟨p, b, ts, rfl, _⟩ := h
    rfl
  obtain ⟨p, b, ts, rfl, T, g, q⟩ := h
  obtain ⟨us, hS, hT⟩ := T.ex
  have b0 := g.b0
  have b1 := g.b1
  have fl := g.fl
  have few := T.few
  refine ⟨_, (pss_cons (ps_if (PW.pt (pw_or (pt_cmpR op_lt (pv 0) pe_int (nomark _)) (pw_or1 (pt_cmpR op_gt (pv 0) (pe_glob rfl m_GREATEST_BASE (rel_int _ _)) (nomark _)))))
        (pss_one ps_never)
        pss_nil)
      (pss_cons (ps_if (pt_cmpR op_gt (pe_callB call_len_seq rfl z_len PySem.boot_len (pa_cons (pv 1) pa_nil)) (pe_glob rfl m_MOST_TERMS (rel_int _ _)) (nomark _))
        (pss_one ps_never)
        pss_nil)
      (pss_cons (ps_if (pt_not (pt_val (pe_callB (call_all rfl) rfl z_all PyProof.Rows.boot_all (pa_cons (pe_comp rfl (compOk_nil ["base", "terms"] rfl (by decide +kernel) rfl (by decide +kernel) rfl (by decide +kernel) (by decide +kernel)) (pi_tup (pv 1)) (fun _ _ _ _ => pifs_nil) (fun _ _ _ _ => (pe_cal c_is_term (hr.mono (by decide)) rfl (pa_cons (pv 0) pa_nil)))) pa_nil))))
        (pss_one ps_never)
        pss_nil)
      (pss_one (ps_if (pt_cmpR op_lt (pe_cal c_least_length (hr.mono (by decide)) rfl (pa_cons (pv 0) (pa_cons (pv 1) pa_nil))) pe_int (nomark _))
        (pss_one ps_never)
        pss_nil))))), ?_⟩
  walk_at "rd"
  refine iteN (by omega) ?_
  walk_at "rd"
  refine iteN (by omega) ?_
  walk_at "rd"
  refine ⟨p, us, rfl, .inr hS, ?_⟩
  walk_at "rd"
  refine iteN (by rw [hT.len]; omega) ?_
  walk_at "rd"
  refine comp_t rfl hS (by rw [hT.len]; exact small1000 (by omega)) (fun _ => true) (fun _ => .bl true) (fun x hx D ys Q' hD h => h) (fun x hx _ D ys Q' hD h => ?_) (fun D hD => ?_)
  · obtain ⟨a, t, rfl, ht, ha⟩ := hT.mem hx
    walk_at "rd"
    exact ⟨a, t, rfl, same_new hD _ _ _ ha, T.ok t ht, h⟩
  have s1 := same_new hD (.lst ((us.filter fun _ => true).map fun _ => V.bl true))
  have e : ((us.filter fun _ => true).map fun _ => V.bl true) = (us.map fun _ => true).map V.bl := by
    rw [List.filter_eq_self.mpr (fun _ _ => rfl), List.map_map]
    rfl
  walk_at "rd"
  refine ⟨D, us.map (fun _ => true), rfl, SqL.of (by rw [upd_same, e]), ?_⟩
  walk_at "rd"
  rw [show ((us.map fun _ => true).all id) = true from List.all_eq_true.mpr (fun x hx => by obtain ⟨_, _, rfl⟩ := List.mem_map.mp hx; rfl)]
  refine iteF ?_
  walk_at "rd"
  refine ⟨p, b, ts, rfl, T.same s1, fun H2 s2 => ?_⟩
  walk_at "rd"
  refine iteN (by omega) ?_
  walk_at "rd"
  exact q _ (s1.trans s2)
theorem sc_period_of : FnScope ["terms", "told", "term"] ["terms"] (defScope s_period_of) := ⟨rfl, rfl, rfl, by decide +kernel, rfl, by decide +kernel, by decide +kernel⟩
theorem ok_period_of {f : Addr} {fd : FuncData} (F : Fun K "period_of" "period_of" s_period_of f fd) (c_common : Cal P w K mg base 3 "common" ["one", "other"] spCommon) : FnOk P w K mg base CX0 4 f fd ["terms"] (spPeriod K) := by
  refine F.ok (k := 3) sc_period_of (fun vs H Q E h => ?_) (fun cdv A outer s H vs Q E hr h => ?_)
  · obtain ⟨p, ts, rfl, _⟩ := h
    rfl
  obtain ⟨p, ts, rfl, T, q⟩ := h
  obtain ⟨us, hS, hT⟩ := T.ex
  have few := T.few
  have ulen := hT.len
  refine ⟨_, (pss_cons (ps_set (i := 1) sc_period_of.nd rfl (by first | exact Or.inl rfl | exact Or.inr rfl) pe_int)
      (pss_cons (ps_for PassesOwn.never rfl (pi_tup (pv 0)) (pg_name (i := 2) sc_period_of.nd rfl (by first | exact Or.inl rfl | exact Or.inr rfl))
        (pss_one (ps_set (i := 1) sc_period_of.nd rfl (by first | exact Or.inl rfl | exact Or.inr rfl) (pe_cal c_common (hr.mono (by decide)) rfl (pa_cons (pv 1) (pa_cons (pe_ix ix_tup (pv 2) pe_int (fun _ _ => rfl)) pa_nil))))))
      (pss_one (ps_ret (pv 1))))), ?_⟩
  walk_at "rd"
  walk_at "rdf"
  walk_at "rd"
  refine ⟨p, rfl, ⟨us, hS⟩, for_tup (xs := us) (fun i σ' H' => Same H H' ∧ ∃ c : Option V, σ' = [some (.ref p), some (.int (PER (ts.take i))), c]) ⟨Same.refl _, none, rfl⟩ ?_ ?_ ?_⟩
  · rintro i σ' H' _ ⟨s, _⟩
    exact s.tup hS
  · rintro i x σ' H' hx ⟨s, c, rfl⟩
    obtain ⟨a, t, rfl, ht, ha⟩ := hT.at hx
    have i6 : i < 6 := by
      have := (List.getElem?_eq_some_iff.mp ht).1
      omega
    obtain ⟨h1, h2⟩ := per_pow T.ok i (by omega)
    have h3 := pow6 (show i ≤ 6 by omega)
    have ok := T.ok t (List.mem_of_getElem? ht)
    have n0 := ok.n0
    have n1 := ok.n1
    walk_at "rd"
    refine rd_ixT (SqT.of (s _ _ ha)) at43 ?_
    walk_at "rd"
    refine ⟨_, _, rfl, h1, by omega, bt_small (by omega) (by omega) (by decide), bt_small (by omega) (by omega) (by decide), fun H2 s2 => ?_⟩
    walk_at "rd"
    refine ⟨s.trans s2, some (.ref a), ?_⟩
    have e2 : PER (ts.take (i + 1)) = lcmI (PER (ts.take i)) t.2.2.2 := by
      unfold PER
      rw [List.take_add_one, ht, Option.toList_some, List.foldl_append]
      rfl
    rw [e2]
    rfl
  · rintro σ' H' ⟨s, c, rfl⟩
    walk_at "rd"
    rw [ulen, List.take_length]
    exact q _ s
theorem sc_Measure_upto : FnScope ["self", "k"] ["self", "k"] (defScope s_Measure_upto) := ⟨rfl, rfl, rfl, by decide +kernel, rfl, by decide +kernel, by decide +kernel⟩
theorem ok_Measure_upto {f : Addr} {fd : FuncData} (F : Fun K "upto" "Measure.upto" s_Measure_upto f fd) (er : Errs K mg c_FeastError c_NoNumber c_TooLong c_NoMeasure c_NoDate c_Measure c_Calendar c_Sun c_Moon) (c_signs_upto : Cal P w K mg base 1 "signs_upto" ["terms", "k"] (spSigns K)) : FnOk P w K mg base CX0 2 f fd ["self", "k"] (spUpto K c_Measure) := by
  refine F.ok (k := 1) sc_Measure_upto (fun vs H Q E h => ?_) (fun cdv A outer s H vs Q E hr h => ?_)
  · obtain ⟨x, p, dx, k, b, ts, fs, rfl, _⟩ := h
    rfl
  obtain ⟨x, p, dx, k, b, ts, fs, rfl, hx, fb, ft, T, b0, b1, bk, q⟩ := h
  refine ⟨_, (pss_one (ps_ret (pe_op op_add (pe_op op_mulB (pe_fld (pv 0) (by rfl)) (pv 1)) (pe_cal c_signs_upto (hr.mono (by decide)) rfl (pa_cons (pe_fld (pv 0) (by rfl)) (pa_cons (pv 1) pa_nil)))))), ?_⟩
  walk_at "rd"
  refine ⟨x, c_Measure, dx, fs, _, rfl, hx, er.cl_Measure, er.na_Measure_base, fb, ?_⟩
  walk_at "rd"
  refine rd_i ⟨64, 400, bt_small (by omega) (by omega) (by decide), bk, by decide⟩ ?_
  walk_at "rd"
  refine ⟨x, c_Measure, dx, fs, _, rfl, hx, er.cl_Measure, er.na_Measure_terms, ft, ?_⟩
  walk_at "rd"
  refine ⟨p, k, ts, rfl, T, bk, fun H' s => ?_⟩
  walk_at "rd"
  exact q _ s
theorem sc_Measure___init__ : FnScope ["self", "base", "terms"] ["self", "base", "terms"] (defScope s_Measure___init__) := ⟨rfl, rfl, rfl, by decide +kernel, rfl, by decide +kernel, by decide +kernel⟩
theorem ok_Measure___init__ {f : Addr} {fd : FuncData} {ds : Array Value} (F : FunD K "__init__" "Measure.__init__" s_Measure___init__ f fd ds) (er : Errs K mg c_FeastError c_NoNumber c_TooLong c_NoMeasure c_NoDate c_Measure c_Calendar c_Sun c_Moon) (c_refuse_measure : Cal P w K mg base 2 "refuse_measure" ["base", "terms"] (spRefuseM K)) (c_period_of : Cal P w K mg base 4 "period_of" ["terms"] (spPeriod K)) (c_Measure_upto : CalM P w K mg base CX0 2 c_Measure "upto" ["self", "k"] (spUpto K c_Measure)) (z_tuple : mg "tuple" = none) : FnOk P w K mg base CX0 5 f fd ["self", "base", "terms"] (spInitM K c_Measure) := by
  refine F.ok (k := 4) sc_Measure___init__ (fun vs H Q E h => ?_) (fun cdv A outer s H vs Q E hr h => ?_)
  · obtain ⟨x, dx, b, v, us, ts, rfl, _⟩ := h
    rfl
  obtain ⟨x, dx, b, v, us, ts, rfl, hx, hT, hv, ok, few, g, po, q⟩ := h
  refine ⟨_, (pss_cons (ps_fld (pv 0) (pv 1) (by rfl))
      (pss_cons (ps_fld (pv 0) (pe_ifExp (pt_cmpR op_isN (pv 2) pe_non (nomark _)) (pe_tup pa_nil) (pe_callTy call_tuple_of rfl z_tuple PyProof.Rows.boot_tuple (pa_cons (pv 2) pa_nil))) (by rfl))
      (pss_cons (ps_expr (pe_cal c_refuse_measure (hr.mono (by decide)) rfl (pa_cons (pe_fld (pv 0) (by rfl)) (pa_cons (pe_fld (pv 0) (by rfl)) pa_nil))))
      (pss_cons (ps_fld (pv 0) (pe_cal c_period_of (hr.mono (by decide)) rfl (pa_cons (pe_fld (pv 0) (by rfl)) pa_nil)) (by rfl))
      (pss_cons (ps_fld (pv 0) (pe_mcal c_Measure_upto er.cl_Measure (hr.mono (by decide)) (pv 0) (pa_cons (pe_fld (pv 0) (by rfl)) pa_nil)) (by rfl))
      (pss_one (ps_if (pt_cmpR op_eq (pe_fld (pv 0) (by rfl)) pe_int (nomark _))
        (pss_one ps_never)
        pss_nil))))))), ?_⟩
  walk_at "rdx"
  refine ⟨x, c_Measure, dx, [], rfl, hx, er.cl_Measure, er.na_Measure_base, by decide, ?_⟩
  have k1 : ∀ y o, y ≠ x → H y = some o → upd H x (.ins c_Measure dx (putF (Str.ofString "base") (.int b) [])) y = some o := fun y o hy h => by rw [upd_ne hy]; exact h
  have x1 : upd H x (.ins c_Measure dx (putF (Str.ofString "base") (.int b) [])) x = some (.ins c_Measure dx [(Str.ofString "base", .int b)]) := upd_same
  generalize upd H x (.ins c_Measure dx (putF (Str.ofString "base") (.int b) [])) = H1 at k1 x1 ⊢
  have tmk : ∀ {H' : Hp}, (∀ y o, y ≠ x → H y = some o → H' y = some o) → Tms H' us ts := fun {H'} k => by
    have : ∀ {vs : List V} {ts : List Tm}, Tms H vs ts → Tms H' vs ts := fun {vs ts} h => by
      induction h with
      | nil => exact .nil
      | cons h _ ih => exact .cons (k _ _ (fun e => by subst e; rw [hx] at h; cases h) h) ih
    exact this hT
  walk_at "rdx"
  rcases hv with ⟨rfl, eu⟩ | ⟨l, rfl, hl⟩
  all_goals refine ⟨rfl, ?_⟩
  all_goals walk_at "rdx"
  all_goals first | refine iteD rfl ?_ | refine iteN (fun z => by cases z) ?_
  all_goals walk_at "rdx"
  all_goals first
    | refine ⟨l, us, rfl, .inl ⟨SqL.of (k1 _ _ (ne_of hl hx (by intro z; cases z)) hl), fun p hp => ?_⟩⟩
    | (refine ⟨Nat.zero_le _, fun p hp => ?_⟩
       rw [show upd H1 p (.tup []) = upd H1 p (.tup us) by rw [eu]])
  all_goals
    have px : x ≠ p := ne_of_none x1 hp
    walk_at "rdx"
    refine ⟨x, c_Measure, dx, _, rfl, by rw [upd_ne px]; exact x1, er.cl_Measure, er.na_Measure_terms, (by show 1 < 1000; decide), ?_⟩
    have k2 : ∀ y o, y ≠ x → H1 y = some o → upd (upd H1 p (.tup us)) x (.ins c_Measure dx (putF (Str.ofString "terms") (.ref p) [(Str.ofString "base", .int b)])) y = some o := fun y o hy h => by
      rw [upd_ne hy]
      exact same_new hp _ _ _ h
    have x2 : upd (upd H1 p (.tup us)) x (.ins c_Measure dx (putF (Str.ofString "terms") (.ref p) [(Str.ofString "base", .int b)])) x = some (.ins c_Measure dx [(Str.ofString "base", .int b), (Str.ofString "terms", .ref p)]) := upd_same
    have p2 : upd (upd H1 p (.tup us)) x (.ins c_Measure dx (putF (Str.ofString "terms") (.ref p) [(Str.ofString "base", .int b)])) p = some (.tup us) := by rw [upd_ne (Ne.symm px), upd_same]
    generalize upd (upd H1 p (.tup us)) x (.ins c_Measure dx (putF (Str.ofString "terms") (.ref p) [(Str.ofString "base", .int b)])) = H2 at k2 x2 p2 ⊢
    have k02 : ∀ y o, y ≠ x → H y = some o → H2 y = some o := fun y o hy h => k2 y o hy (k1 y o hy h)
    have T2 : TmT K H2 p ts := ⟨⟨us, SqT.of p2, tmk k02⟩, ok, few⟩
    walk_at "rdx"
    refine ⟨x, c_Measure, dx, _, _, rfl, x2, er.cl_Measure, er.na_Measure_base, rfl, ?_⟩
    walk_at "rdx"
    refine ⟨x, c_Measure, dx, _, _, rfl, x2, er.cl_Measure, er.na_Measure_terms, rfl, ?_⟩
    walk_at "rdx"
    refine ⟨p, b, ts, rfl, T2, g, fun H3 s3 => ?_⟩
    have x3 := s3 _ _ x2
    walk_at "rdx"
    refine ⟨x, c_Measure, dx, _, _, rfl, x3, er.cl_Measure, er.na_Measure_terms, rfl, ?_⟩
    walk_at "rdx"
    refine ⟨p, ts, rfl, T2.same s3, fun H4 s4 => ?_⟩
    have x4 := s4 _ _ x3
    have p4 := (s3.trans s4) _ _ p2
    walk_at "rdx"
    refine ⟨x, c_Measure, dx, _, rfl, x4, er.cl_Measure, er.na_Measure_full_count, (by show 2 < 1000; decide), ?_⟩
    have pne : p ≠ x := Ne.symm px
    have k5 : ∀ y o, y ≠ x → H4 y = some o → upd H4 x (.ins c_Measure dx (putF (Str.ofString "full_count") (.int (PER ts)) [(Str.ofString "base", .int b), (Str.ofString "terms", .ref p)])) y = some o := fun y o hy h => by rw [upd_ne hy]; exact h
    have x5 : upd H4 x (.ins c_Measure dx (putF (Str.ofString "full_count") (.int (PER ts)) [(Str.ofString "base", .int b), (Str.ofString "terms", .ref p)])) x = some (.ins c_Measure dx [(Str.ofString "base", .int b), (Str.ofString "terms", .ref p), (Str.ofString "full_count", .int (PER ts))]) := upd_same
    generalize upd H4 x (.ins c_Measure dx (putF (Str.ofString "full_count") (.int (PER ts)) [(Str.ofString "base", .int b), (Str.ofString "terms", .ref p)])) = H5 at k5 x5 ⊢
    have k05 : ∀ y o, y ≠ x → H y = some o → H5 y = some o := fun y o hy h => k5 y o hy ((s3.trans s4) _ _ (k02 y o hy h))
    have T5 : TmT K H5 p ts := ⟨⟨us, SqT.of (k5 _ _ pne p4), tmk k05⟩, ok, few⟩
    obtain ⟨h1, h2⟩ := per_pow ok 6 (by decide)
    rw [List.take_of_length_le few] at h1 h2
    have h3 := pow6 (show 6 ≤ 6 by decide)
    walk_at "rdx"
    refine ⟨x, dx, _, rfl, x5, rfl, ?_⟩
    walk_at "rdx"
    refine ⟨x, c_Measure, dx, _, _, rfl, x5, er.cl_Measure, er.na_Measure_full_count, rfl, ?_⟩
    walk_at "rdx"
    refine ⟨x, p, dx, PER ts, b, ts, _, rfl, x5, rfl, rfl, T5, g.b0, g.b1, bt_small (by omega) (by omega) (by decide), fun H6 s6 => ?_⟩
    have x6 := s6 _ _ x5
    walk_at "rdx"
    refine ⟨x, c_Measure, dx, _, rfl, x6, er.cl_Measure, er.na_Measure_full_sum, (by show 3 < 1000; decide), ?_⟩
    have k7 : ∀ y o, y ≠ x → H6 y = some o → upd H6 x (.ins c_Measure dx (putF (Str.ofString "full_sum") (.int (UP b ts (PER ts))) [(Str.ofString "base", .int b), (Str.ofString "terms", .ref p), (Str.ofString "full_count", .int (PER ts))])) y = some o := fun y o hy h => by rw [upd_ne hy]; exact h
    have x7 : upd H6 x (.ins c_Measure dx (putF (Str.ofString "full_sum") (.int (UP b ts (PER ts))) [(Str.ofString "base", .int b), (Str.ofString "terms", .ref p), (Str.ofString "full_count", .int (PER ts))])) x = some (.ins c_Measure dx (mF b p (PER ts) (UP b ts (PER ts)))) := upd_same
    generalize upd H6 x (.ins c_Measure dx (putF (Str.ofString "full_sum") (.int (UP b ts (PER ts))) [(Str.ofString "base", .int b), (Str.ofString "terms", .ref p), (Str.ofString "full_count", .int (PER ts))])) = H7 at k7 x7 ⊢
    have k07 : ∀ y o, y ≠ x → H y = some o → H7 y = some o := fun y o hy h => k7 y o hy (s6 _ _ (k05 y o hy h))
    walk_at "rdx"
    refine ⟨x, c_Measure, dx, _, _, rfl, x7, er.cl_Measure, er.na_Measure_full_sum, rfl, ?_⟩
    walk_at "rdx"
    refine iteN (fun z => by have := V.int.inj z; omega) ?_
    walk_at "rdx"
    refine q _ k07 ⟨⟨dx, p, x7, ⟨us, SqT.of (k7 _ _ pne (s6 _ _ (k5 _ _ pne p4))), tmk k07⟩, ok, few⟩, g, po⟩
theorem sc_Measure_at : FnScope ["self", "k"] ["self", "k"] (defScope s_Measure_at) := ⟨rfl, rfl, rfl, by decide +kernel, rfl, by decide +kernel, by decide +kernel⟩
theorem ok_Measure_at {f : Addr} {fd : FuncData} (F : Fun K "at" "Measure.at" s_Measure_at f fd) (er : Errs K mg c_FeastError c_NoNumber c_TooLong c_NoMeasure c_NoDate c_Measure c_Calendar c_Sun c_Moon) (c_term_on : Cal P w K mg base 1 "term_on" ["term", "k"] spTermOn) (z_sum : mg "sum" = none) : FnOk P w K mg base CX0 2 f fd ["self", "k"] (spAt K c_Measure) := by
  refine F.ok (k := 1) sc_Measure_at (fun vs H Q E h => ?_) (fun cdv A outer s H vs Q E hr h => ?_)
  · obtain ⟨x, k, b, ts, rfl, _⟩ := h
    rfl
  obtain ⟨x, k, b, ts, rfl, M, bk, q⟩ := h
  obtain ⟨dx, p, hx, T⟩ := M.ex
  obtain ⟨us, hS, hT⟩ := T.ex
  refine ⟨_, (pss_one (ps_ret (pe_op op_add (pe_fld (pv 0) (by rfl)) (pe_callB (call_sum rfl) rfl z_sum PyProof.Rows.boot_sum (pa_cons (pe_comp rfl (compOk_freeM ["self", "k"] ["self", "k"] rfl rfl (by with_unfolding_all rfl) (by decide +kernel) rfl (by decide +kernel) rfl (by decide +kernel) (by walk_at "fm") (by with_unfolding_all rfl) (by with_unfolding_all rfl)) (pi_tup (pe_fld (pv 0) (by rfl))) (fun _ _ _ _ => (pifs_one (pt_val (pe_cal c_term_on (hr.mono (by decide)) rfl (pa_cons (pv 0) (pa_cons (pv 2) pa_nil)))))) (fun _ _ _ _ => (pe_ix ix_tup_c (pv 0) pe_int (fun _ _ => rfl)))) pa_nil))))), ?_⟩
  walk_at "rdx"
  refine ⟨x, c_Measure, dx, _, _, rfl, hx, er.cl_Measure, er.na_Measure_base, rfl, ?_⟩
  walk_at "rdx"
  refine rd_comp (rd_iT ?_)
  walk_at "rdx"
  refine ⟨x, c_Measure, dx, _, _, rfl, hx, er.cl_Measure, er.na_Measure_terms, rfl, ?_⟩
  refine ⟨p, rfl, ⟨_, hS⟩, comp_go walk_t (by rw [hT.len]; exact small1000 (by have := T.few; omega)) (fun D ys hD => (same_new hD _).tup hS) (fun v => ((tmAt H v).map fun t => onT t k).getD false) (fun v => ((tmAt H v).map fun t => V.int t.1).getD .non) (fun y hy D ys Q' hD h => ?_) (fun y hy _ D ys Q' hD h => ?_) (fun D hD => ?_)⟩
  · obtain ⟨a, t, rfl, ht, ha⟩ := hT.mem hy
    rw [tmAt_eq ha] at h
    walk_at "rdx"
    exact ⟨a, k, t, rfl, same_new hD _ _ _ ha, T.ok t ht, bk, ⟨_, rfl, h⟩⟩
  · obtain ⟨a, t, rfl, ht, ha⟩ := hT.mem hy
    rw [tmAt_eq ha] at h
    walk_at "rdx"
    refine rd_ixT (SqT.of (same_new hD _ _ _ ha)) at40 ?_
    exact h
  rw [hT.fm (fun t => onT t k) fun t => V.int t.1]
  have e : ((ts.filter fun t => onT t k).map fun t => V.int t.1) = ((ts.filter fun t => onT t k).map fun t => t.1).map V.int := by rw [List.map_map]; rfl
  rw [e]
  walk_at "rdx"
  refine ⟨D, _, rfl, SqL.of upd_same, ?_⟩
  walk_at "rdx"
  exact q _ (same_new hD _)
theorem sc_Measure_period : FnScope ["self"] ["self"] (defScope s_Measure_period) := ⟨rfl, rfl, rfl, by decide +kernel, rfl, by decide +kernel, by decide +kernel⟩
theorem ok_Measure_period {f : Addr} {fd : FuncData} (F : Fun K "period" "Measure.period" s_Measure_period f fd) (er : Errs K mg c_FeastError c_NoNumber c_TooLong c_NoMeasure c_NoDate c_Measure c_Calendar c_Sun c_Moon) : FnOk P w K mg base CX0 1 f fd ["self"] (spPer K c_Measure) := by
  refine F.ok (k := 0) sc_Measure_period (fun vs H Q E h => ?_) (fun cdv A outer s H vs Q E hr h => ?_)
  · obtain ⟨x, b, ts, rfl, _⟩ := h
    rfl
  obtain ⟨x, b, ts, rfl, M, q⟩ := h
  obtain ⟨dx, p, hx, T⟩ := M.ex
  refine ⟨_, (pss_one (ps_ret (pe_fld (pv 0) (by rfl)))), ?_⟩
  walk_at "rdx"
  refine ⟨x, c_Measure, dx, _, _, rfl, hx, er.cl_Measure, er.na_Measure_full_count, rfl, ?_⟩
  exact q
theorem sc_Measure_seek : FnScope ["self", "total", "rest", "low", "high", "middle"] ["self", "total"] (defScope s_Measure_seek) := ⟨rfl, rfl, rfl, by decide +kernel, rfl, by decide +kernel, by decide +kernel⟩
theorem ok_Measure_seek {f : Addr} {fd : FuncData} (F : Fun K "seek" "Measure.seek" s_Measure_seek f fd) (er : Errs K mg c_FeastError c_NoNumber c_TooLong c_NoMeasure c_NoDate c_Measure c_Calendar c_Sun c_Moon) (c_Measure_upto : CalM P w K mg base CX0 2 c_Measure "upto" ["self", "k"] (spUpto K c_Measure)) : FnOk P w K mg base CX0 3 f fd ["self", "total"] (spSeek K c_Measure) := by
  refine F.ok (k := 2) sc_Measure_seek (fun vs H Q E h => ?_) (fun cdv A outer s H vs Q E hr h => ?_)
  · obtain ⟨x, n, b, ts, rfl, _⟩ := h
    rfl
  obtain ⟨x, n, b, ts, rfl, M, bn, q⟩ := h
  obtain ⟨dx, p, hx, T⟩ := M.ex
  have po := M.po
  have g := M.gd
  have hb0 := g.b0
  have hb1 := g.b1
  have up := UP_step (base := b) T.ok
  have mono := fun {j k : Int} (h : j ≤ k) => UP_mono T.ok g.fl h
  have per := UP_per (base := b) T.ok (P := PER ts) (fun t ht => by
    have := per_dvd T.ok 6 (by decide)
    rw [List.take_of_length_le T.few] at this
    exact this t ht)
  obtain ⟨h1, h2⟩ := per_pow T.ok 6 (by decide)
  rw [List.take_of_length_le T.few] at h1 h2
  have h3 := pow6 (show 6 ≤ 6 by decide)
  have uz := UP_zero (base := b) T.ok
  have sl := SU_le T.ok (Int.le_of_lt h1)
  have ln : (ts.length : Int) * PER ts ≤ 6 * PER ts := Int.mul_le_mul_of_nonneg_right (by have := T.few; omega) (Int.le_of_lt h1)
  have bm : b * PER ts ≤ 20000 * PER ts := Int.mul_le_mul_of_nonneg_right hb1 (Int.le_of_lt h1)
  have us : UP b ts (PER ts) = b * PER ts + SU ts (PER ts) := rfl
  have bS : Bt 500 (UP b ts (PER ts)) := (bt_of (by omega) (by omega)).mono (by decide)
  clear us bm ln sl
  generalize hP : PER ts = P at *
  generalize hS : UP b ts P = S at *
  have m0 := Int.emod_nonneg n (show S ≠ 0 by omega)
  have m1 := Int.emod_lt_of_pos n po
  have md := Int.mul_ediv_add_emod n S
  refine ⟨_, (pss_cons (ps_set (i := 2) sc_Measure_seek.nd rfl (by first | exact Or.inl rfl | exact Or.inr rfl) (pe_op op_mod (pv 1) (pe_fld (pv 0) (by rfl))))
      (pss_cons (ps_set (i := 3) sc_Measure_seek.nd rfl (by first | exact Or.inl rfl | exact Or.inr rfl) pe_int)
      (pss_cons (ps_set (i := 4) sc_Measure_seek.nd rfl (by first | exact Or.inl rfl | exact Or.inr rfl) (pe_fld (pv 0) (by rfl)))
      (pss_cons (ps_while PassesOwn.never (pt_cmpR op_gt (pe_op op_sub (pv 4) (pv 3)) pe_int (nomark _))
        (pss_cons (ps_set (i := 5) sc_Measure_seek.nd rfl (by first | exact Or.inl rfl | exact Or.inr rfl) (pe_op op_fdivB (pe_op op_add (pv 3) (pv 4)) pe_int))
      (pss_one (ps_cut (ps_if (pt_cmpR op_le (pe_mcal c_Measure_upto er.cl_Measure (hr.mono (by decide)) (pv 0) (pa_cons (pv 5) pa_nil)) (pv 2) (nomark _))
        (pss_one (ps_set (i := 3) sc_Measure_seek.nd rfl (by first | exact Or.inl rfl | exact Or.inr rfl) (pv 5)))
        (pss_one (ps_set (i := 4) sc_Measure_seek.nd rfl (by first | exact Or.inl rfl | exact Or.inr rfl) (pv 5))))))))
      (pss_one (ps_ret (pe_op op_add (pe_op op_mulB (pe_op op_fdivB (pv 1) (pe_fld (pv 0) (by rfl))) (pe_fld (pv 0) (by rfl))) (pv 3)))))))), ?_⟩
  walk_at "rdx"
  refine ⟨x, c_Measure, dx, _, _, rfl, hx, er.cl_Measure, er.na_Measure_full_sum, rfl, ?_⟩
  walk_at "rdx"
  refine ⟨x, c_Measure, dx, _, _, rfl, hx, er.cl_Measure, er.na_Measure_full_count, rfl, ?_⟩
  walk_at "rdx"
  refine ⟨fun m σ' H' => Same H H' ∧ ∃ (lo hi : Int) (c : Option V), σ' = [some (.ref x), some (.int n), some (.int (n % S)), some (.int lo), some (.int hi), c] ∧ 0 ≤ lo ∧ lo < hi ∧ hi ≤ P ∧ UP b ts lo ≤ n % S ∧ n % S < UP b ts hi ∧ m = (hi - lo).toNat,
    ⟨_, Same.refl _, 0, P, none, rfl, by decide, h1, Int.le_refl _, by rw [uz]; exact m0, by rw [hS]; exact m1, rfl⟩, ?_⟩
  rintro m σ' H1 ⟨s1, lo, hi, c, rfl, l0, lh, hP', u1, u2, rfl⟩
  walk_at "rdx"
  refine ite2d (fun cc => ?_) (fun cc => ?_)
  · refine ⟨_, fun σ' H' hh => hh, ?_⟩
    walk_at "rdx"
    generalize hm : (lo + hi) / 2 = mi
    refine rd_cut (fun σ' H' => ∃ i, i < (hi - lo).toNat ∧ Same H H' ∧ ∃ (lo hi : Int) (c : Option V), σ' = [some (.ref x), some (.int n), some (.int (n % S)), some (.int lo), some (.int hi), c] ∧ 0 ≤ lo ∧ lo < hi ∧ hi ≤ P ∧ UP b ts lo ≤ n % S ∧ n % S < UP b ts hi ∧ i = (hi - lo).toNat) ?_ (fun _ _ h => h)
    walk_at "rdx"
    refine ⟨x, dx, _, rfl, s1 _ _ hx, rfl, ?_⟩
    walk_at "rdx"
    refine ⟨x, p, dx, mi, b, ts, _, rfl, s1 _ _ hx, rfl, rfl, T.same s1, hb0, hb1, bt_small (by omega) (by omega) (by decide), fun H2 s2 => ?_⟩
    walk_at "rdx"
    refine ite2d (fun c2 => ?_) (fun c2 => ?_)
    · walk_at "rdx"
      exact ⟨(hi - mi).toNat, by omega, s1.trans s2, mi, hi, _, rfl, by omega, by omega, hP', c2, u2, rfl⟩
    · walk_at "rdx"
      exact ⟨(mi - lo).toNat, by omega, s1.trans s2, lo, mi, _, rfl, l0, by omega, by omega, u1, by omega, rfl⟩
  · have e : hi = lo + 1 := by omega
    subst e
    walk_at "rdx"
    refine ⟨x, c_Measure, dx, _, _, rfl, s1 _ _ hx, er.cl_Measure, er.na_Measure_full_sum, rfl, ?_⟩
    walk_at "rdx"
    refine rd_i ⟨po, bS.mono (by decide)⟩ ?_
    walk_at "rdx"
    refine ⟨x, c_Measure, dx, _, _, rfl, s1 _ _ hx, er.cl_Measure, er.na_Measure_full_count, rfl, ?_⟩
    have bP : Bt 64 P := bt_small (by omega) (by omega) (by decide)
    refine rd_i ⟨300, 64, bt_div bn po, bP, by decide⟩ ?_
    walk_at "rdx"
    have e := per lo (n / S)
    have e' := per (lo + 1) (n / S)
    rw [show n / S * P + lo = lo + P * (n / S) by rw [Int.mul_comm]; omega]
    refine q _ _ s1 ?_ ?_ ?_
    · rw [e, Int.mul_comm (n / S) S]
      omega
    · rw [show lo + P * (n / S) + 1 = lo + 1 + P * (n / S) by omega, e', Int.mul_comm (n / S) S]
      omega
    · have := (bP.mul (bt_div bn po)).add ((show Bt 64 lo from bt_small (by omega) (by omega) (by decide)).mono (show 64 ≤ 64 + 300 by decide))
      rw [Int.add_comm]
      exact this.mono (by decide)
theorem sc_refuse_months : FnScope ["lengths", "leap"] ["lengths", "leap"] (defScope s_refuse_months) := ⟨rfl, rfl, rfl, by decide +kernel, rfl, by decide +kernel, by decide +kernel⟩
theorem ok_refuse_months {f : Addr} {fd : FuncData} (F : Fun K "refuse_months" "refuse_months" s_refuse_months f fd) (z_len : mg "len" = none) (z_min : mg "min" = none) (z_max : mg "max" = none) {tk_MOST_MONTHS : Tok} (m_MOST_MONTHS : mg "MOST_MONTHS" = some (.int 20 tk_MOST_MONTHS)) {tk_LONGEST_MONTH : Tok} (m_LONGEST_MONTH : mg "LONGEST_MONTH" = some (.int 1000 tk_LONGEST_MONTH)) : FnOk P w K mg base CX0 1 f fd ["lengths", "leap"] (spRefMo K) := by
  refine F.ok (k := 0) sc_refuse_months (fun vs H Q E h => ?_) (fun cdv A outer s H vs Q E hr h => ?_)
  · obtain ⟨l, lp, ls, ts, rfl, _⟩ := h
    rfl
  obtain ⟨l, lp, ls, ts, rfl, hS, g, q⟩ := h
  have l0 := g.l0
  have l1 := g.l1
  have p0 := g.p0
  have p1 := g.p1
  have ne : ls ≠ [] := fun z => by rw [z] at l0; simp at l0
  refine ⟨_, (pss_cons (ps_if (PW.pt (pw_or (pt_cmpR op_lt (pe_callB call_len_seq rfl z_len PySem.boot_len (pa_cons (pv 0) pa_nil)) pe_int (nomark _)) (pw_or1 (pt_cmpR op_gt (pe_callB call_len_seq rfl z_len PySem.boot_len (pa_cons (pv 0) pa_nil)) (pe_glob rfl m_MOST_MONTHS (rel_int _ _)) (nomark _)))))
        (pss_one ps_never)
        pss_nil)
      (pss_cons (ps_if (PW.pt (pw_or (pt_cmpR op_lt (pe_callB (call_minL rfl) rfl z_min PyProof.Rows.boot_min (pa_cons (pv 0) pa_nil)) pe_int (nomark _)) (pw_or1 (pt_cmpR op_gt (pe_callB (call_maxL rfl) rfl z_max PyProof.Rows.boot_max (pa_cons (pv 0) pa_nil)) (pe_glob rfl m_LONGEST_MONTH (rel_int _ _)) (nomark _)))))
        (pss_one ps_never)
        pss_nil)
      (pss_one (ps_if (PW.pt (pw_or (pt_cmpR op_lt (pv 1) pe_int (nomark _)) (pw_or1 (pt_cmpR op_gt (pv 1) (pe_callB call_len_seq rfl z_len PySem.boot_len (pa_cons (pv 0) pa_nil)) (nomark _)))))
        (pss_one ps_never)
        pss_nil)))), ?_⟩
  walk_at "rdx"
  refine ⟨l, _, rfl, .inl hS, ?_⟩
  rw [List.length_map]
  walk_at "rdx"
  refine iteN (by omega) ?_
  walk_at "rdx"
  refine ⟨l, _, rfl, .inl hS, ?_⟩
  rw [List.length_map]
  walk_at "rdx"
  refine iteN (by omega) ?_
  walk_at "rdx"
  refine ⟨l, ls, rfl, hS, ne, fun m hm _ => ?_⟩
  have := g.m m hm
  walk_at "rdx"
  refine iteN (by omega) ?_
  walk_at "rdx"
  refine ⟨l, ls, rfl, hS, ne, fun m hm _ => ?_⟩
  have := g.m m hm
  walk_at "rdx"
  refine iteN (by omega) ?_
  walk_at "rdx"
  refine iteN (by omega) ?_
  walk_at "rdx"
  refine ⟨l, _, rfl, .inl hS, ?_⟩
  rw [List.length_map]
  walk_at "rdx"
  refine iteN (by omega) ?_
  walk_at "rdx"
  exact q
theorem sc_Sun___init__ : FnScope ["self", "start", "lengths", "leap", "terms"] ["self", "start", "lengths", "leap", "terms"] (defScope s_Sun___init__) := ⟨rfl, rfl, rfl, by decide +kernel, rfl, by decide +kernel, by decide +kernel⟩
theorem ok_Sun___init__ {f : Addr} {fd : FuncData} {ds : Array Value} (F : FunD K "__init__" "Sun.__init__" s_Sun___init__ f fd ds) (er : Errs K mg c_FeastError c_NoNumber c_TooLong c_NoMeasure c_NoDate c_Measure c_Calendar c_Sun c_Moon) (c_refuse_months : Cal P w K mg base 1 "refuse_months" ["lengths", "leap"] (spRefMo K)) (c_Measure___init__ : CalI P w K mg base CX0 5 "Measure" c_Measure ["self", "base", "terms"] (spInitM K c_Measure)) (c_least_length : Cal P w K mg base 1 "least_length" ["base", "terms"] (spLeast K)) (z_tuple : mg "tuple" = none) (z_sum : mg "sum" = none) : FnOk P w K mg base CX0 7 f fd ["self", "start", "lengths", "leap", "terms"] (spInitS K c_Sun c_Measure) := by
  refine F.ok (k := 6) sc_Sun___init__ (fun vs H Q E h => ?_) (fun cdv A outer s H vs Q E hr h => ?_)
  · obtain ⟨x, dx, ll, s, lp, v, us, ls, ts, rfl, _⟩ := h
    rfl
  obtain ⟨x, dx, ll, s, lp, v, us, ls, ts, rfl, hx, hl, hT, hv, g, bs, q⟩ := h
  have lx : ll ≠ x := ne_of hl hx (by intro z; cases z)
  have l0 := g.l0
  have l1 := g.l1
  have p0 := g.p0
  have p1 := g.p1
  have f0 := g.f0
  have f1 := g.f1
  refine ⟨_, (pss_cons (ps_expr (pe_cal c_refuse_months (hr.mono (by decide)) rfl (pa_cons (pv 2) (pa_cons (pv 3) pa_nil))))
      (pss_cons (ps_fld (pv 0) (pv 1) (by rfl))
      (pss_cons (ps_fld (pv 0) (pe_callTy call_tuple_of rfl z_tuple PyProof.Rows.boot_tuple (pa_cons (pv 2) pa_nil)) (by rfl))
      (pss_cons (ps_fld (pv 0) (pv 3) (by rfl))
      (pss_cons (ps_fld (pv 0) (pe_mk c_Measure___init__ (hr.mono (by decide)) rfl (pa_cons (pe_callB (call_sum rfl) rfl z_sum PyProof.Rows.boot_sum (pa_cons (pv 2) pa_nil)) (pa_cons (pv 4) pa_nil))) (by rfl))
      (pss_cons (ps_if (pt_cmpR op_lt (pe_cal c_least_length (hr.mono (by decide)) rfl (pa_cons (pe_ix ix_list (pv 2) (pe_op op_sub (pv 3) pe_int) (fun _ _ => rfl)) (pa_cons (pe_fld (pe_fld (pv 0) (by rfl)) (by rfl)) pa_nil))) pe_int (nomark _))
        (pss_one ps_never)
        pss_nil)
      (pss_one (ps_if (pt_cmpR op_lt (pe_cal c_least_length (hr.mono (by decide)) rfl (pa_cons (pe_fld (pe_fld (pv 0) (by rfl)) (by rfl)) (pa_cons (pe_fld (pe_fld (pv 0) (by rfl)) (by rfl)) pa_nil))) pe_int (nomark _))
        (pss_one ps_never)
        pss_nil)))))))), ?_⟩
  walk_at "rdx"
  refine ⟨ll, lp, ls, ts, rfl, SqL.of hl, g, ?_⟩
  walk_at "rdx"
  refine ⟨x, c_Sun, dx, [], rfl, hx, er.cl_Sun, er.na_Sun_start, by decide, ?_⟩
  have k1 : But x H (upd H x (.ins c_Sun dx (putF (Str.ofString "start") (.int s) []))) := But.upd
  have x1 : upd H x (.ins c_Sun dx (putF (Str.ofString "start") (.int s) [])) x = some (.ins c_Sun dx [(Str.ofString "start", .int s)]) := upd_same
  generalize upd H x (.ins c_Sun dx (putF (Str.ofString "start") (.int s) [])) = H1 at k1 x1 ⊢
  walk_at "rdx"
  refine ⟨ll, _, rfl, .inl ⟨SqL.of (k1 _ _ lx hl), fun p hp => ?_⟩⟩
  have px : x ≠ p := ne_of_none x1 hp
  walk_at "rdx"
  refine ⟨x, c_Sun, dx, _, rfl, by rw [upd_ne px]; exact x1, er.cl_Sun, er.na_Sun_months, (by show 1 < 1000; decide), ?_⟩
  have k2 : But x H1 (upd (upd H1 p (.tup (ls.map V.int))) x (.ins c_Sun dx (putF (Str.ofString "months") (.ref p) [(Str.ofString "start", .int s)]))) := fun y o hy h => by
    rw [upd_ne hy]
    exact same_new hp _ _ _ h
  have x2 : upd (upd H1 p (.tup (ls.map V.int))) x (.ins c_Sun dx (putF (Str.ofString "months") (.ref p) [(Str.ofString "start", .int s)])) x = some (.ins c_Sun dx [(Str.ofString "start", .int s), (Str.ofString "months", .ref p)]) := upd_same
  have t2 : upd (upd H1 p (.tup (ls.map V.int))) x (.ins c_Sun dx (putF (Str.ofString "months") (.ref p) [(Str.ofString "start", .int s)])) p = some (.tup (ls.map V.int)) := by rw [upd_ne (Ne.symm px), upd_same]
  generalize upd (upd H1 p (.tup (ls.map V.int))) x (.ins c_Sun dx (putF (Str.ofString "months") (.ref p) [(Str.ofString "start", .int s)])) = H2 at k2 x2 t2 ⊢
  walk_at "rdx"
  refine ⟨x, c_Sun, dx, _, rfl, x2, er.cl_Sun, er.na_Sun_leap, (by show 2 < 1000; decide), ?_⟩
  have k3 : But x H2 (upd H2 x (.ins c_Sun dx (putF (Str.ofString "leap") (.int lp) [(Str.ofString "start", .int s), (Str.ofString "months", .ref p)]))) := But.upd
  have x3 : upd H2 x (.ins c_Sun dx (putF (Str.ofString "leap") (.int lp) [(Str.ofString "start", .int s), (Str.ofString "months", .ref p)])) x = some (.ins c_Sun dx [(Str.ofString "start", .int s), (Str.ofString "months", .ref p), (Str.ofString "leap", .int lp)]) := upd_same
  generalize upd H2 x (.ins c_Sun dx (putF (Str.ofString "leap") (.int lp) [(Str.ofString "start", .int s), (Str.ofString "months", .ref p)])) = H3 at k3 x3 ⊢
  have k03 : But x H H3 := fun y o hy h => k3 y o hy (k2 y o hy (k1 y o hy h))
  have l3 := k03 _ _ lx hl
  have t3 := k3 _ _ (Ne.symm px) t2
  walk_at "rdx"
  refine ⟨ll, ls, rfl, SqL.of l3, ?_⟩
  walk_at "rdx"
  refine fun y dy hy hdy ne => init_me hy hdy ne (hT.but hx .ins k03) ?_ g.ok g.few g.gm g.po fun H4 s4 M4 => ⟨rfl, ?_⟩
  · rcases hv with z | ⟨l, z, e⟩
    · exact .inl z
    · exact .inr ⟨l, z, k03 _ _ (ne_of e hx (by intro z; cases z)) e⟩
  have x4 := s4 _ _ x3
  have yx : y ≠ x := fun e => by subst e; rw [x3] at hy; cases hy
  walk_at "rdx"
  refine ⟨x, c_Sun, dx, _, rfl, x4, er.cl_Sun, er.na_Sun_years, (by show 3 < 1000; decide), ?_⟩
  have k5 : But x H4 (upd H4 x (.ins c_Sun dx (putF (Str.ofString "years") (.ref y) [(Str.ofString "start", .int s), (Str.ofString "months", .ref p), (Str.ofString "leap", .int lp)]))) := But.upd
  have x5 : upd H4 x (.ins c_Sun dx (putF (Str.ofString "years") (.ref y) [(Str.ofString "start", .int s), (Str.ofString "months", .ref p), (Str.ofString "leap", .int lp)])) x = some (.ins c_Sun dx (sF s lp p y)) := upd_same
  generalize upd H4 x (.ins c_Sun dx (putF (Str.ofString "years") (.ref y) [(Str.ofString "start", .int s), (Str.ofString "months", .ref p), (Str.ofString "leap", .int lp)])) = H5 at k5 x5 ⊢
  have M5 := M4.butX x4 .ins yx k5
  have t5 := k5 _ _ (Ne.symm px) (s4 _ _ t3)
  have l5 := k5 _ _ lx (s4 _ _ l3)
  have k05 : ∀ y o, y ≠ x → H y = some o → H5 y = some o := fun y o hy h => k5 y o hy (s4 _ _ (k03 y o hy h))
  obtain ⟨d5, tp, e5, T5⟩ := M5.ex
  have elp : lp - 1 = (((lp - 1).toNat : Nat) : Int) := by omega
  have hat : atI (ls.map V.int) (lp - 1) = some (V.int (ls.getD (lp - 1).toNat 0)) := by
    conv => lhs; rw [elp]
    refine atI_nat ?_
    rw [List.getElem?_map, List.getD_eq_getElem?_getD, List.getElem?_eq_getElem (by omega)]
    rfl
  walk_at "rdx"
  refine rd_ixL (SqL.of l5) hat ?_
  walk_at "rdx"
  refine ⟨x, c_Sun, dx, _, _, rfl, x5, er.cl_Sun, er.na_Sun_years, rfl, ?_⟩
  walk_at "rdx"
  refine ⟨y, c_Measure, d5, _, _, rfl, e5, er.cl_Measure, er.na_Measure_terms, rfl, ?_⟩
  walk_at "rdx"
  refine ⟨tp, _, ts, rfl, T5, fun H6 s6 => ?_⟩
  walk_at "rdx"
  refine iteN (by omega) ?_
  walk_at "rdx"
  have x6 := s6 _ _ x5
  have e6 := s6 _ _ e5
  refine ⟨x, c_Sun, dx, _, _, rfl, x6, er.cl_Sun, er.na_Sun_years, rfl, ?_⟩
  walk_at "rdx"
  refine ⟨y, c_Measure, d5, _, _, rfl, e6, er.cl_Measure, er.na_Measure_base, rfl, ?_⟩
  walk_at "rdx"
  refine ⟨x, c_Sun, dx, _, _, rfl, x6, er.cl_Sun, er.na_Sun_years, rfl, ?_⟩
  walk_at "rdx"
  refine ⟨y, c_Measure, d5, _, _, rfl, e6, er.cl_Measure, er.na_Measure_terms, rfl, ?_⟩
  walk_at "rdx"
  refine ⟨tp, _, ts, rfl, T5.same s6, fun H7 s7 => ?_⟩
  walk_at "rdx"
  refine iteN (by omega) ?_
  walk_at "rdx"
  refine q _ (fun y o hy h => s7 _ _ (s6 _ _ (k05 y o hy h))) ⟨⟨dx, p, y, s7 _ _ x6, SqT.of (s7 _ _ (s6 _ _ t5)), (M5.same s6).same s7⟩, g, bs⟩
theorem sc_Sun_year_start : FnScope ["self", "year"] ["self", "year"] (defScope s_Sun_year_start) := ⟨rfl, rfl, rfl, by decide +kernel, rfl, by decide +kernel, by decide +kernel⟩
theorem ok_Sun_year_start {f : Addr} {fd : FuncData} (F : Fun K "year_start" "Sun.year_start" s_Sun_year_start f fd) (er : Errs K mg c_FeastError c_NoNumber c_TooLong c_NoMeasure c_NoDate c_Measure c_Calendar c_Sun c_Moon) (c_Measure_upto : CalM P w K mg base CX0 2 c_Measure "upto" ["self", "k"] (spUpto K c_Measure)) : FnOk P w K mg base CX0 3 f fd ["self", "year"] (spYS K c_Sun c_Measure) := by
  refine F.ok (k := 2) sc_Sun_year_start (fun vs H Q E h => ?_) (fun cdv A outer s H vs Q E hr h => ?_)
  · obtain ⟨x, n, s, ls, lp, ts, rfl, _⟩ := h
    rfl
  obtain ⟨x, n, s, ls, lp, ts, rfl, S, bn, q⟩ := h
  obtain ⟨dx, p, y, hx, hp, M⟩ := S.ex
  obtain ⟨d, fs, ey, ly⟩ := M.meth
  obtain ⟨d2, tp, e2, T2⟩ := M.ex
  refine ⟨_, (pss_one (ps_ret (pe_op op_add (pe_fld (pv 0) (by rfl)) (pe_mcal c_Measure_upto er.cl_Measure (hr.mono (by decide)) (pe_fld (pv 0) (by rfl)) (pa_cons (pv 1) pa_nil))))), ?_⟩
  walk_at "rdx"
  refine ⟨x, c_Sun, dx, _, _, rfl, hx, er.cl_Sun, er.na_Sun_start, rfl, ?_⟩
  walk_at "rdx"
  refine ⟨x, c_Sun, dx, _, _, rfl, hx, er.cl_Sun, er.na_Sun_years, rfl, ?_⟩
  walk_at "rdx"
  refine ⟨y, d, fs, rfl, ey, ly.2.2.1, ?_⟩
  walk_at "rdx"
  refine ⟨y, tp, d2, n, _, ts, _, rfl, e2, rfl, rfl, T2, M.gd.b0, M.gd.b1, bn.mono (by decide), fun H' s' => ?_⟩
  walk_at "rdx"
  exact q _ s'
theorem sc_Sun_year_at : FnScope ["self", "day"] ["self", "day"] (defScope s_Sun_year_at) := ⟨rfl, rfl, rfl, by decide +kernel, rfl, by decide +kernel, by decide +kernel⟩
theorem ok_Sun_year_at {f : Addr} {fd : FuncData} (F : Fun K "year_at" "Sun.year_at" s_Sun_year_at f fd) (er : Errs K mg c_FeastError c_NoNumber c_TooLong c_NoMeasure c_NoDate c_Measure c_Calendar c_Sun c_Moon) (c_Measure_seek : CalM P w K mg base CX0 3 c_Measure "seek" ["self", "total"] (spSeek K c_Measure)) : FnOk P w K mg base CX0 4 f fd ["self", "day"] (spYA K c_Sun c_Measure) := by
  refine F.ok (k := 3) sc_Sun_year_at (fun vs H Q E h => ?_) (fun cdv A outer s H vs Q E hr h => ?_)
  · obtain ⟨x, n, s, ls, lp, ts, rfl, _⟩ := h
    rfl
  obtain ⟨x, n, s, ls, lp, ts, rfl, S, bn, q⟩ := h
  obtain ⟨dx, p, y, hx, hp, M⟩ := S.ex
  obtain ⟨d, fs, ey, ly⟩ := M.meth
  refine ⟨_, (pss_one (ps_ret (pe_mcal c_Measure_seek er.cl_Measure (hr.mono (by decide)) (pe_fld (pv 0) (by rfl)) (pa_cons (pe_op op_sub (pv 1) (pe_fld (pv 0) (by rfl))) pa_nil)))), ?_⟩
  walk_at "rdx"
  refine ⟨x, c_Sun, dx, _, _, rfl, hx, er.cl_Sun, er.na_Sun_years, rfl, ?_⟩
  walk_at "rdx"
  refine ⟨y, d, fs, rfl, ey, ly.1, ?_⟩
  walk_at "rdx"
  refine ⟨x, c_Sun, dx, _, _, rfl, hx, er.cl_Sun, er.na_Sun_start, rfl, ?_⟩
  walk_at "rdx"
  refine ⟨y, n - s, _, ts, rfl, M, (bn.sub S.bs).mono (by decide), fun k H' s' u1 u2 bk => ?_⟩
  exact q _ _ s' (by omega) (by omega) (((bn.sub S.bs).le (seek_small S.gd.ok S.gd.f1 u1 u2)).mono (by decide))
theorem sc_Sun_lengths : FnScope ["self", "year", "told"] ["self", "year"] (defScope s_Sun_lengths) := ⟨rfl, rfl, rfl, by decide +kernel, rfl, by decide +kernel, by decide +kernel⟩
theorem ok_Sun_lengths {f : Addr} {fd : FuncData} (F : Fun K "lengths" "Sun.lengths" s_Sun_lengths f fd) (er : Errs K mg c_FeastError c_NoNumber c_TooLong c_NoMeasure c_NoDate c_Measure c_Calendar c_Sun c_Moon) (c_Measure_at : CalM P w K mg base CX0 2 c_Measure "at" ["self", "k"] (spAt K c_Measure)) (z_list : mg "list" = none) : FnOk P w K mg base CX0 3 f fd ["self", "year"] (spLens K c_Sun c_Measure) := by
  refine F.ok (k := 2) sc_Sun_lengths (fun vs H Q E h => ?_) (fun cdv A outer s H vs Q E hr h => ?_)
  · obtain ⟨x, n, s, ls, lp, ts, rfl, _⟩ := h
    rfl
  obtain ⟨x, n, s, ls, lp, ts, rfl, S, bn, q⟩ := h
  obtain ⟨dx, p, y, hx, hp, M⟩ := S.ex
  have g := S.gd
  have p0 := g.p0
  have p1 := g.p1
  have elp : lp - 1 = (((lp - 1).toNat : Nat) : Int) := by omega
  generalize hi : (lp - 1).toNat = i at elp
  have il : i < ls.length := by omega
  refine ⟨_, (pss_cons (ps_set (i := 2) sc_Sun_lengths.nd rfl (by first | exact Or.inl rfl | exact Or.inr rfl) (pe_callTy call_list_of rfl z_list PyProof.Rows.boot_list (pa_cons (pe_fld (pv 0) (by rfl)) pa_nil)))
      (pss_cons (ps_asg (pe_op op_sub (pe_op op_add (pe_ix ix_list (pv 2) (pe_op op_sub (pe_fld (pv 0) (by rfl)) pe_int) (fun _ _ => rfl)) (pe_mcal c_Measure_at er.cl_Measure (hr.mono (by decide)) (pe_fld (pv 0) (by rfl)) (pa_cons (pv 1) pa_nil))) (pe_fld (pe_fld (pv 0) (by rfl)) (by rfl))) (pg_sub (pv 2) (pe_op op_sub (pe_fld (pv 0) (by rfl)) pe_int) set_list))
      (pss_one (ps_ret (pv 2))))), ?_⟩
  walk_at "rdx"
  refine ⟨x, c_Sun, dx, _, _, rfl, hx, er.cl_Sun, er.na_Sun_months, rfl, ?_⟩
  walk_at "rdx"
  refine ⟨p, _, rfl, .inr hp, fun l hl => ?_⟩
  have s1 := same_new hl (.lst (ls.map V.int))
  have t1 : upd H l (.lst (ls.map V.int)) l = some (.lst (ls.map V.int)) := upd_same
  generalize upd H l (.lst (ls.map V.int)) = H1 at s1 t1 ⊢
  have M1 := M.same s1
  obtain ⟨d1, fs, e1, l1⟩ := M1.meth
  obtain ⟨d2, tp, e2, T2⟩ := M1.ex
  have x1 := s1 _ _ hx
  walk_at "rdx"
  refine ⟨x, c_Sun, dx, _, _, rfl, x1, er.cl_Sun, er.na_Sun_leap, rfl, ?_⟩
  walk_at "rdx"
  rw [elp]
  have hat : atI (ls.map V.int) (i : Int) = some (V.int (ls.getD i 0)) := by
    refine atI_nat ?_
    rw [List.getElem?_map, List.getD_eq_getElem?_getD, List.getElem?_eq_getElem il]
    rfl
  refine rd_ixL (SqL.of t1) hat ?_
  walk_at "rdx"
  refine ⟨x, c_Sun, dx, _, _, rfl, x1, er.cl_Sun, er.na_Sun_years, rfl, ?_⟩
  walk_at "rdx"
  refine ⟨y, d1, fs, rfl, e1, l1.2.1, ?_⟩
  walk_at "rdx"
  refine ⟨y, n, _, ts, rfl, M1, bn.mono (by decide), fun H2 s2 => ?_⟩
  have x2 := s2 _ _ x1
  walk_at "rdx"
  refine ⟨x, c_Sun, dx, _, _, rfl, x2, er.cl_Sun, er.na_Sun_years, rfl, ?_⟩
  walk_at "rdx"
  refine ⟨y, c_Measure, d2, _, _, rfl, s2 _ _ e2, er.cl_Measure, er.na_Measure_base, rfl, ?_⟩
  walk_at "rdx"
  refine ⟨x, c_Sun, dx, _, _, rfl, x2, er.cl_Sun, er.na_Sun_leap, rfl, ?_⟩
  walk_at "rdx"
  rw [elp]
  have t2 := s2 _ _ t1
  refine rd_setL t2 (by rw [List.length_map]; exact il) ?_
  walk_at "rdx"
  have ev : ls.getD i 0 + AT ls.sum ts n - ls.sum = ls.getD i 0 + ONS ts n := by
    unfold AT
    omega
  rw [ev]
  have el : (ls.map V.int).set i (V.int (ls.getD i 0 + ONS ts n)) = (LENS ls lp ts n).map V.int := by
    unfold LENS
    rw [hi, List.map_set]
  rw [el]
  refine q l _ hl (fun b o h => ?_) upd_same
  rw [upd_ne (ne_of_none h hl)]
  exact s2 _ _ (s1 _ _ h)
theorem sc_Sun_cycle : FnScope ["self", "years"] ["self"] (defScope s_Sun_cycle) := ⟨rfl, rfl, rfl, by decide +kernel, rfl, by decide +kernel, by decide +kernel⟩
theorem ok_Sun_cycle {f : Addr} {fd : FuncData} (F : Fun K "cycle" "Sun.cycle" s_Sun_cycle f fd) (er : Errs K mg c_FeastError c_NoNumber c_TooLong c_NoMeasure c_NoDate c_Measure c_Calendar c_Sun c_Moon) (c_Measure_period : CalM P w K mg base CX0 1 c_Measure "period" ["self"] (spPer K c_Measure)) (c_Measure_upto : CalM P w K mg base CX0 2 c_Measure "upto" ["self", "k"] (spUpto K c_Measure)) : FnOk P w K mg base CX0 3 f fd ["self"] (spCyc K c_Sun c_Measure) := by
  refine F.ok (k := 2) sc_Sun_cycle (fun vs H Q E h => ?_) (fun cdv A outer s H vs Q E hr h => ?_)
  · obtain ⟨x, s, ls, lp, ts, rfl, _⟩ := h
    rfl
  obtain ⟨x, s, ls, lp, ts, rfl, S, q⟩ := h
  obtain ⟨dx, p, y, hx, hp, M⟩ := S.ex
  obtain ⟨d, fs, ey, ly⟩ := M.meth
  obtain ⟨d2, tp, e2, T2⟩ := M.ex
  have pp := per_pos S.gd.ok S.gd.few
  refine ⟨_, (pss_cons (ps_set (i := 1) sc_Sun_cycle.nd rfl (by first | exact Or.inl rfl | exact Or.inr rfl) (pe_mcal0 c_Measure_period er.cl_Measure (hr.mono (by decide)) (pe_fld (pv 0) (by rfl))))
      (pss_one (ps_ret (pe_tup (pa_cons (pv 1) (pa_cons (pe_mcal c_Measure_upto er.cl_Measure (hr.mono (by decide)) (pe_fld (pv 0) (by rfl)) (pa_cons (pv 1) pa_nil)) pa_nil)))))), ?_⟩
  walk_at "rdx"
  refine ⟨x, c_Sun, dx, _, _, rfl, hx, er.cl_Sun, er.na_Sun_years, rfl, ?_⟩
  walk_at "rdx"
  refine ⟨y, d, fs, rfl, ey, ly.2.2.2, ?_⟩
  walk_at "rdx"
  refine ⟨y, _, ts, rfl, M, ?_⟩
  walk_at "rdx"
  refine ⟨x, c_Sun, dx, _, _, rfl, hx, er.cl_Sun, er.na_Sun_years, rfl, ?_⟩
  walk_at "rdx"
  refine ⟨y, d, fs, rfl, ey, ly.2.2.1, ?_⟩
  walk_at "rdx"
  refine ⟨y, tp, d2, _, _, ts, _, rfl, e2, rfl, rfl, T2, M.gd.b0, M.gd.b1, bt_small (by omega) (by omega) (by decide), fun H' s' => ?_⟩
  walk_at "rdx"
  refine ⟨two, fun c hc => ?_⟩
  exact q _ _ (s'.trans (same_new hc _)) upd_same
theorem sc_refuse_part : FnScope ["measure", "greatest"] ["measure", "greatest"] (defScope s_refuse_part) := ⟨rfl, rfl, rfl, by decide +kernel, rfl, by decide +kernel, by decide +kernel⟩
theorem ok_refuse_part {f : Addr} {fd : FuncData} (F : Fun K "refuse_part" "refuse_part" s_refuse_part f fd) (er : Errs K mg c_FeastError c_NoNumber c_TooLong c_NoMeasure c_NoDate c_Measure c_Calendar c_Sun c_Moon) (c_least_length : Cal P w K mg base 1 "least_length" ["base", "terms"] (spLeast K)) : FnOk P w K mg base CX0 2 f fd ["measure", "greatest"] (spRefPt K c_Measure) := by
  refine F.ok (k := 1) sc_refuse_part (fun vs H Q E h => ?_) (fun cdv A outer s H vs Q E hr h => ?_)
  · obtain ⟨y, b, g, ts, rfl, _⟩ := h
    rfl
  obtain ⟨y, b, g, ts, rfl, M, f, bg, q⟩ := h
  obtain ⟨d, p, e, T⟩ := M.ex
  refine ⟨_, (pss_cons (ps_if (pt_cmpR op_lt (pe_cal c_least_length (hr.mono (by decide)) rfl (pa_cons (pe_fld (pv 0) (by rfl)) (pa_cons (pe_fld (pv 0) (by rfl)) pa_nil))) pe_int (nomark _))
        (pss_one ps_never)
        pss_nil)
      (pss_one (ps_if (pt_cmpR op_gt (pe_fld (pv 0) (by rfl)) (pv 1) (nomark _))
        (pss_one ps_never)
        pss_nil))), ?_⟩
  walk_at "rdx"
  refine ⟨y, c_Measure, d, _, _, rfl, e, er.cl_Measure, er.na_Measure_base, rfl, ?_⟩
  walk_at "rdx"
  refine ⟨y, c_Measure, d, _, _, rfl, e, er.cl_Measure, er.na_Measure_terms, rfl, ?_⟩
  walk_at "rdx"
  refine ⟨p, _, ts, rfl, T, fun H1 s1 => ?_⟩
  walk_at "rdx"
  refine iteN (by omega) ?_
  walk_at "rdx"
  refine ⟨y, c_Measure, d, _, _, rfl, s1 _ _ e, er.cl_Measure, er.na_Measure_base, rfl, ?_⟩
  walk_at "rdx"
  refine iteN (by omega) ?_
  walk_at "rdx"
  exact q _ s1
theorem sc_Moon___init__ : FnScope ["self", "start", "days", "many"] ["self", "start", "days", "many"] (defScope s_Moon___init__) := ⟨rfl, rfl, rfl, by decide +kernel, rfl, by decide +kernel, by decide +kernel⟩
theorem ok_Moon___init__ {f : Addr} {fd : FuncData} (F : Fun K "__init__" "Moon.__init__" s_Moon___init__ f fd) (er : Errs K mg c_FeastError c_NoNumber c_TooLong c_NoMeasure c_NoDate c_Measure c_Calendar c_Sun c_Moon) (c_refuse_part : Cal P w K mg base 2 "refuse_part" ["measure", "greatest"] (spRefPt K c_Measure)) {tk_LONGEST_MONTH : Tok} (m_LONGEST_MONTH : mg "LONGEST_MONTH" = some (.int 1000 tk_LONGEST_MONTH)) {tk_MOST_MONTHS : Tok} (m_MOST_MONTHS : mg "MOST_MONTHS" = some (.int 20 tk_MOST_MONTHS)) : FnOk P w K mg base CX0 3 f fd ["self", "start", "days", "many"] (spInitMo K c_Moon c_Measure) := by
  refine F.ok (k := 2) sc_Moon___init__ (fun vs H Q E h => ?_) (fun cdv A outer s H vs Q E hr h => ?_)
  · obtain ⟨x, dx, d, m, s, bd, bm, td, tm, rfl, _⟩ := h
    rfl
  obtain ⟨x, dx, d, m, s, bd, bm, td, tm, rfl, hx, hd, hm, g, bs, q⟩ := h
  refine ⟨_, (pss_cons (ps_expr (pe_cal c_refuse_part (hr.mono (by decide)) rfl (pa_cons (pv 2) (pa_cons (pe_glob rfl m_LONGEST_MONTH (rel_int _ _)) pa_nil))))
      (pss_cons (ps_expr (pe_cal c_refuse_part (hr.mono (by decide)) rfl (pa_cons (pv 3) (pa_cons (pe_glob rfl m_MOST_MONTHS (rel_int _ _)) pa_nil))))
      (pss_cons (ps_fld (pv 0) (pv 1) (by rfl))
      (pss_cons (ps_fld (pv 0) (pv 2) (by rfl))
      (pss_one (ps_fld (pv 0) (pv 3) (by rfl))))))), ?_⟩
  walk_at "rdx"
  refine ⟨d, bd, _, td, rfl, hd, g.fd, g.gd, fun H0 s0 => ?_⟩
  walk_at "rdx"
  refine ⟨m, bm, _, tm, rfl, hm.same s0, g.fm, g.gm, fun H9 s9 => ?_⟩
  have s09 := s0.trans s9
  have hx := s09 _ _ hx
  have hd := hd.same s09
  have hm := hm.same s09
  have dnx : d ≠ x := by
    obtain ⟨_, _, e, _⟩ := hd.ex
    exact ne_of e hx (by intro z; injection z with _ _ z; cases z)
  have mnx : m ≠ x := by
    obtain ⟨_, _, e, _⟩ := hm.ex
    exact ne_of e hx (by intro z; injection z with _ _ z; cases z)
  walk_at "rdx"
  refine ⟨x, c_Moon, dx, [], rfl, hx, er.cl_Moon, er.na_Moon_start, by decide, ?_⟩
  have k1 : But x H9 (upd H9 x (.ins c_Moon dx (putF (Str.ofString "start") (.int s) []))) := But.upd
  have x1 : upd H9 x (.ins c_Moon dx (putF (Str.ofString "start") (.int s) [])) x = some (.ins c_Moon dx [(Str.ofString "start", .int s)]) := upd_same
  generalize upd H9 x (.ins c_Moon dx (putF (Str.ofString "start") (.int s) [])) = H1 at k1 x1 ⊢
  walk_at "rdx"
  refine ⟨x, c_Moon, dx, _, rfl, x1, er.cl_Moon, er.na_Moon_days, (by show 1 < 1000; decide), ?_⟩
  have k2 : But x H1 (upd H1 x (.ins c_Moon dx (putF (Str.ofString "days") (.ref d) [(Str.ofString "start", .int s)]))) := But.upd
  have x2 : upd H1 x (.ins c_Moon dx (putF (Str.ofString "days") (.ref d) [(Str.ofString "start", .int s)])) x = some (.ins c_Moon dx [(Str.ofString "start", .int s), (Str.ofString "days", .ref d)]) := upd_same
  generalize upd H1 x (.ins c_Moon dx (putF (Str.ofString "days") (.ref d) [(Str.ofString "start", .int s)])) = H2 at k2 x2 ⊢
  walk_at "rdx"
  refine ⟨x, c_Moon, dx, _, rfl, x2, er.cl_Moon, er.na_Moon_many, (by show 2 < 1000; decide), ?_⟩
  have k3 : But x H2 (upd H2 x (.ins c_Moon dx (putF (Str.ofString "many") (.ref m) [(Str.ofString "start", .int s), (Str.ofString "days", .ref d)]))) := But.upd
  have x3 : upd H2 x (.ins c_Moon dx (putF (Str.ofString "many") (.ref m) [(Str.ofString "start", .int s), (Str.ofString "days", .ref d)])) x = some (.ins c_Moon dx (moF s d m)) := upd_same
  generalize upd H2 x (.ins c_Moon dx (putF (Str.ofString "many") (.ref m) [(Str.ofString "start", .int s), (Str.ofString "days", .ref d)])) = H3 at k3 x3 ⊢
  have k03 : But x H9 H3 := fun y o hy h => k3 y o hy (k2 y o hy (k1 y o hy h))
  walk_at "rdx"
  refine q _ (fun y o hy h => k03 y o hy (s09 _ _ h)) ⟨⟨dx, d, m, x3, hd.butX hx .ins dnx k03, hm.butX hx .ins mnx k03⟩, g, bs⟩
theorem sc_Moon_year_start : FnScope ["self", "year"] ["self", "year"] (defScope s_Moon_year_start) := ⟨rfl, rfl, rfl, by decide +kernel, rfl, by decide +kernel, by decide +kernel⟩
theorem ok_Moon_year_start {f : Addr} {fd : FuncData} (F : Fun K "year_start" "Moon.year_start" s_Moon_year_start f fd) (er : Errs K mg c_FeastError c_NoNumber c_TooLong c_NoMeasure c_NoDate c_Measure c_Calendar c_Sun c_Moon) (c_Measure_upto : CalM P w K mg base CX0 2 c_Measure "upto" ["self", "k"] (spUpto K c_Measure)) : FnOk P w K mg base CX0 3 f fd ["self", "year"] (spMYS K c_Moon c_Measure) := by
  refine F.ok (k := 2) sc_Moon_year_start (fun vs H Q E h => ?_) (fun cdv A outer s H vs Q E hr h => ?_)
  · obtain ⟨x, n, s, bd, bm, td, tm, rfl, _⟩ := h
    rfl
  obtain ⟨x, n, s, bd, bm, td, tm, rfl, S, bn, q⟩ := h
  obtain ⟨dx, d, m, hx, D, M⟩ := S.ex
  obtain ⟨d1, f1, e1, l1⟩ := D.meth
  obtain ⟨d2, f2, e2, l2⟩ := M.meth
  obtain ⟨d4, p4, e4, T4⟩ := M.ex
  have g := S.gd
  refine ⟨_, (pss_one (ps_ret (pe_op op_add (pe_fld (pv 0) (by rfl)) (pe_mcal c_Measure_upto er.cl_Measure (hr.mono (by decide)) (pe_fld (pv 0) (by rfl)) (pa_cons (pe_mcal c_Measure_upto er.cl_Measure (hr.mono (by decide)) (pe_fld (pv 0) (by rfl)) (pa_cons (pv 1) pa_nil)) pa_nil))))), ?_⟩
  walk_at "rdx"
  refine ⟨x, c_Moon, dx, _, _, rfl, hx, er.cl_Moon, er.na_Moon_start, rfl, ?_⟩
  walk_at "rdx"
  refine ⟨x, c_Moon, dx, _, _, rfl, hx, er.cl_Moon, er.na_Moon_days, rfl, ?_⟩
  walk_at "rdx"
  refine ⟨d, d1, f1, rfl, e1, l1.2.2.1, ?_⟩
  walk_at "rdx"
  refine ⟨x, c_Moon, dx, _, _, rfl, hx, er.cl_Moon, er.na_Moon_many, rfl, ?_⟩
  walk_at "rdx"
  refine ⟨m, d2, f2, rfl, e2, l2.2.2.1, ?_⟩
  walk_at "rdx"
  refine ⟨m, p4, d4, n, _, tm, _, rfl, e4, rfl, rfl, T4, M.gd.b0, M.gd.b1, bn.mono (by decide), fun H1 s1 => ?_⟩
  obtain ⟨d3, p3, e3, T3⟩ := (D.same s1).ex
  walk_at "rdx"
  refine ⟨d, p3, d3, _, _, td, _, rfl, e3, rfl, rfl, T3, D.gd.b0, D.gd.b1, (bt_up g.okm M.gd.b0 M.gd.b1 g.fwm bn).mono (by decide), fun H2 s2 => ?_⟩
  walk_at "rdx"
  exact q _ (s1.trans s2)
theorem sc_Moon_year_at : FnScope ["self", "day"] ["self", "day"] (defScope s_Moon_year_at) := ⟨rfl, rfl, rfl, by decide +kernel, rfl, by decide +kernel, by decide +kernel⟩
theorem ok_Moon_year_at {f : Addr} {fd : FuncData} (F : Fun K "year_at" "Moon.year_at" s_Moon_year_at f fd) (er : Errs K mg c_FeastError c_NoNumber c_TooLong c_NoMeasure c_NoDate c_Measure c_Calendar c_Sun c_Moon) (c_Measure_seek : CalM P w K mg base CX0 3 c_Measure "seek" ["self", "total"] (spSeek K c_Measure)) : FnOk P w K mg base CX0 4 f fd ["self", "day"] (spMYA K c_Moon c_Measure) := by
  refine F.ok (k := 3) sc_Moon_year_at (fun vs H Q E h => ?_) (fun cdv A outer s H vs Q E hr h => ?_)
  · obtain ⟨x, n, s, bd, bm, td, tm, rfl, _⟩ := h
    rfl
  obtain ⟨x, n, s, bd, bm, td, tm, rfl, S, bn, q⟩ := h
  obtain ⟨dx, d, m, hx, D, M⟩ := S.ex
  obtain ⟨d1, f1, e1, l1⟩ := D.meth
  obtain ⟨d2, f2, e2, l2⟩ := M.meth
  have g := S.gd
  have b1 : Bt 291 (n - s) := bn.sub S.bs
  refine ⟨_, (pss_one (ps_ret (pe_mcal c_Measure_seek er.cl_Measure (hr.mono (by decide)) (pe_fld (pv 0) (by rfl)) (pa_cons (pe_mcal c_Measure_seek er.cl_Measure (hr.mono (by decide)) (pe_fld (pv 0) (by rfl)) (pa_cons (pe_op op_sub (pv 1) (pe_fld (pv 0) (by rfl))) pa_nil)) pa_nil)))), ?_⟩
  walk_at "rdx"
  refine ⟨x, c_Moon, dx, _, _, rfl, hx, er.cl_Moon, er.na_Moon_many, rfl, ?_⟩
  walk_at "rdx"
  refine ⟨m, d2, f2, rfl, e2, l2.1, ?_⟩
  walk_at "rdx"
  refine ⟨x, c_Moon, dx, _, _, rfl, hx, er.cl_Moon, er.na_Moon_days, rfl, ?_⟩
  walk_at "rdx"
  refine ⟨d, d1, f1, rfl, e1, l1.1, ?_⟩
  walk_at "rdx"
  refine ⟨x, c_Moon, dx, _, _, rfl, hx, er.cl_Moon, er.na_Moon_start, rfl, ?_⟩
  walk_at "rdx"
  refine ⟨d, n - s, _, td, rfl, D, b1.mono (by decide), fun j H1 s1 u1 u2 _ => ?_⟩
  have bj : Bt 291 j := b1.le (seek_small g.okd g.fd u1 u2)
  walk_at "rdx"
  refine ⟨m, j, _, tm, rfl, M.same s1, bj.mono (by decide), fun k H2 s2 v1 v2 _ => ?_⟩
  have bk : Bt 291 k := bj.le (seek_small g.okm g.fm v1 v2)
  have m1 := UP_mono g.okd (Int.le_of_lt g.fd) v1
  have m2 := UP_mono g.okd (Int.le_of_lt g.fd) (show j + 1 ≤ UP bm tm (k + 1) by omega)
  refine q _ _ (s1.trans s2) ?_ ?_ (bk.mono (by decide))
  · unfold MYS
    omega
  · unfold MYS
    omega
theorem sc_Moon_lengths : FnScope ["self", "year", "first"] ["self", "year"] (defScope s_Moon_lengths) := ⟨rfl, rfl, rfl, by decide +kernel, rfl, by decide +kernel, by decide +kernel⟩
theorem ok_Moon_lengths {f : Addr} {fd : FuncData} (F : Fun K "lengths" "Moon.lengths" s_Moon_lengths f fd) (er : Errs K mg c_FeastError c_NoNumber c_TooLong c_NoMeasure c_NoDate c_Measure c_Calendar c_Sun c_Moon) (c_Measure_upto : CalM P w K mg base CX0 2 c_Measure "upto" ["self", "k"] (spUpto K c_Measure)) (c_Measure_at : CalM P w K mg base CX0 2 c_Measure "at" ["self", "k"] (spAt K c_Measure)) (z_range : mg "range" = none) : FnOk P w K mg base CX0 3 f fd ["self", "year"] (spMLens K c_Moon c_Measure) := by
  refine F.ok (k := 2) sc_Moon_lengths (fun vs H Q E h => ?_) (fun cdv A outer s H vs Q E hr h => ?_)
  · obtain ⟨x, n, s, bd, bm, td, tm, rfl, _⟩ := h
    rfl
  obtain ⟨x, n, s, bd, bm, td, tm, rfl, S, bn, q⟩ := h
  obtain ⟨dx, d, m, hx, D, M⟩ := S.ex
  obtain ⟨d2, f2, e2, l2⟩ := M.meth
  obtain ⟨d4, p4, e4, T4⟩ := M.ex
  have g := S.gd
  have a0 := AT_pos g.okm g.fm n
  have a1 := AT_le g.okm g.fwm (b := bm) n
  have gm := g.gm
  refine ⟨_, (pss_cons (ps_set (i := 2) sc_Moon_lengths.nd rfl (by first | exact Or.inl rfl | exact Or.inr rfl) (pe_mcal c_Measure_upto er.cl_Measure (hr.mono (by decide)) (pe_fld (pv 0) (by rfl)) (pa_cons (pv 1) pa_nil)))
      (pss_one (ps_ret (pe_comp rfl (compOk_freeM ["self", "year", "first"] ["self", "year", "first"] rfl rfl (by with_unfolding_all rfl) (by decide +kernel) rfl (by decide +kernel) rfl (by decide +kernel) (by walk_at "fm") (by with_unfolding_all rfl) (by with_unfolding_all rfl)) (pi_range1 rfl z_range (pa_cons (pe_mcal c_Measure_at er.cl_Measure (hr.mono (by decide)) (pe_fld (pv 0) (by rfl)) (pa_cons (pv 1) pa_nil)) pa_nil)) (fun _ _ _ _ => pifs_nil) (fun _ _ _ _ => (pe_mcal (ta := tFld K (tVar 1) (Str.ofString "days")) c_Measure_at er.cl_Measure (hr.mono (by decide)) (pe_fld (pv 1) (by rfl)) (pa_cons (pe_op op_add (pv 3) (pv 0)) pa_nil))))))), ?_⟩
  walk_at "rdx"
  refine ⟨x, c_Moon, dx, _, _, rfl, hx, er.cl_Moon, er.na_Moon_many, rfl, ?_⟩
  walk_at "rdx"
  refine ⟨m, d2, f2, rfl, e2, l2.2.2.1, ?_⟩
  walk_at "rdx"
  refine ⟨m, p4, d4, n, _, tm, _, rfl, e4, rfl, rfl, T4, M.gd.b0, M.gd.b1, bn.mono (by decide), fun H1 s1 => ?_⟩
  have hx1 := s1 _ _ hx
  have M1 := M.same s1
  have D1 := D.same s1
  have bu : Bt 386 (UP bm tm n) := bt_up g.okm M.gd.b0 M.gd.b1 g.fwm bn
  obtain ⟨d3, f3, e3, l3⟩ := M1.meth
  walk_at "rdx"
  refine rd_comp (rd_rng1 ?_)
  walk_at "rdx"
  refine ⟨x, c_Moon, dx, _, _, rfl, hx1, er.cl_Moon, er.na_Moon_many, rfl, ?_⟩
  walk_at "rdx"
  refine ⟨m, d3, f3, rfl, e3, l3.2.1, ?_⟩
  walk_at "rdx"
  refine ⟨m, n, _, tm, rfl, M1, bn.mono (by decide), fun H2 s2 => ?_⟩
  have hx2 := s2 _ _ hx1
  have D2 := D1.same s2
  refine ⟨_, rfl, by omega, by omega, ?_⟩
  refine comp_inv walk_r (by rw [List.length_map, List.length_range]; exact small1000 (by omega)) (fun E i ys H3 => H3 E = some (.lst ys) ∧ Same H2 H3 ∧ ys = ((List.range i).map fun j : Nat => AT bd td (UP bm tm n + (j : Int))).map V.int) (fun E hE => ⟨upd_same, same_new hE _, rfl⟩)
    (fun E i ys H3 _ ⟨h1, _, h3⟩ => ⟨h1, by rw [h3, List.length_map, List.length_map, List.length_range]; exact Nat.le_refl _, trivial⟩) (fun E i v ys H3 hE hv ⟨h1, h2, h3⟩ => ?_) (fun E ys H3 hE ⟨h1, h2, h3⟩ => ?_)
  · rw [List.getElem?_map] at hv
    obtain ⟨j, hj, rfl⟩ := Option.map_eq_some_iff.mp hv
    have jl : j < (AT bm tm n).toNat := List.mem_range.mp (List.mem_of_getElem? hj)
    obtain rfl : j = i := by
      have := List.getElem?_eq_some_iff.mp hj
      obtain ⟨_, e⟩ := this
      rw [List.getElem_range] at e
      exact e.symm
    have D3 := D2.same h2
    obtain ⟨d5, f5, e5, l5⟩ := D3.meth
    refine rd_true (iteT ?_)
    rw [Int.zero_add]
    walk_at "rdx"
    refine ⟨x, c_Moon, dx, _, _, rfl, h2 _ _ hx2, er.cl_Moon, er.na_Moon_days, rfl, ?_⟩
    walk_at "rdx"
    refine ⟨d, d5, f5, rfl, e5, l5.2.1, ?_⟩
    walk_at "rdx"
    refine ⟨d, _, _, td, rfl, D3, (bu.add ((show Bt 64 (j : Int) from bt_small (by omega) (by omega) (by decide)).mono (show 64 ≤ 386 by decide))).mono (show 387 ≤ 400 by decide), fun H4 s4 => ?_⟩
    refine ⟨s4 _ _ h1, upd_same, same_app hE (h2.trans s4), ?_⟩
    rw [h3, List.range_succ, List.map_append, List.map_append]
    rfl
  · rw [List.length_map, List.length_range] at h3
    subst h3
    exact q E H3 ((s1.trans s2).free hE) ((s1.trans s2).trans h2) h1
theorem sc_Moon_cycle : FnScope ["self", "years", "months", "times"] ["self"] (defScope s_Moon_cycle) := ⟨rfl, rfl, rfl, by decide +kernel, rfl, by decide +kernel, by decide +kernel⟩
theorem ok_Moon_cycle {f : Addr} {fd : FuncData} (F : Fun K "cycle" "Moon.cycle" s_Moon_cycle f fd) (er : Errs K mg c_FeastError c_NoNumber c_TooLong c_NoMeasure c_NoDate c_Measure c_Calendar c_Sun c_Moon) (c_Measure_period : CalM P w K mg base CX0 1 c_Measure "period" ["self"] (spPer K c_Measure)) (c_Measure_upto : CalM P w K mg base CX0 2 c_Measure "upto" ["self", "k"] (spUpto K c_Measure)) (c_divisor : Cal P w K mg base 2 "divisor" ["one", "other"] spDivisor) : FnOk P w K mg base CX0 3 f fd ["self"] (spMCyc K c_Moon c_Measure) := by
  refine F.ok (k := 2) sc_Moon_cycle (fun vs H Q E h => ?_) (fun cdv A outer s H vs Q E hr h => ?_)
  · obtain ⟨x, s, bd, bm, td, tm, rfl, _⟩ := h
    rfl
  obtain ⟨x, s, bd, bm, td, tm, rfl, S, q⟩ := h
  obtain ⟨dx, d, m, hx, D, M⟩ := S.ex
  obtain ⟨d1, f1, e1, l1⟩ := D.meth
  obtain ⟨d2, f2, e2, l2⟩ := M.meth
  obtain ⟨d4, p4, e4, T4⟩ := M.ex
  have g := S.gd
  obtain ⟨Pm0, Pm1, Pmd⟩ := per_pos g.okm g.fwm
  obtain ⟨Pd0, Pd1, Pdd⟩ := per_pos g.okd g.fwd
  have M0 := UP_pos (base := bm) g.okm g.fm Pm0
  have MA := UP_abs (b := bm) g.okm M.gd.b0 M.gd.b1 g.fwm (k := PER tm) (K := PER tm) (by omega) (by omega)
  refine ⟨_, (pss_cons (ps_set (i := 1) sc_Moon_cycle.nd rfl (by first | exact Or.inl rfl | exact Or.inr rfl) (pe_mcal0 c_Measure_period er.cl_Measure (hr.mono (by decide)) (pe_fld (pv 0) (by rfl))))
      (pss_cons (ps_set (i := 2) sc_Moon_cycle.nd rfl (by first | exact Or.inl rfl | exact Or.inr rfl) (pe_mcal c_Measure_upto er.cl_Measure (hr.mono (by decide)) (pe_fld (pv 0) (by rfl)) (pa_cons (pv 1) pa_nil)))
      (pss_cons (ps_set (i := 3) sc_Moon_cycle.nd rfl (by first | exact Or.inl rfl | exact Or.inr rfl) (pe_op op_fdivB (pe_mcal0 c_Measure_period er.cl_Measure (hr.mono (by decide)) (pe_fld (pv 0) (by rfl))) (pe_cal c_divisor (hr.mono (by decide)) rfl (pa_cons (pe_mcal0 c_Measure_period er.cl_Measure (hr.mono (by decide)) (pe_fld (pv 0) (by rfl))) (pa_cons (pv 2) pa_nil)))))
      (pss_one (ps_ret (pe_tup (pa_cons (pe_op op_mulB (pv 1) (pv 3)) (pa_cons (pe_mcal c_Measure_upto er.cl_Measure (hr.mono (by decide)) (pe_fld (pv 0) (by rfl)) (pa_cons (pe_op op_mulB (pv 2) (pv 3)) pa_nil)) pa_nil)))))))), ?_⟩
  walk_at "rdx"
  refine ⟨x, c_Moon, dx, _, _, rfl, hx, er.cl_Moon, er.na_Moon_many, rfl, ?_⟩
  walk_at "rdx"
  refine ⟨m, d2, f2, rfl, e2, l2.2.2.2, ?_⟩
  walk_at "rdx"
  refine ⟨m, _, tm, rfl, M, ?_⟩
  walk_at "rdx"
  refine ⟨x, c_Moon, dx, _, _, rfl, hx, er.cl_Moon, er.na_Moon_many, rfl, ?_⟩
  walk_at "rdx"
  refine ⟨m, d2, f2, rfl, e2, l2.2.2.1, ?_⟩
  walk_at "rdx"
  refine ⟨m, p4, d4, _, _, tm, _, rfl, e4, rfl, rfl, T4, M.gd.b0, M.gd.b1, bt_small (by omega) (by omega) (by decide), fun H1 s1 => ?_⟩
  have hx1 := s1 _ _ hx
  have D1 := D.same s1
  obtain ⟨d5, f5, e5, l5⟩ := D1.meth
  have eT : moT td bm tm = PER td / (Int.gcd (PER td) (UP bm tm (PER tm)) : Int) := rfl
  generalize hM : UP bm tm (PER tm) = MM at *
  walk_at "rdx"
  refine ⟨x, c_Moon, dx, _, _, rfl, hx1, er.cl_Moon, er.na_Moon_days, rfl, ?_⟩
  walk_at "rdx"
  refine ⟨d, d5, f5, rfl, e5, l5.2.2.2, ?_⟩
  walk_at "rdx"
  refine ⟨d, _, td, rfl, D1, ?_⟩
  walk_at "rdx"
  refine ⟨x, c_Moon, dx, _, _, rfl, hx1, er.cl_Moon, er.na_Moon_days, rfl, ?_⟩
  walk_at "rdx"
  refine ⟨d, d5, f5, rfl, e5, l5.2.2.2, ?_⟩
  walk_at "rdx"
  refine ⟨d, _, td, rfl, D1, ?_⟩
  walk_at "rdx"
  refine ⟨_, _, rfl, bt_small (by omega) (by omega) (by decide), (bt_of (by omega) (by omega)).mono (by decide), fun H2 s2 => ?_⟩
  have g0 := gcd_pos (b := MM) Pd0
  have g1 := gcd_le (b := MM) Pd0
  walk_at "rdx"
  refine rd_i (cdiv_small g0 (by omega)) ?_
  rw [← eT]
  have t0 : 0 ≤ moT td bm tm := by rw [eT]; exact Int.ediv_nonneg (by omega) (by omega)
  have t1 : moT td bm tm ≤ PER td := by rw [eT]; exact Int.ediv_le_self _ (by omega)
  generalize moT td bm tm = T at *
  have D2 := D1.same s2
  have hx2 := s2 _ _ hx1
  obtain ⟨d6, f6, e6, l6⟩ := D2.meth
  obtain ⟨d7, p7, e7, T7⟩ := D2.ex
  have bM : Bt 200 MM := bt_of (by omega) (by omega)
  have bT : Bt 64 T := bt_small (by omega) (by omega) (by decide)
  walk_at "rdx"
  refine rd_i ⟨64, 64, bt_small (by omega) (by omega) (by decide), bT, by decide⟩ ?_
  walk_at "rdx"
  refine ⟨x, c_Moon, dx, _, _, rfl, hx2, er.cl_Moon, er.na_Moon_days, rfl, ?_⟩
  walk_at "rdx"
  refine ⟨d, d6, f6, rfl, e6, l6.2.2.1, ?_⟩
  walk_at "rdx"
  refine rd_i ⟨200, 64, bM, bT, by decide⟩ ?_
  refine ⟨d, p7, d7, _, _, td, _, rfl, e7, rfl, rfl, T7, D.gd.b0, D.gd.b1, (bM.mul bT).mono (by decide), fun H3 s3 => ?_⟩
  walk_at "rdx"
  refine ⟨two, fun c hc => ?_⟩
  exact q _ _ ((s1.trans s2).trans (s3.trans (same_new hc _))) upd_same
theorem sc_Sun_date_of : FnScope ["self", "day", "year", "rest", "month", "length"] ["self", "day"] (defScope s_Sun_date_of) := ⟨rfl, rfl, rfl, by decide +kernel, rfl, by decide +kernel, by decide +kernel⟩
theorem ok_Sun_date_of {f : Addr} {fd : FuncData} (F : Fun K "date_of" "Calendar.date_of" s_Sun_date_of f fd) (er : Errs K mg c_FeastError c_NoNumber c_TooLong c_NoMeasure c_NoDate c_Measure c_Calendar c_Sun c_Moon) (c_Sun_year_at : CalM P w K mg base CX0 4 c_Sun "year_at" ["self", "day"] (spYA K c_Sun c_Measure)) (c_Sun_year_start : CalM P w K mg base CX0 3 c_Sun "year_start" ["self", "year"] (spYS K c_Sun c_Measure)) (c_Sun_lengths : CalM P w K mg base CX0 3 c_Sun "lengths" ["self", "year"] (spLens K c_Sun c_Measure)) : FnOk P w K mg base CX0 5 f fd ["self", "day"] (spDate K c_Sun c_Moon c_Measure true) := by
  refine F.ok (k := 4) sc_Sun_date_of (fun vs H Q E h => ?_) (fun cdv A outer s H vs Q E hr h => ?_)
  · obtain ⟨x, n, d, rfl, _⟩ := h
    rfl
  obtain ⟨x, n, d, rfl, hb, S, bn, q⟩ := h
  obtain ⟨s, ls, lp, ts, rfl⟩ : ∃ s ls lp ts, d = .sun s ls lp ts := by
    cases d with
    | sun s ls lp ts => first | exact ⟨s, ls, lp, ts, rfl⟩ | cases hb
    | moon s bd td bm tm => first | exact (Bool.noConfusion hb) | cases hb
  have g := CalO.good S
  refine ⟨_, (pss_cons (ps_set (i := 2) sc_Sun_date_of.nd rfl (by first | exact Or.inl rfl | exact Or.inr rfl) (pe_mcal c_Sun_year_at er.cl_Sun (hr.mono (by decide)) (pv 0) (pa_cons (pv 1) pa_nil)))
      (pss_cons (ps_set (i := 3) sc_Sun_date_of.nd rfl (by first | exact Or.inl rfl | exact Or.inr rfl) (pe_op op_sub (pv 1) (pe_mcal c_Sun_year_start er.cl_Sun (hr.mono (by decide)) (pv 0) (pa_cons (pv 2) pa_nil))))
      (pss_cons (ps_set (i := 4) sc_Sun_date_of.nd rfl (by first | exact Or.inl rfl | exact Or.inr rfl) pe_int)
      (pss_cons (ps_for PassesOwn.never rfl (pi_list (pe_mcal c_Sun_lengths er.cl_Sun (hr.mono (by decide)) (pv 0) (pa_cons (pv 2) pa_nil))) (pg_name (i := 5) sc_Sun_date_of.nd rfl (by first | exact Or.inl rfl | exact Or.inr rfl))
        (pss_cons (ps_if (pt_cmpR op_lt (pv 3) (pv 5) (nomark _))
        (pss_one ps_break)
        pss_nil)
      (pss_cons (ps_set (i := 3) sc_Sun_date_of.nd rfl (by first | exact Or.inl rfl | exact Or.inr rfl) (pe_op op_sub (pv 3) (pv 5)))
      (pss_one (ps_set (i := 4) sc_Sun_date_of.nd rfl (by first | exact Or.inl rfl | exact Or.inr rfl) (pe_op op_add (pv 4) pe_int))))))
      (pss_one (ps_ret (pe_tup (pa_cons (pv 2) (pa_cons (pv 4) (pa_cons (pe_op op_add (pv 3) pe_int) pa_nil)))))))))), ?_⟩
  walk_at "rdx"
  obtain ⟨dx, fs, e, ml⟩ := SunO.meth S
  refine ⟨x, dx, fs, rfl, e, ml.2.1, ?_⟩
  walk_at "rdx"
  refine ⟨x, n, s, ls, lp, ts, rfl, S, bn, fun y H1 s1 y0 y1 by' => ?_⟩
  have S1 := CalO.same S s1
  walk_at "rdx"
  obtain ⟨dx1, fs1, e1, ml1⟩ := SunO.meth S1
  refine ⟨x, dx1, fs1, rfl, e1, ml1.1, ?_⟩
  walk_at "rdx"
  refine ⟨x, y, s, ls, lp, ts, rfl, S1, by'.mono (by decide), fun H2 s2 => ?_⟩
  have S2 := CalO.same S1 s2
  walk_at "rdx"
  walk_at "rdf"
  walk_at "rdx"
  obtain ⟨dx2, fs2, e2, ml2⟩ := SunO.meth S2
  refine ⟨x, dx2, fs2, rfl, e2, ml2.2.2.1, ?_⟩
  walk_at "rdx"
  refine ⟨x, y, s, ls, lp, ts, rfl, S2, by'.mono (by decide), fun l H3 hl s3 t3 => ?_⟩
  have st := CalD.step g y
  have nn := CalD.mem g y
  have ln := CalD.len g y
  generalize hD : CalD.sun s ls lp ts = d at *
  replace y0 : d.Y y ≤ n := by rw [← hD]; exact y0
  replace y1 : n < d.Y (y + 1) := by rw [← hD]; exact y1
  replace t3 : H3 l = some (.lst ((d.L y).map V.int)) := by rw [← hD]; exact t3
  have eY : s + UP ls.sum ts y = d.Y y := by rw [← hD]; rfl
  rw [eY]
  refine ⟨l, rfl, ⟨_, SqL.of t3⟩, for_list (xs := (d.L y).map V.int) (fun i σ' H' => H3 = H' ∧ i ≤ (d.L y).length ∧ PS (d.L y) i ≤ n - d.Y y ∧ ∃ c : Option V, σ' = [some (.ref x), some (.int n), some (.int y), some (.int (n - d.Y y - PS (d.L y) i)), some (.int ((i : Int) + 1)), c]) ⟨rfl, Nat.zero_le _, by rw [PS_zero]; omega, none, ?_⟩ ?_ ?_ ?_⟩
  · rw [PS_zero, Int.sub_zero]
    rfl
  · rintro i σ' H' _ ⟨rfl, _⟩
    exact SqL.of t3
  · rintro i v σ' H' hv ⟨rfl, hi, hp, c, rfl⟩
    rw [List.getElem?_map] at hv
    obtain ⟨z, hz, rfl⟩ := Option.map_eq_some_iff.mp hv
    have il : i < (d.L y).length := (List.getElem?_eq_some_iff.mp hz).1
    have ez : (d.L y).getD i 0 = z := by
      rw [List.getD_eq_getElem?_getD, hz]
      rfl
    have ps := PS_succ il
    rw [ez] at ps
    walk_at "rdx"
    refine ite2d (fun c1 => ?_) (fun c1 => ?_)
    · walk_at "rdx"
      refine rd_brk ?_
      walk_at "rdx"
      refine ⟨three, fun p hp' => ?_⟩
      refine q p y ((i : Int) + 1) _ _ ((s1.trans s2).trans (s3.trans (same_new hp' _))) upd_same ⟨by omega, by omega, by omega, ?_⟩ ?_ by'
      · rw [show ((i : Int) + 1 - 1).toNat = i by omega, ez]
        omega
      · unfold DayOf
        rw [show ((i : Int) + 1 - 1).toNat = i by omega]
        omega
    · walk_at "rdx"
      refine ⟨rfl, by omega, by omega, some (.int z), ?_⟩
      rw [ps, show n - d.Y y - (PS (d.L y) i + z) = n - d.Y y - PS (d.L y) i - z by omega, show ((i + 1 : Nat) : Int) + 1 = (i : Int) + 1 + 1 by omega]
      rfl
  · rintro σ' H' ⟨rfl, _, hp, c, rfl⟩
    rw [List.length_map, PS_len] at hp
    omega
theorem sc_Moon_date_of : FnScope ["self", "day", "year", "rest", "month", "length"] ["self", "day"] (defScope s_Moon_date_of) := ⟨rfl, rfl, rfl, by decide +kernel, rfl, by decide +kernel, by decide +kernel⟩
theorem ok_Moon_date_of {f : Addr} {fd : FuncData} (F : Fun K "date_of" "Calendar.date_of" s_Moon_date_of f fd) (er : Errs K mg c_FeastError c_NoNumber c_TooLong c_NoMeasure c_NoDate c_Measure c_Calendar c_Sun c_Moon) (c_Moon_year_at : CalM P w K mg base CX0 4 c_Moon "year_at" ["self", "day"] (spMYA K c_Moon c_Measure)) (c_Moon_year_start : CalM P w K mg base CX0 3 c_Moon "year_start" ["self", "year"] (spMYS K c_Moon c_Measure)) (c_Moon_lengths : CalM P w K mg base CX0 3 c_Moon "lengths" ["self", "year"] (spMLens K c_Moon c_Measure)) : FnOk P w K mg base CX0 5 f fd ["self", "day"] (spDate K c_Sun c_Moon c_Measure false) := by
  refine F.ok (k := 4) sc_Moon_date_of (fun vs H Q E h => ?_) (fun cdv A outer s H vs Q E hr h => ?_)
  · obtain ⟨x, n, d, rfl, _⟩ := h
    rfl
  obtain ⟨x, n, d, rfl, hb, S, bn, q⟩ := h
  obtain ⟨s, bd, td, bm, tm, rfl⟩ : ∃ s bd td bm tm, d = .moon s bd td bm tm := by
    cases d with
    | sun s ls lp ts => first | exact (Bool.noConfusion hb) | cases hb
    | moon s bd td bm tm => first | exact ⟨s, bd, td, bm, tm, rfl⟩ | cases hb
  have g := CalO.good S
  refine ⟨_, (pss_cons (ps_set (i := 2) sc_Moon_date_of.nd rfl (by first | exact Or.inl rfl | exact Or.inr rfl) (pe_mcal c_Moon_year_at er.cl_Moon (hr.mono (by decide)) (pv 0) (pa_cons (pv 1) pa_nil)))
      (pss_cons (ps_set (i := 3) sc_Moon_date_of.nd rfl (by first | exact Or.inl rfl | exact Or.inr rfl) (pe_op op_sub (pv 1) (pe_mcal c_Moon_year_start er.cl_Moon (hr.mono (by decide)) (pv 0) (pa_cons (pv 2) pa_nil))))
      (pss_cons (ps_set (i := 4) sc_Moon_date_of.nd rfl (by first | exact Or.inl rfl | exact Or.inr rfl) pe_int)
      (pss_cons (ps_for PassesOwn.never rfl (pi_list (pe_mcal c_Moon_lengths er.cl_Moon (hr.mono (by decide)) (pv 0) (pa_cons (pv 2) pa_nil))) (pg_name (i := 5) sc_Moon_date_of.nd rfl (by first | exact Or.inl rfl | exact Or.inr rfl))
        (pss_cons (ps_if (pt_cmpR op_lt (pv 3) (pv 5) (nomark _))
        (pss_one ps_break)
        pss_nil)
      (pss_cons (ps_set (i := 3) sc_Moon_date_of.nd rfl (by first | exact Or.inl rfl | exact Or.inr rfl) (pe_op op_sub (pv 3) (pv 5)))
      (pss_one (ps_set (i := 4) sc_Moon_date_of.nd rfl (by first | exact Or.inl rfl | exact Or.inr rfl) (pe_op op_add (pv 4) pe_int))))))
      (pss_one (ps_ret (pe_tup (pa_cons (pv 2) (pa_cons (pv 4) (pa_cons (pe_op op_add (pv 3) pe_int) pa_nil)))))))))), ?_⟩
  walk_at "rdx"
  obtain ⟨dx, fs, e, ml⟩ := MoonO.meth S
  refine ⟨x, dx, fs, rfl, e, ml.2.1, ?_⟩
  walk_at "rdx"
  refine ⟨x, n, s, bd, bm, td, tm, rfl, S, bn, fun y H1 s1 y0 y1 by' => ?_⟩
  have S1 := CalO.same S s1
  walk_at "rdx"
  obtain ⟨dx1, fs1, e1, ml1⟩ := MoonO.meth S1
  refine ⟨x, dx1, fs1, rfl, e1, ml1.1, ?_⟩
  walk_at "rdx"
  refine ⟨x, y, s, bd, bm, td, tm, rfl, S1, by'.mono (by decide), fun H2 s2 => ?_⟩
  have S2 := CalO.same S1 s2
  walk_at "rdx"
  walk_at "rdf"
  walk_at "rdx"
  obtain ⟨dx2, fs2, e2, ml2⟩ := MoonO.meth S2
  refine ⟨x, dx2, fs2, rfl, e2, ml2.2.2.1, ?_⟩
  walk_at "rdx"
  refine ⟨x, y, s, bd, bm, td, tm, rfl, S2, by'.mono (by decide), fun l H3 hl s3 t3 => ?_⟩
  have st := CalD.step g y
  have nn := CalD.mem g y
  have ln := CalD.len g y
  generalize hD : CalD.moon s bd td bm tm = d at *
  replace y0 : d.Y y ≤ n := by rw [← hD]; exact y0
  replace y1 : n < d.Y (y + 1) := by rw [← hD]; exact y1
  replace t3 : H3 l = some (.lst ((d.L y).map V.int)) := by rw [← hD]; exact t3
  have eY : MYS s bd td bm tm y = d.Y y := by rw [← hD]; rfl
  rw [eY]
  refine ⟨l, rfl, ⟨_, SqL.of t3⟩, for_list (xs := (d.L y).map V.int) (fun i σ' H' => H3 = H' ∧ i ≤ (d.L y).length ∧ PS (d.L y) i ≤ n - d.Y y ∧ ∃ c : Option V, σ' = [some (.ref x), some (.int n), some (.int y), some (.int (n - d.Y y - PS (d.L y) i)), some (.int ((i : Int) + 1)), c]) ⟨rfl, Nat.zero_le _, by rw [PS_zero]; omega, none, ?_⟩ ?_ ?_ ?_⟩
  · rw [PS_zero, Int.sub_zero]
    rfl
  · rintro i σ' H' _ ⟨rfl, _⟩
    exact SqL.of t3
  · rintro i v σ' H' hv ⟨rfl, hi, hp, c, rfl⟩
    rw [List.getElem?_map] at hv
    obtain ⟨z, hz, rfl⟩ := Option.map_eq_some_iff.mp hv
    have il : i < (d.L y).length := (List.getElem?_eq_some_iff.mp hz).1
    have ez : (d.L y).getD i 0 = z := by
      rw [List.getD_eq_getElem?_getD, hz]
      rfl
    have ps := PS_succ il
    rw [ez] at ps
    walk_at "rdx"
    refine ite2d (fun c1 => ?_) (fun c1 => ?_)
    · walk_at "rdx"
      refine rd_brk ?_
      walk_at "rdx"
      refine ⟨three, fun p hp' => ?_⟩
      refine q p y ((i : Int) + 1) _ _ ((s1.trans s2).trans (s3.trans (same_new hp' _))) upd_same ⟨by omega, by omega, by omega, ?_⟩ ?_ by'
      · rw [show ((i : Int) + 1 - 1).toNat = i by omega, ez]
        omega
      · unfold DayOf
        rw [show ((i : Int) + 1 - 1).toNat = i by omega]
        omega
    · walk_at "rdx"
      refine ⟨rfl, by omega, by omega, some (.int z), ?_⟩
      rw [ps, show n - d.Y y - (PS (d.L y) i + z) = n - d.Y y - PS (d.L y) i - z by omega, show ((i + 1 : Nat) : Int) + 1 = (i : Int) + 1 + 1 by omega]
      rfl
  · rintro σ' H' ⟨rfl, _, hp, c, rfl⟩
    rw [List.length_map, PS_len] at hp
    omega
theorem sc_Sun_day_of : FnScope ["self", "date", "lengths"] ["self", "date"] (defScope s_Sun_day_of) := ⟨rfl, rfl, rfl, by decide +kernel, rfl, by decide +kernel, by decide +kernel⟩
theorem ok_Sun_day_of {f : Addr} {fd : FuncData} (F : Fun K "day_of" "Calendar.day_of" s_Sun_day_of f fd) (er : Errs K mg c_FeastError c_NoNumber c_TooLong c_NoMeasure c_NoDate c_Measure c_Calendar c_Sun c_Moon) (c_Sun_lengths : CalM P w K mg base CX0 3 c_Sun "lengths" ["self", "year"] (spLens K c_Sun c_Measure)) (c_NoDate___init__ : CalX P w K mg base 1 "NoDate" c_NoDate c_FeastError ["self", "date"] (spInitD K c_NoDate "date")) (c_Sun_year_start : CalM P w K mg base CX0 3 c_Sun "year_start" ["self", "year"] (spYS K c_Sun c_Measure)) (z_len : mg "len" = none) (z_sum : mg "sum" = none) : FnOk P w K mg base (CX1 P w) 4 f fd ["self", "date"] (spDayE K c_Sun c_Moon c_Measure c_NoDate true) := by
  refine F.okE (k := 3) sc_Sun_day_of (fun vs H Q E h => ?_) (fun cdv A outer s H vs Q E hr h T => ?_)
  · obtain ⟨x, p, y, m, r, d, rfl, _⟩ := h
    rfl
  obtain ⟨x, p, y, m, r, d, rfl, hb, S, hp, by', bm', br', q, qe⟩ := h
  obtain ⟨s, ls, lp, ts, rfl⟩ : ∃ s ls lp ts, d = .sun s ls lp ts := by
    cases d with
    | sun s ls lp ts => first | exact ⟨s, ls, lp, ts, rfl⟩ | cases hb
    | moon s bd td bm tm => first | exact (Bool.noConfusion hb) | cases hb
  have g := CalO.good S
  have ln := CalD.len g y
  refine ⟨_, (pss_cons (ps_set (i := 2) sc_Sun_day_of.nd rfl (by first | exact Or.inl rfl | exact Or.inr rfl) (pe_mcal c_Sun_lengths er.cl_Sun (hr.mono (by decide)) (pv 0) (pa_cons (pe_ix ix_tup (pv 1) pe_int (fun _ _ => rfl)) pa_nil)))
      (pss_cons (ps_if (PW.pt (pw_or (pt_cmpR op_lt (pe_ix ix_tup (pv 1) pe_int (fun _ _ => rfl)) pe_int (nomark _)) (pw_or1 (pt_cmpR op_gt (pe_ix ix_tup (pv 1) pe_int (fun _ _ => rfl)) (pe_callB call_len_seq rfl z_len PySem.boot_len (pa_cons (pv 2) pa_nil)) (nomark _)))))
        (pss_one (ps_raiseC T rfl c_NoDate___init__ (hr.mono (by decide)) rfl (pa_cons (pv 1) pa_nil)))
        pss_nil)
      (pss_cons (ps_if (PW.pt (pw_or (pt_cmpR op_lt (pe_ix ix_tup (pv 1) pe_int (fun _ _ => rfl)) pe_int (nomark _)) (pw_or1 (pt_cmpR op_gt (pe_ix ix_tup (pv 1) pe_int (fun _ _ => rfl)) (pe_ix ix_list (pv 2) (pe_op op_sub (pe_ix ix_tup (pv 1) pe_int (fun _ _ => rfl)) pe_int) (fun _ _ => rfl)) (nomark _)))))
        (pss_one (ps_raiseC T rfl c_NoDate___init__ (hr.mono (by decide)) rfl (pa_cons (pv 1) pa_nil)))
        pss_nil)
      (pss_one (ps_ret (pe_op op_sub (pe_op op_add (pe_op op_add (pe_mcal c_Sun_year_start er.cl_Sun (hr.mono (by decide)) (pv 0) (pa_cons (pe_ix ix_tup (pv 1) pe_int (fun _ _ => rfl)) pa_nil)) (pe_callB (call_sum rfl) rfl z_sum PyProof.Rows.boot_sum (pa_cons (pe_slice sl_list (pv 2) po_none (po_some (pe_op op_sub (pe_ix ix_tup (pv 1) pe_int (fun _ _ => rfl)) pe_int))) pa_nil))) (pe_ix ix_tup (pv 1) pe_int (fun _ _ => rfl))) pe_int)))))), ?_⟩
  walk_at "rdx"
  obtain ⟨dx, fs, e, ml⟩ := SunO.meth S
  refine ⟨x, dx, fs, rfl, e, ml.2.2.1, ?_⟩
  walk_at "rdx"
  refine rd_ixT hp rfl ?_
  walk_at "rdx"
  refine ⟨x, y, s, ls, lp, ts, rfl, S, by'.mono (by decide), fun l H1 hl s1 t1 => ?_⟩
  have S1 := CalO.same S s1
  have hp1 := s1.tup hp
  replace t1 : H1 l = some (.lst (((CalD.sun s ls lp ts).L y).map V.int)) := t1
  have isd : IsD (CalD.sun s ls lp ts) y m r ↔ 1 ≤ m ∧ m ≤ (((CalD.sun s ls lp ts).L y).length : Int) ∧ 1 ≤ r ∧ r ≤ ((CalD.sun s ls lp ts).L y).getD (m - 1).toNat 0 := ⟨fun h => ⟨h.m0, h.m1, h.r0, h.r1⟩, fun h => ⟨h.1, h.2.1, h.2.2.1, h.2.2.2⟩⟩
  generalize hLY : (CalD.sun s ls lp ts).L y = LY at *
  have raise : ∀ {EE : XE} {ta : TA} {D : Ends} {σ : L2.St}, (∀ Q : List V → Hp → Prop, Q [.ref p] H1 → ta σ H1 Q) → ¬ IsD (CalD.sun s ls lp ts) y m r → (∀ d H', E (.ref c_NoDate) (some d) H' → EE (.ref c_NoDate) (some d) σ H') → tRaiseX c_NoDate (spInitD K c_NoDate "date") EE ta D σ H1 := fun hv hn hE => rd_raiseD hv hp1 (bt_log by' (by decide) (by decide)) (bt_log bm' (by decide) (by decide)) (bt_log br' (by decide) (by decide)) fun d H' s e => hE d H' (qe hn d H' (s1.trans s) e)
  walk_at "rdx"
  refine rd_ixT hp1 rfl ?_
  walk_at "rdx"
  by_cases c1 : m < 1
  · refine iteD c1 (iteT ?_)
    walk_at "rdx"
    exact raise (fun Q hQ => rd_cons (rd_var rfl (rd_nil hQ))) (fun z => by have := isd.mp z; omega) fun _ _ h => h
  refine iteN c1 ?_
  walk_at "rdx"
  refine rd_ixT hp1 rfl ?_
  walk_at "rdx"
  refine ⟨l, _, rfl, .inl (SqL.of t1), ?_⟩
  rw [List.length_map]
  walk_at "rdx"
  by_cases c2 : (LY.length : Int) < m
  · refine iteD c2 ?_
    walk_at "rdx"
    exact raise (fun Q hQ => rd_cons (rd_var rfl (rd_nil hQ))) (fun z => by have := isd.mp z; omega) fun _ _ h => h
  refine iteN c2 ?_
  walk_at "rdx"
  refine rd_ixT hp1 rfl ?_
  walk_at "rdx"
  by_cases c3 : r < 1
  · refine iteD c3 (iteT ?_)
    walk_at "rdx"
    exact raise (fun Q hQ => rd_cons (rd_var rfl (rd_nil hQ))) (fun z => by have := isd.mp z; omega) fun _ _ h => h
  refine iteN c3 ?_
  walk_at "rdx"
  refine rd_ixT hp1 rfl ?_
  walk_at "rdx"
  refine rd_ixT hp1 rfl ?_
  walk_at "rdx"
  have em : m - 1 = (((m - 1).toNat : Nat) : Int) := by omega
  have hat : atI (LY.map V.int) (m - 1) = some (V.int (LY.getD (m - 1).toNat 0)) := by
    conv => lhs; rw [em]
    refine atI_nat ?_
    rw [List.getElem?_map, List.getD_eq_getElem?_getD, List.getElem?_eq_getElem (by omega)]
    rfl
  refine rd_ixL (SqL.of t1) hat ?_
  walk_at "rdx"
  by_cases c4 : LY.getD (m - 1).toNat 0 < r
  · refine iteD c4 ?_
    walk_at "rdx"
    exact raise (fun Q hQ => rd_cons (rd_var rfl (rd_nil hQ))) (fun z => by have := isd.mp z; omega) fun _ _ h => h
  refine iteN c4 ?_
  have hd : IsD (CalD.sun s ls lp ts) y m r := isd.mpr ⟨by omega, by omega, by omega, by omega⟩
  walk_at "rdx"
  obtain ⟨dx1, fs1, e1, ml1⟩ := SunO.meth S1
  refine ⟨x, dx1, fs1, rfl, e1, ml1.1, ?_⟩
  walk_at "rdx"
  refine rd_ixT hp1 rfl ?_
  walk_at "rdx"
  refine ⟨x, y, s, ls, lp, ts, rfl, S1, by'.mono (by decide), fun H2 s2 => ?_⟩
  have hp2 := s2.tup hp1
  walk_at "rdx"
  refine rd_ixT hp2 rfl ?_
  walk_at "rdx"
  rw [em]
  refine rd_slL (SqL.of (s2 _ _ t1)) fun e he => ?_
  rw [cutV_upto LY (by omega)]
  have s3 := same_new he (.lst ((LY.take (m - 1).toNat).map V.int))
  have t3 : upd H2 e (.lst ((LY.take (m - 1).toNat).map V.int)) e = some (.lst ((LY.take (m - 1).toNat).map V.int)) := upd_same
  generalize upd H2 e (.lst ((LY.take (m - 1).toNat).map V.int)) = H3 at s3 t3 ⊢
  walk_at "rdx"
  refine ⟨e, _, rfl, SqL.of t3, ?_⟩
  walk_at "rdx"
  refine rd_ixT (s3.tup hp2) rfl ?_
  walk_at "rdx"
  have := q hd H3 ((s1.trans s2).trans s3)
  unfold DayOf at this
  rw [hLY] at this
  exact this
theorem sc_Moon_day_of : FnScope ["self", "date", "lengths"] ["self", "date"] (defScope s_Moon_day_of) := ⟨rfl, rfl, rfl, by decide +kernel, rfl, by decide +kernel, by decide +kernel⟩
theorem ok_Moon_day_of {f : Addr} {fd : FuncData} (F : Fun K "day_of" "Calendar.day_of" s_Moon_day_of f fd) (er : Errs K mg c_FeastError c_NoNumber c_TooLong c_NoMeasure c_NoDate c_Measure c_Calendar c_Sun c_Moon) (c_Moon_lengths : CalM P w K mg base CX0 3 c_Moon "lengths" ["self", "year"] (spMLens K c_Moon c_Measure)) (c_NoDate___init__ : CalX P w K mg base 1 "NoDate" c_NoDate c_FeastError ["self", "date"] (spInitD K c_NoDate "date")) (c_Moon_year_start : CalM P w K mg base CX0 3 c_Moon "year_start" ["self", "year"] (spMYS K c_Moon c_Measure)) (z_len : mg "len" = none) (z_sum : mg "sum" = none) : FnOk P w K mg base (CX1 P w) 4 f fd ["self", "date"] (spDayE K c_Sun c_Moon c_Measure c_NoDate false) := by
  refine F.okE (k := 3) sc_Moon_day_of (fun vs H Q E h => ?_) (fun cdv A outer s H vs Q E hr h T => ?_)
  · obtain ⟨x, p, y, m, r, d, rfl, _⟩ := h
    rfl
  obtain ⟨x, p, y, m, r, d, rfl, hb, S, hp, by', bm', br', q, qe⟩ := h
  obtain ⟨s, bd, td, bm, tm, rfl⟩ : ∃ s bd td bm tm, d = .moon s bd td bm tm := by
    cases d with
    | sun s ls lp ts => first | exact (Bool.noConfusion hb) | cases hb
    | moon s bd td bm tm => first | exact ⟨s, bd, td, bm, tm, rfl⟩ | cases hb
  have g := CalO.good S
  have ln := CalD.len g y
  refine ⟨_, (pss_cons (ps_set (i := 2) sc_Moon_day_of.nd rfl (by first | exact Or.inl rfl | exact Or.inr rfl) (pe_mcal c_Moon_lengths er.cl_Moon (hr.mono (by decide)) (pv 0) (pa_cons (pe_ix ix_tup (pv 1) pe_int (fun _ _ => rfl)) pa_nil)))
      (pss_cons (ps_if (PW.pt (pw_or (pt_cmpR op_lt (pe_ix ix_tup (pv 1) pe_int (fun _ _ => rfl)) pe_int (nomark _)) (pw_or1 (pt_cmpR op_gt (pe_ix ix_tup (pv 1) pe_int (fun _ _ => rfl)) (pe_callB call_len_seq rfl z_len PySem.boot_len (pa_cons (pv 2) pa_nil)) (nomark _)))))
        (pss_one (ps_raiseC T rfl c_NoDate___init__ (hr.mono (by decide)) rfl (pa_cons (pv 1) pa_nil)))
        pss_nil)
      (pss_cons (ps_if (PW.pt (pw_or (pt_cmpR op_lt (pe_ix ix_tup (pv 1) pe_int (fun _ _ => rfl)) pe_int (nomark _)) (pw_or1 (pt_cmpR op_gt (pe_ix ix_tup (pv 1) pe_int (fun _ _ => rfl)) (pe_ix ix_list (pv 2) (pe_op op_sub (pe_ix ix_tup (pv 1) pe_int (fun _ _ => rfl)) pe_int) (fun _ _ => rfl)) (nomark _)))))
        (pss_one (ps_raiseC T rfl c_NoDate___init__ (hr.mono (by decide)) rfl (pa_cons (pv 1) pa_nil)))
        pss_nil)
      (pss_one (ps_ret (pe_op op_sub (pe_op op_add (pe_op op_add (pe_mcal c_Moon_year_start er.cl_Moon (hr.mono (by decide)) (pv 0) (pa_cons (pe_ix ix_tup (pv 1) pe_int (fun _ _ => rfl)) pa_nil)) (pe_callB (call_sum rfl) rfl z_sum PyProof.Rows.boot_sum (pa_cons (pe_slice sl_list (pv 2) po_none (po_some (pe_op op_sub (pe_ix ix_tup (pv 1) pe_int (fun _ _ => rfl)) pe_int))) pa_nil))) (pe_ix ix_tup (pv 1) pe_int (fun _ _ => rfl))) pe_int)))))), ?_⟩
  walk_at "rdx"
  obtain ⟨dx, fs, e, ml⟩ := MoonO.meth S
  refine ⟨x, dx, fs, rfl, e, ml.2.2.1, ?_⟩
  walk_at "rdx"
  refine rd_ixT hp rfl ?_
  walk_at "rdx"
  refine ⟨x, y, s, bd, bm, td, tm, rfl, S, by'.mono (by decide), fun l H1 hl s1 t1 => ?_⟩
  have S1 := CalO.same S s1
  have hp1 := s1.tup hp
  replace t1 : H1 l = some (.lst (((CalD.moon s bd td bm tm).L y).map V.int)) := t1
  have isd : IsD (CalD.moon s bd td bm tm) y m r ↔ 1 ≤ m ∧ m ≤ (((CalD.moon s bd td bm tm).L y).length : Int) ∧ 1 ≤ r ∧ r ≤ ((CalD.moon s bd td bm tm).L y).getD (m - 1).toNat 0 := ⟨fun h => ⟨h.m0, h.m1, h.r0, h.r1⟩, fun h => ⟨h.1, h.2.1, h.2.2.1, h.2.2.2⟩⟩
  generalize hLY : (CalD.moon s bd td bm tm).L y = LY at *
  have raise : ∀ {EE : XE} {ta : TA} {D : Ends} {σ : L2.St}, (∀ Q : List V → Hp → Prop, Q [.ref p] H1 → ta σ H1 Q) → ¬ IsD (CalD.moon s bd td bm tm) y m r → (∀ d H', E (.ref c_NoDate) (some d) H' → EE (.ref c_NoDate) (some d) σ H') → tRaiseX c_NoDate (spInitD K c_NoDate "date") EE ta D σ H1 := fun hv hn hE => rd_raiseD hv hp1 (bt_log by' (by decide) (by decide)) (bt_log bm' (by decide) (by decide)) (bt_log br' (by decide) (by decide)) fun d H' s e => hE d H' (qe hn d H' (s1.trans s) e)
  walk_at "rdx"
  refine rd_ixT hp1 rfl ?_
  walk_at "rdx"
  by_cases c1 : m < 1
  · refine iteD c1 (iteT ?_)
    walk_at "rdx"
    exact raise (fun Q hQ => rd_cons (rd_var rfl (rd_nil hQ))) (fun z => by have := isd.mp z; omega) fun _ _ h => h
  refine iteN c1 ?_
  walk_at "rdx"
  refine rd_ixT hp1 rfl ?_
  walk_at "rdx"
  refine ⟨l, _, rfl, .inl (SqL.of t1), ?_⟩
  rw [List.length_map]
  walk_at "rdx"
  by_cases c2 : (LY.length : Int) < m
  · refine iteD c2 ?_
    walk_at "rdx"
    exact raise (fun Q hQ => rd_cons (rd_var rfl (rd_nil hQ))) (fun z => by have := isd.mp z; omega) fun _ _ h => h
  refine iteN c2 ?_
  walk_at "rdx"
  refine rd_ixT hp1 rfl ?_
  walk_at "rdx"
  by_cases c3 : r < 1
  · refine iteD c3 (iteT ?_)
    walk_at "rdx"
    exact raise (fun Q hQ => rd_cons (rd_var rfl (rd_nil hQ))) (fun z => by have := isd.mp z; omega) fun _ _ h => h
  refine iteN c3 ?_
  walk_at "rdx"
  refine rd_ixT hp1 rfl ?_
  walk_at "rdx"
  refine rd_ixT hp1 rfl ?_
  walk_at "rdx"
  have em : m - 1 = (((m - 1).toNat : Nat) : Int) := by omega
  have hat : atI (LY.map V.int) (m - 1) = some (V.int (LY.getD (m - 1).toNat 0)) := by
    conv => lhs; rw [em]
    refine atI_nat ?_
    rw [List.getElem?_map, List.getD_eq_getElem?_getD, List.getElem?_eq_getElem (by omega)]
    rfl
  refine rd_ixL (SqL.of t1) hat ?_
  walk_at "rdx"
  by_cases c4 : LY.getD (m - 1).toNat 0 < r
  · refine iteD c4 ?_
    walk_at "rdx"
    exact raise (fun Q hQ => rd_cons (rd_var rfl (rd_nil hQ))) (fun z => by have := isd.mp z; omega) fun _ _ h => h
  refine iteN c4 ?_
  have hd : IsD (CalD.moon s bd td bm tm) y m r := isd.mpr ⟨by omega, by omega, by omega, by omega⟩
  walk_at "rdx"
  obtain ⟨dx1, fs1, e1, ml1⟩ := MoonO.meth S1
  refine ⟨x, dx1, fs1, rfl, e1, ml1.1, ?_⟩
  walk_at "rdx"
  refine rd_ixT hp1 rfl ?_
  walk_at "rdx"
  refine ⟨x, y, s, bd, bm, td, tm, rfl, S1, by'.mono (by decide), fun H2 s2 => ?_⟩
  have hp2 := s2.tup hp1
  walk_at "rdx"
  refine rd_ixT hp2 rfl ?_
  walk_at "rdx"
  rw [em]
  refine rd_slL (SqL.of (s2 _ _ t1)) fun e he => ?_
  rw [cutV_upto LY (by omega)]
  have s3 := same_new he (.lst ((LY.take (m - 1).toNat).map V.int))
  have t3 : upd H2 e (.lst ((LY.take (m - 1).toNat).map V.int)) e = some (.lst ((LY.take (m - 1).toNat).map V.int)) := upd_same
  generalize upd H2 e (.lst ((LY.take (m - 1).toNat).map V.int)) = H3 at s3 t3 ⊢
  walk_at "rdx"
  refine ⟨e, _, rfl, SqL.of t3, ?_⟩
  walk_at "rdx"
  refine rd_ixT (s3.tup hp2) rfl ?_
  walk_at "rdx"
  have := q hd H3 ((s1.trans s2).trans s3)
  unfold DayOf at this
  rw [hLY] at this
  exact this
theorem sc_refuse_too_long : FnScope ["size"] ["size"] (defScope s_refuse_too_long) := ⟨rfl, rfl, rfl, by decide +kernel, rfl, by decide +kernel, by decide +kernel⟩
theorem ok_refuse_too_long {f : Addr} {fd : FuncData} (F : Fun K "refuse_too_long" "refuse_too_long" s_refuse_too_long f fd) (er : Errs K mg c_FeastError c_NoNumber c_TooLong c_NoMeasure c_NoDate c_Measure c_Calendar c_Sun c_Moon) (c_TooLong___init__ : CalX P w K mg base 1 "TooLong" c_TooLong c_FeastError ["self", "needed"] (spInit1 c_TooLong "needed" okNum)) {tk_LONGEST : Tok} (m_LONGEST : mg "LONGEST" = some (.int 150000 tk_LONGEST)) : FnOk P w K mg base (CX1 P w) 3 f fd ["size"] (spTooLongE c_TooLong) := by
  refine F.okE (k := 2) sc_refuse_too_long (fun vs H Q E h => ?_) (fun cdv A outer s H vs Q E hr h T => ?_)
  · obtain ⟨n, rfl, _⟩ := h
    rfl
  obtain ⟨n, rfl, hb, qs, qe⟩ := h
  refine ⟨_, (pss_one (ps_if (pt_cmpR op_gt (pv 0) (pe_glob rfl m_LONGEST (rel_int _ _)) (nomark _))
        (pss_one (ps_raiseC T rfl c_TooLong___init__ (hr.mono (by decide)) rfl (pa_cons (pv 0) pa_nil)))
        pss_nil)), ?_⟩
  walk_at "rdx"
  refine ite2d (fun c => ?_) (fun c => ?_)
  · walk_at "rdx"
    exact rd_raise1 (v := .int n) (fun Q hQ => rd_cons (rd_var rfl (rd_nil hQ))) ⟨n, rfl, bt_log hb (by decide) (by decide)⟩ (fun d H' s e => qe c d H' s e)
  · walk_at "rdx"
    exact qs (by omega)
theorem sc_round_by : FnScope ["size", "days", "pieces", "day", "bits", "number", "place"] ["size", "days"] (defScope s_round_by) := ⟨rfl, rfl, rfl, by decide +kernel, rfl, by decide +kernel, by decide +kernel⟩
theorem ok_round_by {f : Addr} {fd : FuncData} (F : Fun K "round_by" "round_by" s_round_by f fd) (c_refuse_below_one : CalE P w K mg base 1 "refuse_below_one" ["number"] (spRefuseE c_NoNumber)) (c_refuse_too_long : CalE P w K mg base 3 "refuse_too_long" ["size"] (spTooLongE c_TooLong)) (z_range : mg "range" = none) (z_len : mg "len" = none) {tk_PIECE : Tok} (m_PIECE : mg "PIECE" = some (.int 256 tk_PIECE)) : FnOk P w K mg base (CX1 P w) 4 f fd ["size", "days"] (spRoundByE K c_NoNumber c_TooLong) := by
  refine F.okE (k := 3) sc_round_by (fun vs H Q E h => ?_) (fun cdv A outer s H vs Q E hr h T => ?_)
  · obtain ⟨a, ds, n, rfl, _⟩ := h
    rfl
  obtain ⟨a, ds, n, rfl, hS, hb, qs, qn, ql⟩ := h
  refine ⟨_, (pss_cons (ps_expr (pe_calE T c_refuse_below_one (hr.mono (by decide)) rfl (pa_cons (pv 0) pa_nil)))
      (pss_cons (ps_expr (pe_calE T c_refuse_too_long (hr.mono (by decide)) rfl (pa_cons (pv 0) pa_nil)))
      (pss_cons (ps_set (i := 2) sc_round_by.nd rfl (by first | exact Or.inl rfl | exact Or.inr rfl) (pe_op op_rep (pe_lst (pa_cons pe_int pa_nil)) (pe_op op_add (pe_op op_fdivB (pv 0) (pe_glob rfl m_PIECE (rel_int _ _))) pe_int)))
      (pss_cons (ps_for (by first | exact PassesOwn.leaving | exact PassesOwn.looking | with_unfolding_all passes_own) rfl (pi_list (pv 1)) (pg_name (i := 3) sc_round_by.nd rfl (by first | exact Or.inl rfl | exact Or.inr rfl))
        (pss_cons (ps_set (i := 6) sc_round_by.nd rfl (by first | exact Or.inl rfl | exact Or.inr rfl) (pe_op op_mod (pv 3) (pv 0)))
      (pss_one (ps_asg (pe_op op_or (pe_ix ix_list (pv 2) (pe_op op_fdivB (pv 6) (pe_glob rfl m_PIECE (rel_int _ _))) (fun _ _ => rfl)) (pe_op op_shlB pe_int (pe_op op_mod (pv 6) (pe_glob rfl m_PIECE (rel_int _ _))))) (pg_sub (pv 2) (pe_op op_fdivB (pv 6) (pe_glob rfl m_PIECE (rel_int _ _))) set_list)))))
      (pss_cons (ps_set (i := 4) sc_round_by.nd rfl (by first | exact Or.inl rfl | exact Or.inr rfl) pe_int)
      (pss_cons (ps_for (by first | exact PassesOwn.leaving | exact PassesOwn.looking | with_unfolding_all passes_own) rfl (pi_range1 rfl z_range (pa_cons (pe_callB call_len_seq rfl z_len PySem.boot_len (pa_cons (pv 2) pa_nil)) pa_nil)) (pg_name (i := 5) sc_round_by.nd rfl (by first | exact Or.inl rfl | exact Or.inr rfl))
        (pss_one (ps_set (i := 4) sc_round_by.nd rfl (by first | exact Or.inl rfl | exact Or.inr rfl) (pe_op op_or (pv 4) (pe_op op_shlB (pe_ix ix_list (pv 2) (pv 5) (fun _ _ => rfl)) (pe_op op_mulB (pv 5) (pe_glob rfl m_PIECE (rel_int _ _))))))))
      (pss_one (ps_ret (pe_tup (pa_cons (pv 0) (pa_cons (pv 4) pa_nil))))))))))), ?_⟩
  walk_at "rdx"
  refine ⟨n, rfl, fun n0 => ?_, fun n0 => qn n0⟩
  walk_at "rdx"
  refine ⟨n, rfl, hb, fun n1 => ?_, fun n1 => ql n1⟩
  have fin := qs n0 n1
  walk_at "rdx"
  refine ⟨(by show 1 ≤ sizeLine; decide), fun l0 hl0 => ?_⟩
  walk_at "rdx"
  refine rd_rep upd_same (by omega) (by omega) (by show 1 * _ ≤ sizeLine; unfold sizeLine; omega) (fun l hl => ?_)
  have s0 := same_new hl0 (.lst [.int 0])
  have s1 := s0.trans (same_new hl (.lst (List.replicate (n / 256 + 1).toNat [V.int 0]).flatten))
  have t1 : upd (upd H l0 (.lst [.int 0])) l (.lst (List.replicate (n / 256 + 1).toNat [V.int 0]).flatten) l = some (.lst (pcsV 0 (n / 256 + 1).toNat)) := by rw [upd_same, pcsV_zero]
  have hl' : H l = none := s0.free hl
  generalize upd (upd H l0 (.lst [.int 0])) l (.lst (List.replicate (n / 256 + 1).toNat [V.int 0]).flatten) = H1 at s1 t1 ⊢
  generalize hk : (n / 256 + 1).toNat = k at t1
  walk_at "rdx"
  refine ⟨_, rfl, a, rfl, ⟨_, s1.seq hS⟩, for_list (xs := ds.map V.int) (fun i σ' H' => Same H H' ∧ ∃ (b : Nat) (c c' : Option V), H' l = some (.lst (pcsV b k)) ∧ σ' = [some (.int n), some (.ref a), some (.ref l), c, none, none, c'] ∧ RB n (ds.take i) b) ⟨s1, 0, none, none, t1, rfl, ?_⟩ ?_ ?_ ?_⟩
  · simpa using RB.nil n
  · rintro i σ' H' _ ⟨s, _⟩
    exact s.seq hS
  · rintro i x σ' H' hx ⟨s, b, c, c', t, rfl, B⟩
    rw [List.getElem?_map] at hx
    obtain ⟨d, hd, rfl⟩ := Option.map_eq_some_iff.mp hx
    have m0 := Int.emod_nonneg d (show n ≠ 0 by omega)
    have m1 := Int.emod_lt_of_pos d (show 0 < n by omega)
    walk_at "rdx"
    have B' := B.snoc (x := d) (by omega)
    obtain ⟨p, hp⟩ : ∃ p : Nat, d % n = (p : Int) := ⟨(d % n).toNat, by omega⟩
    rw [hp, Int.toNat_natCast] at B'
    rw [hp] at m1 ⊢
    have e1 : (p : Int) / 256 = ((p / 256 : Nat) : Int) := by omega
    have e2 : (p : Int) % 256 = ((p % 256 : Nat) : Int) := by omega
    rw [e1]
    have pk : p / 256 < k := by omega
    refine rd_ixL (SqL.of t) (atI_nat (pcsV_at pk)) ?_
    walk_at "rdx"
    rw [e2]
    refine rd_i ⟨by omega, 1, bt1, by omega⟩ ?_
    walk_at "rdx"
    rw [Int.toNat_natCast, pow_cast, bitOr_nat]
    try rw [e1]
    refine rd_setL t (by rw [pcsV_len]; exact pk) ?_
    rw [pcsV_set pk]
    refine ⟨same_app hl' s, _, _, _, upd_same, rfl, ?_⟩
    rw [List.take_add_one, hd]
    exact B'
  · rintro σ' H2 ⟨s2, b, c, c', t2, rfl, B⟩
    rw [List.length_map, List.take_length] at B
    walk_at "rdx"
    walk_at "rdf"
    walk_at "rdx"
    refine ⟨l, _, rfl, .inl (SqL.of t2), ?_⟩
    walk_at "rdx"
    rw [pcsV_len]
    refine ⟨(k : Int), rfl, by omega, by omega, for_range (n := ((k : Int)).toNat) (fun i σ' H' => H' = H2 ∧ ∃ (c1 : Option V), σ' = [some (.int n), some (.ref a), some (.ref l), c, some (.int ((b % 2 ^ (256 * i) : Nat) : Int)), c1, c'] ∧ i ≤ k) ⟨rfl, none, ?_, by omega⟩ ?_ ?_⟩
    · rw [Nat.mul_zero, Nat.pow_zero, Nat.mod_one]
      rfl
    · rintro i σ' H' hi ⟨rfl, c1, rfl, _⟩
      have ik : i < k := by omega
      walk_at "rdx"
      rw [Int.zero_add]
      refine rd_ixL (SqL.of t2) (atI_nat (pcsV_at ik)) ?_
      walk_at "rdx"
      refine rd_i ⟨20, 10, bt_nat (by omega), (by unfold Bt; decide), by decide⟩ ?_
      walk_at "rdx"
      refine rd_i ⟨by omega, 256, bt_nat (pc_lt _ _), by omega⟩ ?_
      walk_at "rdx"
      rw [show ((i : Int) * 256).toNat = 256 * i by omega, shl_cast, bitOr_nat, pc_join]
      exact ⟨rfl, _, rfl, by omega⟩
    · rintro σ' H' ⟨rfl, c1, rfl, _⟩
      walk_at "rdx"
      have e : 256 * ((k : Int)).toNat = 256 * (n / 256 + 1).toNat := by omega
      rw [e, rb_bits (by omega) B.lt]
      refine ⟨two', fun p hp => ?_⟩
      exact fin p b _ (s2.trans (same_new hp _)) upd_same B
theorem sc_refuse_wanted : FnScope ["month", "day", "step"] ["month", "day", "step"] (defScope s_refuse_wanted) := ⟨rfl, rfl, rfl, by decide +kernel, rfl, by decide +kernel, by decide +kernel⟩
theorem ok_refuse_wanted {f : Addr} {fd : FuncData} (F : Fun K "refuse_wanted" "refuse_wanted" s_refuse_wanted f fd) (er : Errs K mg c_FeastError c_NoNumber c_TooLong c_NoMeasure c_NoDate c_Measure c_Calendar c_Sun c_Moon) (c_refuse_below_one : CalE P w K mg base 1 "refuse_below_one" ["number"] (spRefuseE c_NoNumber)) : FnOk P w K mg base (CX1 P w) 2 f fd ["month", "day", "step"] (spWantE c_NoNumber) := by
  refine F.okE (k := 1) sc_refuse_wanted (fun vs H Q E h => ?_) (fun cdv A outer s H vs Q E hr h T => ?_)
  · obtain ⟨m, d, st, rfl, _⟩ := h
    cases m <;> cases d <;> rfl
  obtain ⟨m, d, st, rfl, qs, qe⟩ := h
  have lst : (WantOk m d st ↔ (∀ i, m = some i → 1 ≤ i) ∧ d ≠ some 0 ∧ 1 ≤ st) := ⟨fun W => ⟨W.m1, W.d0, W.st⟩, fun W => ⟨W.1, W.2.1, W.2.2⟩⟩
  have ret : ∀ {H' : Hp}, Same H H' → ¬ WantOk m d st → ENum c_NoNumber H' E := fun s h H2 s2 => qe h H2 (s.trans s2)
  rw [lst] at qs qe ret
  refine ⟨_, (pss_cons (ps_cut (ps_if (pt_cmpR op_notN (pv 0) pe_non (nomark _))
        (pss_one (ps_expr (pe_calE T c_refuse_below_one (hr.mono (by decide)) rfl (pa_cons (pv 0) pa_nil))))
        pss_nil))
      (pss_cons (ps_if (pt_cmpR op_eq (pv 1) pe_int (nomark _))
        (pss_one (ps_raise T rfl er.x_NoNumber rfl (pa_cons pe_str pa_nil)))
        pss_nil)
      (pss_one (ps_expr (pe_calE T c_refuse_below_one (hr.mono (by decide)) rfl (pa_cons (pv 2) pa_nil)))))), ?_⟩
  cases m with
  | none =>
    walk_at "rdx"
    refine rd_cut (fun σ' H' => H' = H ∧ σ' = [some .non, some (oI d), some (.int st)]) ?_ ?_
    · walk_at "rdx"
      refine ⟨rfl, ?_⟩
      walk_at "rdx"
      refine iteF ?_
      walk_at "rdx"
      exact ⟨rfl, rfl⟩
    rintro σ' H' ⟨rfl, rfl⟩
    cases d with
    | none =>
      walk_at "rdx"
      refine iteN (fun e => nomatch e) ?_
      walk_at "rdx"
      exact ⟨st, rfl, fun h => qs ⟨fun i e => (nomatch e), fun e => (nomatch e), h⟩, fun h => ret (Same.refl _) fun W => absurd W.2.2 (by omega)⟩
    | some i =>
      walk_at "rdx"
      refine ite2d (fun e => ?_) (fun e => ?_)
      · walk_at "rdx"
        exact ⟨(by show 1 ≤ sizeLine; decide), ret (Same.refl _) (fun W => W.2.1 (by rw [V.int.inj e])) _ (Same.refl _)⟩
      · walk_at "rdx"
        exact ⟨st, rfl, fun h => qs ⟨fun i e => (nomatch e), (fun z => e (by cases z; rfl)), h⟩, fun h => ret (Same.refl _) fun W => absurd W.2.2 (by omega)⟩
  | some j =>
    walk_at "rdx"
    refine rd_cut (fun σ' H' => H' = H ∧ 1 ≤ j ∧ σ' = [some (.int j), some (oI d), some (.int st)]) ?_ ?_
    · walk_at "rdx"
      refine ⟨rfl, ?_⟩
      walk_at "rdx"
      refine iteT ?_
      walk_at "rdx"
      refine ⟨j, rfl, fun h1 => ⟨rfl, h1, rfl⟩, fun h1 => ret (Same.refl _) fun W => absurd (W.1 j rfl) (by omega)⟩
    rintro σ' H' ⟨rfl, j1, rfl⟩
    cases d with
    | none =>
      walk_at "rdx"
      refine iteN (fun e => nomatch e) ?_
      walk_at "rdx"
      exact ⟨st, rfl, fun h => qs ⟨(fun i e => by cases e; exact j1), fun e => (nomatch e), h⟩, fun h => ret (Same.refl _) fun W => absurd W.2.2 (by omega)⟩
    | some i =>
      walk_at "rdx"
      refine ite2d (fun e => ?_) (fun e => ?_)
      · walk_at "rdx"
        exact ⟨(by show 1 ≤ sizeLine; decide), ret (Same.refl _) (fun W => W.2.1 (by rw [V.int.inj e])) _ (Same.refl _)⟩
      · walk_at "rdx"
        exact ⟨st, rfl, fun h => qs ⟨(fun i e => by cases e; exact j1), (fun z => e (by cases z; rfl)), h⟩, fun h => ret (Same.refl _) fun W => absurd W.2.2 (by omega)⟩
theorem sc_days_of_month : FnScope ["first", "length", "day", "place"] ["first", "length", "day"] (defScope s_days_of_month) := ⟨rfl, rfl, rfl, by decide +kernel, rfl, by decide +kernel, by decide +kernel⟩
theorem ok_days_of_month {f : Addr} {fd : FuncData} (F : Fun K "days_of_month" "days_of_month" s_days_of_month f fd) (z_list : mg "list" = none) (z_range : mg "range" = none) : FnOk P w K mg base CX0 1 f fd ["first", "length", "day"] spDoM40 := by
  refine F.ok (k := 0) sc_days_of_month (fun vs H Q E h => ?_) (fun cdv A outer s H vs Q E hr h => ?_)
  · obtain ⟨f, n, d, rfl, _⟩ := h
    cases d <;> rfl
  obtain ⟨f, n, d, rfl, n0, n1, q⟩ := h
  refine ⟨_, (pss_cons (ps_if (pt_cmpR op_isN (pv 2) pe_non (nomark _))
        (pss_one (ps_ret (pe_lrangeA rfl rfl z_list rfl z_range (pa_cons (pv 0) (pa_cons (pe_op op_add (pv 0) (pv 1)) pa_nil)))))
        pss_nil)
      (pss_cons (ps_set (i := 3) sc_days_of_month.nd rfl (by first | exact Or.inl rfl | exact Or.inr rfl) (pe_ifExp (pt_cmpR op_gt (pv 2) pe_int (nomark _)) (pe_op op_sub (pv 2) pe_int) (pe_op op_add (pv 1) (pv 2))))
      (pss_cons (ps_if (PW.pt (pw_or (pt_cmpR op_lt (pv 3) pe_int (nomark _)) (pw_or1 (pt_cmpR op_ge (pv 3) (pv 1) (nomark _)))))
        (pss_one (ps_ret (pe_lst pa_nil)))
        pss_nil)
      (pss_one (ps_ret (pe_lst (pa_cons (pe_op op_add (pv 0) (pv 3)) pa_nil))))))), ?_⟩
  cases d with
  | none =>
    walk_at "rdx"
    refine ⟨rfl, ?_⟩
    walk_at "rdx"
    refine iteT ?_
    walk_at "rdx"
    refine ⟨f, f + n, rfl, by omega, by omega, fun l hl => ?_⟩
    refine q l _ hl (same_new hl _) ?_
    rw [upd_same]
    unfold domF
    rw [show f + n - f = n by omega, List.map_map]
    rfl
  | some i =>
    rw [show oI (some i) = V.int i from rfl]
    walk_at "rdx"
    refine ⟨rfl, ?_⟩
    walk_at "rdx"
    refine iteF ?_
    walk_at "rdx"
    refine ite2d (fun h => ?_) (fun h => ?_)
    · walk_at "rdx"
      refine iteN (by omega) ?_
      walk_at "rdx"
      refine ite2d (fun h2 => ?_) (fun h2 => ?_)
      · walk_at "rdx"
        refine ⟨Nat.zero_le _, fun l hl => ?_⟩
        refine q l _ hl (same_new hl _) ?_
        rw [upd_same]
        unfold domF
        simp only []
        rw [if_pos h, if_pos h2]
        rfl
      · walk_at "rdx"
        refine ⟨(by show 1 ≤ sizeLine; decide), fun l hl => ?_⟩
        refine q l _ hl (same_new hl _) ?_
        rw [upd_same]
        unfold domF
        simp only []
        rw [if_pos h, if_neg h2]
        rfl
    · walk_at "rdx"
      refine ite2d (fun h1 => iteT ?_) (fun h1 => ?_)
      · walk_at "rdx"
        refine ⟨Nat.zero_le _, fun l hl => ?_⟩
        refine q l _ hl (same_new hl _) ?_
        rw [upd_same]
        unfold domF
        simp only []
        rw [if_neg h, if_pos (.inl h1)]
        rfl
      walk_at "rdx"
      refine ite2d (fun h2 => ?_) (fun h2 => ?_)
      · walk_at "rdx"
        refine ⟨Nat.zero_le _, fun l hl => ?_⟩
        refine q l _ hl (same_new hl _) ?_
        rw [upd_same]
        unfold domF
        simp only []
        rw [if_neg h, if_pos (.inr h2)]
        rfl
      · walk_at "rdx"
        refine ⟨(by show 1 ≤ sizeLine; decide), fun l hl => ?_⟩
        refine q l _ hl (same_new hl _) ?_
        rw [upd_same]
        unfold domF
        simp only []
        rw [if_neg h, if_neg (by omega)]
        rfl
theorem sc_days_of_year : FnScope ["calendar", "year", "month", "day", "told", "first", "number", "length"] ["calendar", "year", "month", "day"] (defScope s_days_of_year) := ⟨rfl, rfl, rfl, by decide +kernel, rfl, by decide +kernel, by decide +kernel⟩
theorem ok_days_of_year {f : Addr} {fd : FuncData} (F : Fun K "days_of_year" "days_of_year" s_days_of_year f fd) (er : Errs K mg c_FeastError c_NoNumber c_TooLong c_NoMeasure c_NoDate c_Measure c_Calendar c_Sun c_Moon) (c_Sun_year_start : CalM P w K mg base CX0 3 c_Sun "year_start" ["self", "year"] (spYS K c_Sun c_Measure)) (c_Moon_year_start : CalM P w K mg base CX0 3 c_Moon "year_start" ["self", "year"] (spMYS K c_Moon c_Measure)) (c_Sun_lengths : CalM P w K mg base CX0 3 c_Sun "lengths" ["self", "year"] (spLens K c_Sun c_Measure)) (c_Moon_lengths : CalM P w K mg base CX0 3 c_Moon "lengths" ["self", "year"] (spMLens K c_Moon c_Measure)) (c_days_of_month : Cal P w K mg base 1 "days_of_month" ["first", "length", "day"] spDoM40) : FnOk P w K mg base CX0 4 f fd ["calendar", "year", "month", "day"] (spDoY40 K c_Sun c_Moon c_Measure) := by
  refine F.ok (k := 3) sc_days_of_year (fun vs H Q E h => ?_) (fun cdv A outer s H vs Q E hr h => ?_)
  · obtain ⟨x, d, y, m, i, rfl, _⟩ := h
    cases m <;> cases i <;> rfl
  obtain ⟨x, d, y, m, i, rfl, S, by', q⟩ := h
  have g := CalO.good S
  have ln := CalD.len g y
  have lm := CalD.mem g y
  have nn : ∀ n ∈ d.L y, 0 ≤ n := fun n hn => (lm n hn).1
  refine ⟨_, (pss_cons (ps_set (i := 4) sc_days_of_year.nd rfl (by first | exact Or.inl rfl | exact Or.inr rfl) (pe_lst pa_nil))
      (pss_cons (ps_set (i := 5) sc_days_of_year.nd rfl (by first | exact Or.inl rfl | exact Or.inr rfl) (pe_mcalL (k := 3) (CalL.cons er.cl_Sun c_Sun_year_start (by decide) (CalL.cons er.cl_Moon c_Moon_year_start (by decide) CalL.nil)) (hr.mono (by decide)) (pv 0) (pa_cons (pv 1) pa_nil)))
      (pss_cons (ps_set (i := 6) sc_days_of_year.nd rfl (by first | exact Or.inl rfl | exact Or.inr rfl) pe_int)
      (pss_cons (ps_for PassesOwn.never rfl (pi_list (pe_mcalL (k := 3) (CalL.cons er.cl_Sun c_Sun_lengths (by decide) (CalL.cons er.cl_Moon c_Moon_lengths (by decide) CalL.nil)) (hr.mono (by decide)) (pv 0) (pa_cons (pv 1) pa_nil))) (pg_name (i := 7) sc_days_of_year.nd rfl (by first | exact Or.inl rfl | exact Or.inr rfl))
        (pss_cons (ps_cut (ps_if (PW.pt (pw_or (pt_cmpR op_isN (pv 2) pe_non (nomark _)) (pw_or1 (pt_cmpR op_eq (pv 2) (pv 6) (nomark _)))))
        (pss_one (ps_expr (pe_bm PySem.F.plainAttrs_list PySem.F.slot_list_extend PySem.F.type_list_extend mt_extend (pv 4) (pa_cons (pe_cal c_days_of_month (hr.mono (by decide)) rfl (pa_cons (pv 5) (pa_cons (pv 7) (pa_cons (pv 3) pa_nil)))) pa_nil))))
        pss_nil))
      (pss_cons (ps_set (i := 5) sc_days_of_year.nd rfl (by first | exact Or.inl rfl | exact Or.inr rfl) (pe_op op_add (pv 5) (pv 7)))
      (pss_one (ps_set (i := 6) sc_days_of_year.nd rfl (by first | exact Or.inl rfl | exact Or.inr rfl) (pe_op op_add (pv 6) pe_int))))))
      (pss_one (ps_ret (pv 4))))))), ?_⟩
  walk_at "rdx"
  refine ⟨Nat.zero_le _, fun t0 ht0 => ?_⟩
  have s1 := same_new ht0 (.lst [])
  have e1 : upd H t0 (.lst []) t0 = some (.lst []) := upd_same
  have S1 := CalO.same S s1
  generalize upd H t0 (.lst []) = H1 at s1 e1 S1 ⊢
  walk_at "rdx"
  obtain ⟨C, dx, fs, sp, mem, e, lk, use⟩ := S1.ys
  refine ⟨x, C, dx, fs, sp, mem, rfl, e, lk, ?_⟩
  walk_at "rdx"
  refine use S1 by' fun H2 s2 => ?_
  have S2 := CalO.same S1 s2
  have e2 := s2 _ _ e1
  have s12 := s1.trans s2
  walk_at "rdx"
  refine rd_for (rd_iL ?_)
  walk_at "rdx"
  obtain ⟨C', dx', fs', sp', mem', e', lk', use'⟩ := S2.le
  refine ⟨x, C', dx', fs', sp', mem', rfl, e', lk', ?_⟩
  walk_at "rdx"
  refine use' S2 by' fun l H3 hl s3 t3 => ?_
  have e3 := s3 _ _ e2
  have s13 := s12.trans s3
  have lt : l ≠ t0 := fun z => by rw [z, e2] at hl; cases hl
  generalize d.L y = L at *
  generalize d.Y y = Y0 at *
  refine ⟨l, rfl, ⟨_, SqL.of t3⟩, for_list (xs := L.map V.int) (fun k σ' H' => Same H H' ∧ H' l = some (.lst (L.map V.int)) ∧ k ≤ L.length ∧ ∃ (v : Option V), H' t0 = some (.lst ((yrL (L.take k) Y0 1 m i).map V.int)) ∧ σ' = [some (.ref x), some (.int y), some (oI m), some (oI i), some (.ref t0), some (.int (Y0 + PS L k)), some (.int (1 + (k : Int))), v]) ⟨s13, t3, Nat.zero_le _, none, e3, by rw [PS_zero, Int.add_zero]; rfl⟩ ?_ ?_ ?_⟩
  · rintro k σ' H' hk ⟨_, t, _⟩
    exact SqL.of t
  · rintro k v0 σ' H' hv ⟨sH, tl, k1, v, td, rfl⟩
    rw [List.getElem?_map] at hv
    obtain ⟨n, hn, rfl⟩ := Option.map_eq_some_iff.mp hv
    have kl : k < L.length := (List.getElem?_eq_some_iff.mp hn).1
    have hnm := lm n (List.mem_of_getElem? hn)
    have e5 := yrL_step hn Y0 m i
    have eP : PS L (k + 1) = PS L k + n := by
      rw [PS_succ kl, List.getD_eq_getElem?_getD, hn]
      rfl
    have l1 := yrL_le (L.take k) Y0 1 m i fun n hn => nn n (List.mem_of_mem_take hn)
    have l2 := sum_leB (M := 1006) lm
    have l3 := domF_le (f := Y0 + PS L k) hnm.1 i
    have l4 : (L.take k).sum ≤ L.sum := by
      have := PS_mono nn (show k ≤ L.length by omega) (Nat.le_refl _)
      rwa [PS_len] at this
    generalize yrL (L.take k) Y0 1 m i = ds at *
    walk_at "rdx"
    refine rd_cut (fun σ' H' => Same H H' ∧ H' l = some (.lst (L.map V.int)) ∧ H' t0 = some (.lst ((yrL (L.take (k + 1)) Y0 1 m i).map V.int)) ∧ σ' = [some (.ref x), some (.int y), some (oI m), some (oI i), some (.ref t0), some (.int (Y0 + PS L k)), some (.int (1 + (k : Int))), some (.int n)]) ?_ ?_
    · have ext : (m = none ∨ m = some (1 + (k : Int))) → ∀ (l5 : Addr) (H5 : Hp) (s5 : Same H' H5) (t5 : H5 l5 = some (.lst ((domF (Y0 + PS L k) n i).map V.int))) {Q2 : VK}, (∀ (H4 : Hp), Same H H4 → H4 l = some (.lst (L.map V.int)) → H4 t0 = some (.lst ((yrL (L.take (k + 1)) Y0 1 m i).map V.int)) → Q2 .non H4) → rExtend (.ref t0) [.ref l5] H5 Q2 := fun hm l5 H5 s5 t5 {Q2} hQ => by
        have td5 := s5 _ _ td
        have tl5 := s5 _ _ tl
        refine ⟨t0, l5, _, _, rfl, rfl, td5, t5, ?_, ?_⟩
        · rw [List.length_map, List.length_map, sizeLine_eq]
          omega
        · rw [← List.map_append]
          refine hQ _ (fun r o ho => ?_) ?_ ?_
          · rw [upd_ne fun z => by rw [z, ht0] at ho; cases ho]
            exact s5 _ _ (sH _ _ ho)
          · rw [upd_ne lt]
            exact tl5
          · rw [upd_same, e5, if_pos hm]
      have skip : ¬ (m = none ∨ m = some (1 + (k : Int))) → Same H H' ∧ H' l = some (.lst (L.map V.int)) ∧ H' t0 = some (.lst ((yrL (L.take (k + 1)) Y0 1 m i).map V.int)) := fun hm => ⟨sH, tl, by rw [e5, if_neg hm, List.append_nil]; exact td⟩
      cases m with
      | none =>
        walk_at "rdx"
        refine ⟨rfl, ?_⟩
        walk_at "rdx"
        refine iteT (iteT ?_)
        walk_at "rdx"
        refine rd_ext rfl td ?_
        walk_at "rdx"
        refine ⟨_, n, i, rfl, hnm.1, by omega, fun l5 H5 h5 s5 t5 => ?_⟩
        refine rd_nil ?_
        refine ext (.inl rfl) l5 H5 s5 t5 fun H4 a1 a2 a3 => ?_
        exact ⟨a1, a2, a3, rfl⟩
      | some j =>
        walk_at "rdx"
        refine ⟨rfl, ?_⟩
        walk_at "rdx"
        refine iteF ?_
        walk_at "rdx"
        refine ite2d (fun z => ?_) (fun z => ?_)
        · have z' : some j = some (1 + (k : Int)) := congrArg some (V.int.inj z)
          walk_at "rdx"
          refine rd_ext rfl td ?_
          walk_at "rdx"
          refine ⟨_, n, i, rfl, hnm.1, by omega, fun l5 H5 h5 s5 t5 => ?_⟩
          refine rd_nil ?_
          refine ext (.inr z') l5 H5 s5 t5 fun H4 a1 a2 a3 => ?_
          exact ⟨a1, a2, a3, rfl⟩
        · walk_at "rdx"
          obtain ⟨a1, a2, a3⟩ := skip (fun w => by rcases w with w | w; cases w; exact z (congrArg V.int (Option.some.inj w)))
          exact ⟨a1, a2, a3, rfl⟩
    rintro σ' H4 ⟨sH, tl, td, rfl⟩
    walk_at "rdx"
    refine ⟨sH, tl, by omega, some (.int n), td, ?_⟩
    rw [show (1 : Int) + ((k + 1 : Nat) : Int) = 1 + (k : Int) + 1 by omega, eP, ← Int.add_assoc]
    rfl
  rintro σ' H' ⟨sH, tl, k1, v, td, rfl⟩
  walk_at "rdx"
  rw [List.length_map, List.take_length] at td
  exact q t0 _ ht0 sH td
theorem sc_dated : FnScope ["calendar", "month", "day", "step", "rest", "cycle", "years", "size", "days", "year"] ["calendar", "month", "day", "step", "rest"] (defScope s_dated) := ⟨rfl, rfl, rfl, by decide +kernel, rfl, by decide +kernel, by decide +kernel⟩
theorem ok_dated {f : Addr} {fd : FuncData} {ds : Array Value} (F : FunD K "dated" "dated" s_dated f fd ds) (er : Errs K mg c_FeastError c_NoNumber c_TooLong c_NoMeasure c_NoDate c_Measure c_Calendar c_Sun c_Moon) (c_refuse_wanted : CalE P w K mg base 2 "refuse_wanted" ["month", "day", "step"] (spWantE c_NoNumber)) (c_Sun_cycle : CalM P w K mg base CX0 3 c_Sun "cycle" ["self"] (spCyc K c_Sun c_Measure)) (c_Moon_cycle : CalM P w K mg base CX0 3 c_Moon "cycle" ["self"] (spMCyc K c_Moon c_Measure)) (c_common : Cal P w K mg base 3 "common" ["one", "other"] spCommon) (c_refuse_too_long : CalE P w K mg base 3 "refuse_too_long" ["size"] (spTooLongE c_TooLong)) (c_days_of_year : Cal P w K mg base 4 "days_of_year" ["calendar", "year", "month", "day"] (spDoY40 K c_Sun c_Moon c_Measure)) (c_round_by : CalE P w K mg base 4 "round_by" ["size", "days"] (spRoundByE K c_NoNumber c_TooLong)) (z_range : mg "range" = none) : FnOk P w K mg base (CX1 P w) 5 f fd ["calendar", "month", "day", "step", "rest"] (spDated40 K c_Sun c_Moon c_Measure c_NoNumber c_TooLong) := by
  refine F.okE (k := 4) sc_dated (fun vs H Q E h => ?_) (fun cdv A outer s H vs Q E hr h T => ?_)
  · obtain ⟨x, d, m, i, st, r, rfl, _⟩ := h
    cases m <;> cases i <;> rfl
  obtain ⟨x, d, m, i, st, r, rfl, S, b1, b2, bs, en, el, q⟩ := h
  refine ⟨_, (pss_cons (ps_expr (pe_calE T c_refuse_wanted (hr.mono (by decide)) rfl (pa_cons (pv 1) (pa_cons (pv 2) (pa_cons (pv 3) pa_nil)))))
      (pss_cons (ps_set (i := 5) sc_dated.nd rfl (by first | exact Or.inl rfl | exact Or.inr rfl) (pe_mcalL0 (k := 3) (CalL.cons er.cl_Sun c_Sun_cycle (by decide) (CalL.cons er.cl_Moon c_Moon_cycle (by decide) CalL.nil)) (hr.mono (by decide)) (pv 0)))
      (pss_cons (ps_set (i := 6) sc_dated.nd rfl (by first | exact Or.inl rfl | exact Or.inr rfl) (pe_cal c_common (hr.mono (by decide)) rfl (pa_cons (pe_ix ix_tup (pv 5) pe_int (fun _ _ => rfl)) (pa_cons (pv 3) pa_nil))))
      (pss_cons (ps_set (i := 7) sc_dated.nd rfl (by first | exact Or.inl rfl | exact Or.inr rfl) (pe_op op_mulB (pe_op op_fdivB (pv 6) (pe_ix ix_tup (pv 5) pe_int (fun _ _ => rfl))) (pe_ix ix_tup (pv 5) pe_int (fun _ _ => rfl))))
      (pss_cons (ps_expr (pe_calE T c_refuse_too_long (hr.mono (by decide)) rfl (pa_cons (pv 7) pa_nil)))
      (pss_cons (ps_set (i := 8) sc_dated.nd rfl (by first | exact Or.inl rfl | exact Or.inr rfl) (pe_lst pa_nil))
      (pss_cons (ps_for (by first | exact PassesOwn.leaving | exact PassesOwn.looking | with_unfolding_all passes_own) rfl (pi_range3 rfl z_range (pa_cons (pe_op op_mod (pv 4) (pv 3)) (pa_cons (pv 6) (pa_cons (pv 3) pa_nil)))) (pg_name (i := 9) sc_dated.nd rfl (by first | exact Or.inl rfl | exact Or.inr rfl))
        (pss_one (ps_expr (pe_bm PySem.F.plainAttrs_list PySem.F.slot_list_extend PySem.F.type_list_extend mt_extend (pv 8) (pa_cons (pe_cal c_days_of_year (hr.mono (by decide)) rfl (pa_cons (pv 0) (pa_cons (pv 9) (pa_cons (pv 1) (pa_cons (pv 2) pa_nil))))) pa_nil)))))
      (pss_one (ps_ret (pe_calE T c_round_by (hr.mono (by decide)) rfl (pa_cons (pv 7) (pa_cons (pv 8) pa_nil)))))))))))), ?_⟩
  walk_at "rdx"
  refine ⟨m, i, st, rfl, fun W => ?_, fun W => en W⟩
  have en := ()
  have st1 := W.st
  have el := el W
  have q := q W
  walk_at "rdx"
  obtain ⟨C, dx, fs, sp, mem, e, lk, use⟩ := S.cyc
  refine ⟨x, C, dx, fs, sp, mem, rfl, e, lk, ?_⟩
  refine use S fun c H1 s1 t1 => ?_
  clear C dx fs sp mem e lk use
  have g := CalO.good S
  have S1 := CalO.same S s1
  obtain ⟨f1, f2, f3, f4⟩ := dSize_facts g st1
  have c1 := CalD.cy_pos g
  have c2 := CalD.cy_le g
  have bl : Bt 500 (lcmI d.cy.1 st) := (b1.mul bs).le (by omega)
  walk_at "rdx"
  refine rd_ixT (SqT.of t1) rfl ?_
  walk_at "rdx"
  refine ⟨_, _, rfl, c1, by omega, b1.mono (by decide), bs.mono (by decide), fun H2 s2 => ?_⟩
  walk_at "rdx"
  have bq : Bt 500 (lcmI d.cy.1 st / d.cy.1) := bl.le (by have := Int.ediv_nonneg (a := lcmI d.cy.1 st) (b := d.cy.1) (by omega) (by omega); have := Int.ediv_le_self (a := lcmI d.cy.1 st) d.cy.1 (by omega); omega)
  refine rd_ixT (SqT.of (s2 _ _ t1)) rfl ?_
  walk_at "rdx"
  refine rd_i ⟨c1, b1.mono (by decide)⟩ ?_
  walk_at "rdx"
  refine rd_ixT (SqT.of (s2 _ _ t1)) rfl ?_
  walk_at "rdx"
  refine rd_i ⟨500, 200, bq, b2, by decide⟩ ?_
  have eZ : lcmI d.cy.1 st / d.cy.1 * d.cy.2 = dSize d st := rfl
  have bZ : Bt 700 (dSize d st) := bq.mul b2
  rw [eZ]
  walk_at "rdx"
  refine ⟨_, rfl, bZ.mono (by decide), fun z1 => ?_, fun z1 => (el z1).later (s1.trans s2)⟩
  have q := q z1
  have S2 := CalO.same S1 s2
  walk_at "rdx"
  refine ⟨Nat.zero_le _, fun l hl => ?_⟩
  have s3 := same_new hl (.lst [])
  have t3 : upd H2 l (.lst []) l = some (.lst []) := upd_same
  have hlH : H l = none := (s1.trans s2).free hl
  generalize upd H2 l (.lst []) = H3 at s3 t3 ⊢
  have S3 := CalO.same S2 s3
  have on := fun {n : Nat} hn {ds : List Int} hds {b : Nat} B {t y mo rr : Int} => dated_on g (m := m) (i := i) (r := r) st1 (n := n) hn (ds := ds) hds (b := b) B (t := t) (y := y) (mo := mo) (rr := rr)
  have yy : d.Y (lcmI d.cy.1 st + lcmI d.cy.1 st) = d.Y 0 + (dSize d st + dSize d st) := by
    obtain ⟨u, hu⟩ := (lcmI_facts c1 (show 0 < st by omega)).2.1
    have a1 := (Fw.cyZ g (u + u) 0).2
    have e1 : lcmI d.cy.1 st + lcmI d.cy.1 st = 0 + (u + u) * d.cy.1 := by rw [hu, Int.add_mul, Int.mul_comm u]; omega
    have e2 : dSize d st = u * d.cy.2 := by
      unfold dSize
      rw [hu, Int.mul_ediv_cancel_left _ (by omega)]
    rw [e1, a1, e2, Int.add_mul]
  generalize lcmI d.cy.1 st = Y at *
  generalize dSize d st = Z at *
  walk_at "rdx"
  refine rd_for (rd_rng3 ?_)
  walk_at "rdx"
  have r0 := Int.emod_nonneg r (show st ≠ 0 by omega)
  have r1 := Int.emod_lt_of_pos r (show 0 < st by omega)
  generalize r % st = R at *
  obtain ⟨n, hn, hk⟩ : ∃ n : Nat, (n : Int) = Builtin.Range.rangeSize R Y st ∧ ∀ k : Nat, k < n ↔ R + (k : Int) * st < Y := by
    rw [rangeSize_up (by omega)]
    by_cases c : R < Y
    · rw [if_pos c]
      have dn : 0 ≤ (Y - R - 1) / st := Int.ediv_nonneg (by omega) (by omega)
      refine ⟨((Y - R - 1) / st + 1).toNat, by omega, fun k => ?_⟩
      have := Int.le_ediv_iff_mul_le (a := (k : Int)) (b := Y - R - 1) (show 0 < st by omega)
      omega
    · rw [if_neg c]
      refine ⟨0, rfl, fun k => ?_⟩
      have : 0 ≤ (k : Int) * st := Int.mul_nonneg (by omega) (by omega)
      omega
  have mono : ∀ {a b : Int}, a ≤ b → d.Y a ≤ d.Y b := fun {a b} h => by
    rcases Int.lt_or_eq_of_le h with z | z
    · have := CalD.lt g z
      omega
    · rw [z]; exact Int.le_refl _
  have Z1 : d.Y 0 ≤ d.Y R := mono (by omega)
  refine ⟨R, Y, st, rfl, by omega, by omega, ?_, n, hn, for_rangeS (fun k σ' H' => Same H H' ∧ k ≤ n ∧ ∃ (ds : List Int) (v : Option V), (ds.length : Int) ≤ d.Y (R + (k : Int) * st) - d.Y R ∧ (∀ z, z ∈ ds ↔ ∃ j : Nat, j < k ∧ z ∈ yrL (d.L (R + (j : Int) * st)) (d.Y (R + (j : Int) * st)) 1 m i) ∧ H' l = some (.lst (ds.map V.int)) ∧ CalO K c_Sun c_Moon c_Measure H' x d ∧ σ' = [some (.ref x), some (oI m), some (oI i), some (.int st), some (.int r), some (.ref c), some (.int Y), some (.int Z), some (.ref l), v]) ⟨(s1.trans s2).trans s3, Nat.zero_le _, [], none, ?_, fun z => ⟨fun h => (nomatch h), fun ⟨j, hj, _⟩ => absurd hj (Nat.not_lt_zero _)⟩, t3, S3, rfl⟩ ?_ ?_⟩
  · exact small_step (by omega) (by omega) (by omega) (by omega) (by omega) (by omega)
  · show (0 : Int) ≤ d.Y (R + ((0 : Nat) : Int) * st) - d.Y R
    rw [show R + ((0 : Nat) : Int) * st = R by simp]
    omega
  · rintro k σ' H' hkn ⟨sH, k1, ds, v, dl, dm, tl, SH, rfl⟩
    have ky := (hk k).mp hkn
    have k0 : 0 ≤ (k : Int) * st := Int.mul_nonneg (by omega) (by omega)
    have ln := CalD.len g (R + (k : Int) * st)
    have lm := CalD.mem g (R + (k : Int) * st)
    have le := yrL_le (d.L (R + (k : Int) * st)) (d.Y (R + (k : Int) * st)) 1 m i fun n hn => (lm n hn).1
    have sp := CalD.step g (R + (k : Int) * st)
    have m1 := mono (show R + (k : Int) * st + 1 ≤ R + ((k + 1 : Nat) : Int) * st by rw [show ((k + 1 : Nat) : Int) = (k : Int) + 1 by omega, Int.add_mul, Int.one_mul]; omega)
    have m2 := mono (show R + ((k + 1 : Nat) : Int) * st ≤ Y + Y by rw [show ((k + 1 : Nat) : Int) = (k : Int) + 1 by omega, Int.add_mul, Int.one_mul]; omega)
    walk_at "rdx"
    refine rd_ext rfl tl ?_
    walk_at "rdx"
    refine ⟨x, d, _, m, i, rfl, SH, bt_small (by omega) (by omega) (by decide), fun l5 H5 h5 s5 t5 => ?_⟩
    refine rd_nil ?_
    have tl5 := s5 _ _ tl
    refine ⟨l, l5, _, _, rfl, rfl, tl5, t5, ?_, ?_⟩
    · rw [List.length_map, List.length_map, sizeLine_eq]
      omega
    · rw [← List.map_append]
      have SH5 := CalO.same SH s5
      refine ⟨fun u o ho => ?_, by omega, _, _, ?_, fun z => ?_, upd_same, CalO.but SH5 tl5 ?_, rfl⟩
      · rw [upd_ne fun z => by rw [z, hlH] at ho; cases ho]
        exact s5 _ _ (sH _ _ ho)
      · rw [List.length_append]
        omega
      · rw [List.mem_append, dm z]
        constructor
        · rintro (⟨j, hj, h⟩ | h)
          · exact ⟨j, by omega, h⟩
          · exact ⟨k, by omega, h⟩
        · rintro ⟨j, hj, h⟩
          by_cases e : j = k
          · subst e
            exact .inr h
          · exact .inl ⟨j, by omega, h⟩
      · exact fun u o ne ho => by rw [upd_ne ne]; exact ho
  · rintro σ' H' ⟨sH, _, ds, v, dl, dm, tl, SH, rfl⟩
    walk_at "rdx"
    refine ⟨l, ds, Z, rfl, SqL.of tl, bZ.mono (by decide), fun _ _ p b H6 s6 t6 B => ?_, fun z => absurd z (by omega), fun z => absurd z (by omega)⟩
    exact q p b H6 (sH.trans s6) t6 B.lt fun h1 h2 => on hk dm B h1 h2
theorem sc_law_cell_at : FnScope ["_law_script", "_law_k"] ["_law_script", "_law_k"] (defScope s_law_cell_at) := ⟨rfl, rfl, rfl, by decide +kernel, rfl, by decide +kernel, by decide +kernel⟩
theorem ok_law_cell_at {f : Addr} {fd : FuncData} (F : Fun K "_law_cell_at" "_law_cell_at" s_law_cell_at f fd) (z_len : mg "len" = none) : FnOk P w K mg base CX0 1 f fd ["_law_script", "_law_k"] (spCell K) := by
  refine F.ok (k := 0) sc_law_cell_at (fun vs H Q E h => ?_) (fun cdv A outer s H vs Q E hr h => ?_)
  · obtain ⟨a, ns, k, rfl, _⟩ := h
    rfl
  obtain ⟨a, ns, k, rfl, hS, h0, hl, q⟩ := h
  refine ⟨_, (pss_cons (ps_if (pt_cmpR op_lt (pv 1) (pe_callB call_len_seq rfl z_len PySem.boot_len (pa_cons (pv 0) pa_nil)) (nomark _))
        (pss_one (ps_ret (pe_ix ix_list (pv 0) (pv 1) (fun _ _ => rfl))))
        pss_nil)
      (pss_one (ps_ret pe_int))), ?_⟩
  walk_at "rd"
  refine ⟨a, _, rfl, .inl hS, ?_⟩
  walk_at "rd"
  rw [List.length_map]
  refine ite2d (fun c => ?_) (fun c => ?_)
  · walk_at "rd"
    refine rd_ixL hS (at_ints h0 c) ?_
    exact q
  · walk_at "rd"
    have e : ns.getD k.toNat 0 = 0 := by
      simp [List.getD, List.getElem?_eq_none (show ns.length ≤ k.toNat by omega)]
    rw [e] at q
    exact q
theorem sc_law_whole : FnScope ["_law_found"] ["_law_found"] (defScope s_law_whole) := ⟨rfl, rfl, rfl, by decide +kernel, rfl, by decide +kernel, by decide +kernel⟩
theorem ok_law_whole {f : Addr} {fd : FuncData} (F : Fun K "_law_whole" "_law_whole" s_law_whole f fd) (z_isinstance : mg "isinstance" = none) (z_int : mg "int" = none) (z_bool : mg "bool" = none) : FnOk P w K mg base CX0 1 f fd ["_law_found"] spWhole := by
  refine F.ok (k := 0) sc_law_whole (fun vs H Q E h => ?_) (fun cdv A outer s H vs Q E hr h => ?_)
  · obtain ⟨i, rfl, _⟩ := h
    rfl
  obtain ⟨i, rfl, q⟩ := h
  refine ⟨_, (pss_one (ps_ret (pe_and (pe_callB call_isi rfl z_isinstance PyProof.Rows.boot_isinstance (pa_cons (pv 0) (pa_cons (pe_bltn rfl z_int PyProof.Rows.boot_int (rel_ty _)) pa_nil))) (pe_one (pe_not (pe_callB call_isi rfl z_isinstance PyProof.Rows.boot_isinstance (pa_cons (pv 0) (pa_cons (pe_bltn rfl z_bool PyProof.Rows.boot_bool (rel_ty _)) pa_nil)))))))), ?_⟩
  walk_at "rd"
  refine rd_isi (.int i) (kit_int_int K) ?_
  walk_at "rd"
  refine iteT ?_
  walk_at "rd"
  refine rd_isi (.int i) (kit_ib K) ?_
  walk_at "rd"
  exact q
theorem sc_law_number : FnScope ["_law_cell", "_law_part"] ["_law_cell"] (defScope s_law_number) := ⟨rfl, rfl, rfl, by decide +kernel, rfl, by decide +kernel, by decide +kernel⟩
theorem ok_law_number {f : Addr} {fd : FuncData} (F : Fun K "_law_number" "_law_number" s_law_number f fd) : FnOk P w K mg base CX0 1 f fd ["_law_cell"] spNumB := by
  refine F.ok (k := 0) sc_law_number (fun vs H Q E h => ?_) (fun cdv A outer s H vs Q E hr h => ?_)
  · obtain ⟨c, rfl, _⟩ := h
    rfl
  obtain ⟨c, rfl, q⟩ := h
  refine ⟨_, (pss_cons (ps_set (i := 1) sc_law_number.nd rfl (by first | exact Or.inl rfl | exact Or.inr rfl) (pe_op op_mod (pe_op op_fdivB (pv 0) pe_int) (pe_op op_pow pe_int pe_int)))
      (pss_one (ps_ret (pe_ix ix_list (pe_lst (pa_cons (pv 1) (pa_cons (pe_un un_neg (pv 1)) (pa_cons (pe_op op_sub (pe_op op_mod (pv 1) pe_int) pe_int) pa_nil)))) (pe_op op_mod (pv 0) pe_int) (fun _ _ => rfl))))), ?_⟩
  walk_at "rd"
  rw [p40]
  generalize hp : c / 3 % 10000000000000000000000000000000000000000 = pt
  refine ⟨(by show 3 ≤ sizeLine; decide), fun l hl => ?_⟩
  walk_at "rd"
  have fin : ∀ k : Int, -10000000000000000000000000000000000000000 ≤ k → k ≤ 10000000000000000000000000000000000000000 → atI [V.int pt, V.int (-pt), V.int (pt % 1000 - 500)] (c % 3) = some (V.int k) → rIxL K (.ref l) (.int (c % 3)) (upd H l (.lst [V.int pt, V.int (-pt), V.int (pt % 1000 - 500)])) Q := fun k k0 k1 e =>
    rd_ixL (SqL.of upd_same) e (q k _ (same_new hl _) k0 k1)
  rcases (by omega : c % 3 = 0 ∨ c % 3 = 1 ∨ c % 3 = 2) with e | e | e
  · exact fin pt (by omega) (by omega) (by rw [e]; rfl)
  · exact fin (-pt) (by omega) (by omega) (by rw [e]; rfl)
  · exact fin (pt % 1000 - 500) (by omega) (by omega) (by rw [e]; rfl)
theorem sc_law_mixed : FnScope ["_law_cell", "_law_k", "_law_number_here"] ["_law_cell", "_law_k"] (defScope s_law_mixed) := ⟨rfl, rfl, rfl, by decide +kernel, rfl, by decide +kernel, by decide +kernel⟩
theorem ok_law_mixed {f : Addr} {fd : FuncData} (F : Fun K "_law_mixed" "_law_mixed" s_law_mixed f fd) : FnOk P w K mg base CX0 1 f fd ["_law_cell", "_law_k"] spMixedD := by
  refine F.ok (k := 0) sc_law_mixed (fun vs H Q E h => ?_) (fun cdv A outer s H vs Q E hr h => ?_)
  · obtain ⟨c, k, rfl, _⟩ := h
    rfl
  obtain ⟨c, k, rfl, k0, k1, q⟩ := h
  unfold mixF at q
  refine ⟨_, (pss_cons (ps_if (pt_cmpR op_eq (pe_op op_mod (pv 0) pe_int) pe_int (nomark _))
        (pss_one (ps_ret (pe_op op_and (pe_op op_shr (pe_op op_fdivB (pv 0) pe_int) (pe_op op_mulB pe_int (pv 1))) pe_int)))
        pss_nil)
      (pss_cons (ps_set (i := 2) sc_law_mixed.nd rfl (by first | exact Or.inl rfl | exact Or.inr rfl) (pe_op op_mod (pe_op op_mulB (pe_op op_add (pe_op op_add (pe_op op_mod (pv 0) pe_int) (pe_op op_mulB pe_int (pv 1))) pe_int) pe_int) pe_int))
      (pss_cons (ps_set (i := 2) sc_law_mixed.nd rfl (by first | exact Or.inl rfl | exact Or.inr rfl) (pe_op op_mod (pe_op op_mulB (pv 2) (pe_op op_add (pe_op op_fdivB (pv 2) pe_int) pe_int)) pe_int))
      (pss_one (ps_ret (pe_op op_mod (pe_op op_mulB (pv 2) (pe_op op_add (pe_op op_add (pe_op op_fdivB (pv 2) pe_int) pe_int) (pv 1))) pe_int)))))), ?_⟩
  walk_at "rd"
  refine ite2d (fun c1 => ?_) (fun c1 => ?_)
  · rw [if_pos (V.int.inj c1)] at q
    walk_at "rd"
    refine rd_i ⟨64, 64, by unfold Bt; omega, by unfold Bt; omega, by decide⟩ ?_
    walk_at "rd"
    refine rd_i (show (0 : Int) ≤ 41 * k by omega) ?_
    walk_at "rd"
    exact q
  rw [if_neg fun z => c1 (congrArg V.int z)] at q
  walk_at "rd"
  refine rd_i ⟨64, 64, by unfold Bt; omega, by unfold Bt; omega, by decide⟩ ?_
  walk_at "rd"
  refine rd_i ⟨64, 64, by unfold Bt; omega, by unfold Bt; omega, by decide⟩ ?_
  walk_at "rd"
  generalize h1 : (c % 2147483647 + 7919 * k + 1) * 48271 % 2147483647 = x at q ⊢
  have x0 : 0 ≤ x := by rw [← h1]; exact Int.emod_nonneg _ (by decide)
  have x1 : x < 2147483647 := by rw [← h1]; exact Int.emod_lt_of_pos _ (by decide)
  refine rd_i ⟨64, 64, by unfold Bt; omega, by unfold Bt; omega, by decide⟩ ?_
  walk_at "rd"
  generalize h2 : x * (x / 1009 + 69621) % 2147483647 = y at q ⊢
  have y0 : 0 ≤ y := by rw [← h2]; exact Int.emod_nonneg _ (by decide)
  have y1 : y < 2147483647 := by rw [← h2]; exact Int.emod_lt_of_pos _ (by decide)
  refine rd_i ⟨64, 64, by unfold Bt; omega, by unfold Bt; omega, by decide⟩ ?_
  walk_at "rd"
  exact q
theorem sc_law_any_term : FnScope ["_law_cell", "_law_k", "_law_most", "_law_n", "_law_a"] ["_law_cell", "_law_k", "_law_most"] (defScope s_law_any_term) := ⟨rfl, rfl, rfl, by decide +kernel, rfl, by decide +kernel, by decide +kernel⟩
theorem ok_law_any_term {f : Addr} {fd : FuncData} (F : Fun K "_law_any_term" "_law_any_term" s_law_any_term f fd) (c__law_mixed : Cal P w K mg base 1 "_law_mixed" ["_law_cell", "_law_k"] spMixedD) : FnOk P w K mg base CX0 2 f fd ["_law_cell", "_law_k", "_law_most"] spAnyT := by
  refine F.ok (k := 1) sc_law_any_term (fun vs H Q E h => ?_) (fun cdv A outer s H vs Q E hr h => ?_)
  · obtain ⟨c, k, m, rfl, _⟩ := h
    rfl
  obtain ⟨c, k, m, rfl, k0, k1, m0, m1, q⟩ := h
  have hn : anyN c k m = 1 + mixF c (4 * k + 1) % m := rfl
  have n0 := Int.emod_nonneg (mixF c (4 * k + 1)) (show m ≠ 0 by omega)
  have n1 := Int.emod_lt_of_pos (mixF c (4 * k + 1)) (show 0 < m by omega)
  refine ⟨_, (pss_cons (ps_set (i := 3) sc_law_any_term.nd rfl (by first | exact Or.inl rfl | exact Or.inr rfl) (pe_op op_add pe_int (pe_op op_mod (pe_cal c__law_mixed (hr.mono (by decide)) rfl (pa_cons (pv 0) (pa_cons (pe_op op_add (pe_op op_mulB pe_int (pv 1)) pe_int) pa_nil))) (pv 2))))
      (pss_cons (ps_set (i := 4) sc_law_any_term.nd rfl (by first | exact Or.inl rfl | exact Or.inr rfl) (pe_op op_mod (pe_cal c__law_mixed (hr.mono (by decide)) rfl (pa_cons (pv 0) (pa_cons (pe_op op_add (pe_op op_mulB pe_int (pv 1)) pe_int) pa_nil))) (pe_op op_add (pv 3) pe_int)))
      (pss_one (ps_ret (pe_tup (pa_cons (pe_op op_sub pe_int (pe_op op_mulB pe_int (pe_op op_mod (pe_cal c__law_mixed (hr.mono (by decide)) rfl (pa_cons (pv 0) (pa_cons (pe_op op_add (pe_op op_mulB pe_int (pv 1)) pe_int) pa_nil))) pe_int))) (pa_cons (pv 4) (pa_cons (pe_op op_mod (pe_cal c__law_mixed (hr.mono (by decide)) rfl (pa_cons (pv 0) (pa_cons (pe_op op_add (pe_op op_mulB pe_int (pv 1)) pe_int) pa_nil))) (pv 3)) (pa_cons (pv 3) pa_nil))))))))), ?_⟩
  have mul : CMulB 4 k := ⟨64, 64, by unfold Bt; decide, by unfold Bt; omega, by decide⟩
  walk_at "rd"
  refine rd_i mul ?_
  walk_at "rd"
  refine ⟨c, _, rfl, by omega, by omega, ?_⟩
  walk_at "rd"
  rw [← hn]
  refine rd_i mul ?_
  walk_at "rd"
  refine ⟨c, _, rfl, by omega, by omega, ?_⟩
  walk_at "rd"
  refine rd_i mul ?_
  walk_at "rd"
  refine ⟨c, _, rfl, by omega, by omega, ?_⟩
  walk_at "rd"
  refine rd_i ⟨64, 64, by unfold Bt; decide, by unfold Bt; omega, by decide⟩ ?_
  walk_at "rd"
  refine rd_i mul ?_
  walk_at "rd"
  refine ⟨c, _, rfl, by omega, by omega, ?_⟩
  walk_at "rd"
  refine ⟨(by show 4 ≤ sizeLine; decide), fun p hp => ?_⟩
  exact q p _ (same_new hp _) upd_same
theorem sc_law_any_terms : FnScope ["_law_cell", "_law_most"] ["_law_cell"] (defScope s_law_any_terms) := ⟨rfl, rfl, rfl, by decide +kernel, rfl, by decide +kernel, by decide +kernel⟩
theorem ok_law_any_terms {f : Addr} {fd : FuncData} (F : Fun K "_law_any_terms" "_law_any_terms" s_law_any_terms f fd) (c__law_any_term : Cal P w K mg base 2 "_law_any_term" ["_law_cell", "_law_k", "_law_most"] spAnyT) (z_range : mg "range" = none) : FnOk P w K mg base CX0 3 f fd ["_law_cell"] (spAnyTs K) := by
  refine F.ok (k := 2) sc_law_any_terms (fun vs H Q E h => ?_) (fun cdv A outer s H vs Q E hr h => ?_)
  · obtain ⟨c, rfl, _⟩ := h
    rfl
  obtain ⟨c, rfl, q⟩ := h
  have hM := anyM_b c
  have eM : pk4 2 5 30 1000 (c / 7 % 4) = anyM c := rfl
  refine ⟨_, (pss_cons (ps_set (i := 1) sc_law_any_terms.nd rfl (by first | exact Or.inl rfl | exact Or.inr rfl) (pe_ix ix_list (pe_lst (pa_cons pe_int (pa_cons pe_int (pa_cons pe_int (pa_cons pe_int pa_nil))))) (pe_op op_mod (pe_op op_fdivB (pv 0) pe_int) pe_int) (fun _ _ => rfl)))
      (pss_one (ps_ret (pe_comp rfl (compOk_freeM ["_law_cell", "_law_most"] ["_law_cell", "_law_most"] rfl rfl (by with_unfolding_all rfl) (by decide +kernel) rfl (by decide +kernel) rfl (by decide +kernel) (by walk_at "fm") (by with_unfolding_all rfl) (by with_unfolding_all rfl)) (pi_range1 rfl z_range (pa_cons (pe_op op_mod (pv 0) pe_int) pa_nil)) (fun _ _ _ _ => pifs_nil) (fun _ _ _ _ => (pe_cal c__law_any_term (hr.mono (by decide)) rfl (pa_cons (pe_op op_fdivB (pv 1) pe_int) (pa_cons (pv 0) (pa_cons (pv 2) pa_nil))))))))), ?_⟩
  walk_at "rd"
  refine ⟨(by show 4 ≤ sizeLine; decide), fun l hl => ?_⟩
  have s1 := same_new hl (.lst [.int 2, .int 5, .int 30, .int 1000])
  have t1 : upd H l (.lst [.int 2, .int 5, .int 30, .int 1000]) l = some (.lst (([2, 5, 30, 1000] : List Int).map V.int)) := upd_same
  generalize upd H l (.lst [.int 2, .int 5, .int 30, .int 1000]) = H1 at s1 t1 ⊢
  walk_at "rd"
  refine rd_ixL (SqL.of t1) (at_pk4 _) ?_
  rw [eM]
  walk_at "rd"
  refine rd_comp (rd_rng1 ?_)
  walk_at "rd"
  refine ⟨c % 7, rfl, by omega, by omega, ?_⟩
  refine comp_inv walk_r (by rw [List.length_map, List.length_range]; exact small1000 (by omega)) (fun D i ys H2 => H2 D = some (.lst ys) ∧ Same H1 H2 ∧ i ≤ 7 ∧ Tms H2 ys ((List.range i).map fun j : Nat => anyT (c / 28) (j : Int) (anyM c))) (fun D hD => ⟨upd_same, same_new hD _, by omega, .nil⟩)
    (fun D i ys H2 _ ⟨h1, _, h5, h3⟩ => ⟨h1, by rw [h3.len, List.length_map, List.length_range]; omega, trivial⟩) (fun D i x ys H2 hD hx ⟨h1, h2, h5, h3⟩ => ?_) (fun D ys H2 hD ⟨h1, h2, h5, h3⟩ => ?_)
  · rw [List.getElem?_map] at hx
    obtain ⟨j, hj, rfl⟩ := Option.map_eq_some_iff.mp hx
    have jl : j < (c % 7).toNat := List.mem_range.mp (List.mem_of_getElem? hj)
    have ej : j = i := by
      have := List.getElem?_eq_some_iff.mp hj
      obtain ⟨h, e⟩ := this
      rw [List.getElem_range] at e
      exact e.symm
    subst ej
    refine rd_true (iteT ?_)
    walk_at "rd"
    rw [Int.zero_add]
    refine ⟨_, _, _, rfl, by omega, by omega, hM.1, hM.2, fun p H3 s3 hp => ⟨s3 _ _ h1, upd_same, same_app hD (h2.trans s3), by omega, ?_⟩⟩
    rw [List.range_succ, List.map_append]
    exact Tms.upd (s3 _ _ h1) (Tms.snoc hp (h3.same s3))
  · rw [List.length_map, List.length_range] at h3
    exact q D ys H2 (s1.trans h2) ⟨h1, h3, anyTs_ok c, anyTs_few c⟩
theorem sc_law_any_measure : FnScope ["_law_cell", "_law_most", "_law_terms", "_law_falls", "_law_far"] ["_law_cell", "_law_most"] (defScope s_law_any_measure) := ⟨rfl, rfl, rfl, by decide +kernel, rfl, by decide +kernel, by decide +kernel⟩
theorem ok_law_any_measure {f : Addr} {fd : FuncData} (F : Fun K "_law_any_measure" "_law_any_measure" s_law_any_measure f fd) (er : Errs K mg c_FeastError c_NoNumber c_TooLong c_NoMeasure c_NoDate c_Measure c_Calendar c_Sun c_Moon) (c__law_any_terms : Cal P w K mg base 3 "_law_any_terms" ["_law_cell"] (spAnyTs K)) (c__law_mixed : Cal P w K mg base 1 "_law_mixed" ["_law_cell", "_law_k"] spMixedD) (c_Measure___init__ : CalI P w K mg base CX0 5 "Measure" c_Measure ["self", "base", "terms"] (spInitM K c_Measure)) (z_len : mg "len" = none) (z_min : mg "min" = none) : FnOk P w K mg base CX0 7 f fd ["_law_cell", "_law_most"] (spAnyMe K c_Measure) := by
  refine F.ok (k := 6) sc_law_any_measure (fun vs H Q E h => ?_) (fun cdv A outer s H vs Q E hr h => ?_)
  · obtain ⟨c, mo, rfl, _⟩ := h
    rfl
  obtain ⟨c, mo, rfl, m0, m1, q⟩ := h
  refine ⟨_, (pss_cons (ps_set (i := 2) sc_law_any_measure.nd rfl (by first | exact Or.inl rfl | exact Or.inr rfl) (pe_cal c__law_any_terms (hr.mono (by decide)) rfl (pa_cons (pv 0) pa_nil)))
      (pss_cons (ps_set (i := 3) sc_law_any_measure.nd rfl (by first | exact Or.inl rfl | exact Or.inr rfl) (pe_callB call_len_seq rfl z_len PySem.boot_len (pa_cons (pe_comp rfl (compOk_nil ["_law_cell", "_law_most", "_law_terms", "_law_falls", "_law_far"] rfl (by decide +kernel) rfl (by decide +kernel) rfl (by decide +kernel) (by decide +kernel)) (pi_list (pv 2)) (fun _ _ _ _ => (pifs_one (pt_cmpR op_eq (pe_ix ix_tup_c (pv 0) pe_int (fun _ _ => rfl)) (pe_un un_neg pe_int) (nomark _)))) (fun _ _ _ _ => (pv 0))) pa_nil)))
      (pss_cons (ps_set (i := 4) sc_law_any_measure.nd rfl (by first | exact Or.inl rfl | exact Or.inr rfl) (pe_op op_mod (pe_cal c__law_mixed (hr.mono (by decide)) rfl (pa_cons (pe_op op_fdivB (pv 0) pe_int) (pa_cons pe_int pa_nil))) (pe_ix ix_list (pe_lst (pa_cons pe_int (pa_cons (pv 1) pa_nil))) (pe_op op_mod (pe_cal c__law_mixed (hr.mono (by decide)) rfl (pa_cons (pe_op op_fdivB (pv 0) pe_int) (pa_cons pe_int pa_nil))) pe_int) (fun _ _ => rfl))))
      (pss_one (ps_ret (pe_mk c_Measure___init__ (hr.mono (by decide)) rfl (pa_cons (pe_callB (call_min2 rfl) rfl z_min PyProof.Rows.boot_min (pa_cons (pv 1) (pa_cons (pe_op op_add (pe_op op_add (pv 3) pe_int) (pv 4)) pa_nil))) (pa_cons (pv 2) pa_nil)))))))), ?_⟩
  walk_at "rd"
  refine ⟨_, rfl, fun l us H1 s1 T => ?_⟩
  have ul := T.tm.len
  have few := T.few
  walk_at "rd"
  refine comp_l rfl (SqL.of T.li) (by rw [ul]; exact small1000 (by omega)) (fun v => ((tmAt H1 v).map fun t => decide (t.1 = -1)).getD false) (fun v => v) (fun x hx D ys Q' hD h => ?_) (fun x hx _ D ys Q' hD h => ⟨_, rfl, h⟩) (fun D4 hD4 => ?_)
  · obtain ⟨a, t, rfl, ht, ha⟩ := T.tm.mem hx
    rw [tmAt_eq ha] at h
    walk_at "rd"
    refine rd_ixT (SqT.of (same_new hD _ _ _ ha)) at40 ?_
    walk_at "rd"
    rw [dec_int0]
    exact h
  have e : ((((us.filter fun v => ((tmAt H1 v).map fun t => decide (t.1 = -1)).getD false).map fun v => v).length : Nat) : Int) = falls (anyTs c) := by
    have := congrArg List.length (T.tm.fm (fun t => decide (t.1 = -1)) (fun _ => V.non))
    rw [List.length_map, List.length_map] at this
    rw [List.length_map, this]
    rfl
  have s2 := same_new hD4 (.lst ((us.filter fun v => ((tmAt H1 v).map fun t => decide (t.1 = -1)).getD false).map fun v => v))
  have t2 : upd H1 D4 (.lst ((us.filter fun v => ((tmAt H1 v).map fun t => decide (t.1 = -1)).getD false).map fun v => v)) D4 = some (.lst ((us.filter fun v => ((tmAt H1 v).map fun t => decide (t.1 = -1)).getD false).map fun v => v)) := upd_same
  generalize upd H1 D4 (.lst ((us.filter fun v => ((tmAt H1 v).map fun t => decide (t.1 = -1)).getD false).map fun v => v)) = H2 at s2 t2 ⊢
  generalize ((us.filter fun v => ((tmAt H1 v).map fun t => decide (t.1 = -1)).getD false).map fun v => v) = fl at e t2 ⊢
  walk_at "rd"
  refine ⟨D4, _, rfl, .inl (SqL.of t2), ?_⟩
  rw [e]
  have T2 := T.same s2
  walk_at "rd"
  refine ⟨_, _, rfl, by decide, by decide, ?_⟩
  walk_at "rd"
  refine ⟨two, fun l3 hl3 => ?_⟩
  have s3 := same_new hl3 (.lst [.int 3, .int mo])
  have t3 : upd H2 l3 (.lst [.int 3, .int mo]) l3 = some (.lst (([3, mo] : List Int).map V.int)) := upd_same
  generalize upd H2 l3 (.lst [.int 3, .int mo]) = H3 at s3 t3 ⊢
  walk_at "rd"
  refine ⟨_, _, rfl, by decide, by decide, ?_⟩
  walk_at "rd"
  refine rd_ixL (SqL.of t3) (at_pk2 _) ?_
  have pp := pk2_pos (a := 3) (b := mo) (i := mixF (c / 28) 31 % 2) (by omega) (by omega)
  have T3 := T2.same s3
  walk_at "rd"
  try refine rd_i (show 0 < pk2 3 mo (mixF (c / 28) 31 % 2) by omega) ?_
  try walk_at "rd"
  refine ⟨_, _, rfl, ?_⟩
  have eB : (if falls (anyTs c) + 1 + mixF (c / 28) 30 % pk2 3 mo (mixF (c / 28) 31 % 2) < mo then falls (anyTs c) + 1 + mixF (c / 28) 30 % pk2 3 mo (mixF (c / 28) 31 % 2) else mo) = anyB c mo := rfl
  rw [eB]
  obtain ⟨b0, b1⟩ := anyB_ok c m0
  have Pp := T3.per
  walk_at "rd"
  refine fun y dy hy hdy ne => init_me hy hdy ne T3.tm (.inr ⟨l, rfl, T3.li⟩) T3.ok T3.few (good_m b0 (by omega)) (UP_pos T3.ok b0 Pp.1) fun H7 s7 N7 => ⟨rfl, ?_⟩
  exact q y _ ((s1.trans s2).trans (s3.trans s7)) N7
theorem sc_law_any : FnScope ["_law_script", "_law_start", "_law_one", "_law_two", "_law_terms", "_law_falls", "_law_many", "_law_lengths", "_law_leap"] ["_law_script"] (defScope s_law_any) := ⟨rfl, rfl, rfl, by decide +kernel, rfl, by decide +kernel, by decide +kernel⟩
theorem ok_law_any {f : Addr} {fd : FuncData} (F : Fun K "_law_any" "_law_any" s_law_any f fd) (er : Errs K mg c_FeastError c_NoNumber c_TooLong c_NoMeasure c_NoDate c_Measure c_Calendar c_Sun c_Moon) (c__law_number : Cal P w K mg base 1 "_law_number" ["_law_cell"] spNumB) (c__law_cell_at : Cal P w K mg base 1 "_law_cell_at" ["_law_script", "_law_k"] (spCell K)) (c_Moon___init__ : CalI P w K mg base CX0 3 "Moon" c_Moon ["self", "start", "days", "many"] (spInitMo K c_Moon c_Measure)) (c__law_any_measure : Cal P w K mg base 7 "_law_any_measure" ["_law_cell", "_law_most"] (spAnyMe K c_Measure)) (c__law_any_terms : Cal P w K mg base 3 "_law_any_terms" ["_law_cell"] (spAnyTs K)) (c__law_mixed : Cal P w K mg base 1 "_law_mixed" ["_law_cell", "_law_k"] spMixedD) (c_Sun___init__ : CalI P w K mg base CX0 7 "Sun" c_Sun ["self", "start", "lengths", "leap", "terms"] (spInitS K c_Sun c_Measure)) (z_len : mg "len" = none) (z_range : mg "range" = none) (z_max : mg "max" = none) : FnOk P w K mg base CX0 9 f fd ["_law_script"] (spAny40 K c_Sun c_Moon c_Measure) := by
  refine F.ok (k := 8) sc_law_any (fun vs H Q E h => ?_) (fun cdv A outer s H vs Q E hr h => ?_)
  · obtain ⟨a, ns, rfl, _⟩ := h
    rfl
  obtain ⟨a, ns, rfl, hS, h63, q⟩ := h
  refine ⟨_, (pss_cons (ps_set (i := 1) sc_law_any.nd rfl (by first | exact Or.inl rfl | exact Or.inr rfl) (pe_cal c__law_number (hr.mono (by decide)) rfl (pa_cons (pe_cal c__law_cell_at (hr.mono (by decide)) rfl (pa_cons (pv 0) (pa_cons pe_int pa_nil))) pa_nil)))
      (pss_cons (ps_set (i := 2) sc_law_any.nd rfl (by first | exact Or.inl rfl | exact Or.inr rfl) (pe_cal c__law_cell_at (hr.mono (by decide)) rfl (pa_cons (pv 0) (pa_cons pe_int pa_nil))))
      (pss_cons (ps_set (i := 3) sc_law_any.nd rfl (by first | exact Or.inl rfl | exact Or.inr rfl) (pe_cal c__law_cell_at (hr.mono (by decide)) rfl (pa_cons (pv 0) (pa_cons pe_int pa_nil))))
      (pss_cons (ps_if (pt_cmpR op_eq (pe_op op_mod (pv 2) pe_int) pe_int (nomark _))
        (pss_one (ps_ret (pe_mk c_Moon___init__ (hr.mono (by decide)) rfl (pa_cons (pv 1) (pa_cons (pe_cal c__law_any_measure (hr.mono (by decide)) rfl (pa_cons (pe_op op_fdivB (pv 2) pe_int) (pa_cons pe_int pa_nil))) (pa_cons (pe_cal c__law_any_measure (hr.mono (by decide)) rfl (pa_cons (pv 3) (pa_cons pe_int pa_nil))) pa_nil))))))
        pss_nil)
      (pss_cons (ps_set (i := 4) sc_law_any.nd rfl (by first | exact Or.inl rfl | exact Or.inr rfl) (pe_cal c__law_any_terms (hr.mono (by decide)) rfl (pa_cons (pe_op op_fdivB (pv 2) pe_int) pa_nil)))
      (pss_cons (ps_set (i := 5) sc_law_any.nd rfl (by first | exact Or.inl rfl | exact Or.inr rfl) (pe_callB call_len_seq rfl z_len PySem.boot_len (pa_cons (pe_comp rfl (compOk_nil ["_law_script", "_law_start", "_law_one", "_law_two", "_law_terms", "_law_falls", "_law_many", "_law_lengths", "_law_leap"] rfl (by decide +kernel) rfl (by decide +kernel) rfl (by decide +kernel) (by decide +kernel)) (pi_list (pv 4)) (fun _ _ _ _ => (pifs_one (pt_cmpR op_eq (pe_ix ix_tup_c (pv 0) pe_int (fun _ _ => rfl)) (pe_un un_neg pe_int) (nomark _)))) (fun _ _ _ _ => (pv 0))) pa_nil)))
      (pss_cons (ps_set (i := 6) sc_law_any.nd rfl (by first | exact Or.inl rfl | exact Or.inr rfl) (pe_op op_add pe_int (pe_op op_mod (pe_op op_fdivB (pv 3) pe_int) pe_int)))
      (pss_cons (ps_setComp (i := 7) sc_law_any.nd rfl (by first | exact Or.inl rfl | exact Or.inr rfl) rfl (compOk_freeM ["_law_script", "_law_start", "_law_one", "_law_two", "_law_terms", "_law_falls", "_law_many", "_law_lengths", "_law_leap"] ["_law_script", "_law_start", "_law_one", "_law_two", "_law_terms", "_law_falls", "_law_many", "_law_lengths", "_law_leap"] rfl rfl (by with_unfolding_all rfl) (by decide +kernel) rfl (by decide +kernel) rfl (by decide +kernel) (by walk_at "fm") (by with_unfolding_all rfl) (by with_unfolding_all rfl)) (pi_range1 rfl z_range (pa_cons (pv 6) pa_nil)) (fun _ _ _ _ => pifs_nil) (fun _ _ _ _ => (pe_op op_mod (pe_cal c__law_mixed (hr.mono (by decide)) rfl (pa_cons (pe_op op_fdivB (pv 4) pe_int) (pa_cons (pv 0) pa_nil))) (pe_ix ix_list_c (pe_lst (pa_cons pe_int (pa_cons pe_int (pa_cons pe_int (pa_cons pe_int pa_nil))))) (pe_op op_mod (pv 4) pe_int) (fun _ _ => rfl)))))
      (pss_cons (ps_set (i := 8) sc_law_any.nd rfl (by first | exact Or.inl rfl | exact Or.inr rfl) (pe_op op_add pe_int (pe_op op_mod (pe_cal c__law_mixed (hr.mono (by decide)) rfl (pa_cons (pe_op op_fdivB (pv 3) pe_int) (pa_cons pe_int pa_nil))) (pv 6))))
      (pss_cons (ps_asg (pe_callB (call_max2 rfl) rfl z_max PyProof.Rows.boot_max (pa_cons (pe_ix ix_list (pv 7) (pe_op op_sub (pv 8) pe_int) (fun _ _ => rfl)) (pa_cons (pe_op op_add (pv 5) pe_int) pa_nil))) (pg_sub (pv 7) (pe_op op_sub (pv 8) pe_int) set_list))
      (pss_one (ps_ret (pe_mk c_Sun___init__ (hr.mono (by decide)) rfl (pa_cons (pv 1) (pa_cons (pv 7) (pa_cons (pv 8) (pa_cons (pv 4) pa_nil))))))))))))))))), ?_⟩
  walk_at "rdc"
  refine ⟨_, rfl, fun st H0 s0 st0 st1 => ?_⟩
  have bst : Bt 200 st := bt_of (by omega) (by omega)
  have hS0 := s0.seq hS
  have q := q (st := st)
  walk_at "rdc"
  unfold anyD at q
  have i9 : Int.toNat 9 = 9 := rfl
  have i10 : Int.toNat 10 = 10 := rfl
  rw [i9, i10]
  generalize hc1 : ns.getD 9 0 = c at *
  generalize hc2 : ns.getD 10 0 = u at *
  by_cases c1 : c % 3 = 2
  · rw [if_pos c1] at q
    refine iteD (congrArg V.int c1) ?_
    walk_at "rdc"
    refine ⟨_, _, rfl, by decide, by decide, fun x1 H1 s1 M1 => ?_⟩
    walk_at "rdc"
    refine ⟨_, _, rfl, by decide, by decide, fun x2 H2 s2 M2 => ?_⟩
    have M1 := M1.same s2
    have a1 := anyB_ok (c / 3) (mo := 1000) (by decide)
    have a2 := anyB_ok u (mo := 20) (by decide)
    walk_at "rdc"
    refine fun x dx hx hdx ne => init_moon hx hdx ne M1 M2 ⟨a1.1, a1.2, a2.1, a2.2, anyTs_ok _, anyTs_ok _, anyTs_few _, anyTs_few _⟩ (bst.mono (by decide)) fun H9 s9 S9 => ⟨rfl, ?_⟩
    exact q x _ (((s0.trans s1).trans s2).trans s9) bst S9
  rw [if_neg c1] at q
  refine iteN (fun y => c1 (V.int.inj y)) ?_
  walk_at "rdc"
  refine ⟨_, rfl, fun l us H1 s1 T => ?_⟩
  have ul := T.tm.len
  have few := T.few
  walk_at "rdc"
  refine comp_l rfl (SqL.of T.li) (by rw [ul]; exact small1000 (by omega)) (fun v => ((tmAt H1 v).map fun t => decide (t.1 = -1)).getD false) (fun v => v) (fun x hx D ys Q' hD h => ?_) (fun x hx _ D ys Q' hD h => ⟨_, rfl, h⟩) (fun D4 hD4 => ?_)
  · obtain ⟨a, t, rfl, ht, ha⟩ := T.tm.mem hx
    rw [tmAt_eq ha] at h
    walk_at "rdc"
    refine rd_ixT (SqT.of (same_new hD _ _ _ ha)) at40 ?_
    walk_at "rdc"
    rw [dec_int0]
    exact h
  have e : ((((us.filter fun v => ((tmAt H1 v).map fun t => decide (t.1 = -1)).getD false).map fun v => v).length : Nat) : Int) = falls (anyTs (c / 3)) := by
    have := congrArg List.length (T.tm.fm (fun t => decide (t.1 = -1)) (fun _ => V.non))
    rw [List.length_map, List.length_map] at this
    rw [List.length_map, this]
    rfl
  have s2 := same_new hD4 (.lst ((us.filter fun v => ((tmAt H1 v).map fun t => decide (t.1 = -1)).getD false).map fun v => v))
  have t2 : upd H1 D4 (.lst ((us.filter fun v => ((tmAt H1 v).map fun t => decide (t.1 = -1)).getD false).map fun v => v)) D4 = some (.lst ((us.filter fun v => ((tmAt H1 v).map fun t => decide (t.1 = -1)).getD false).map fun v => v)) := upd_same
  generalize upd H1 D4 (.lst ((us.filter fun v => ((tmAt H1 v).map fun t => decide (t.1 = -1)).getD false).map fun v => v)) = H2 at s2 t2 ⊢
  generalize ((us.filter fun v => ((tmAt H1 v).map fun t => decide (t.1 = -1)).getD false).map fun v => v) = fl at e t2 ⊢
  walk_at "rdc"
  refine ⟨D4, _, rfl, .inl (SqL.of t2), ?_⟩
  rw [e]
  have T2 := T.same s2
  have f6 := falls6 few
  have em : 1 + u / 4 % 20 = anyMany u := rfl
  have m0 : 1 ≤ anyMany u := by unfold anyMany; omega
  have m20 : anyMany u ≤ 20 := by unfold anyMany; omega
  have hg := anyL_good u T.ok T.few
  walk_at "rdc"
  rw [em]
  refine rd_comp (rd_rng1 ?_)
  walk_at "rdc"
  refine ⟨anyMany u, rfl, by omega, by omega, ?_⟩
  refine comp_inv walk_r (by rw [List.length_map, List.length_range]; exact small1000 (by omega)) (fun D i ys H3 => H3 D = some (.lst ys) ∧ Same H2 H3 ∧ i ≤ 20 ∧ ys = ((List.range i).map fun j : Nat => mixF (u / 80) (j : Int) % pk4 3 13 32 1001 (u % 4)).map V.int) (fun D hD => ⟨upd_same, same_new hD _, by omega, rfl⟩)
    (fun D i ys H3 _ ⟨h1, _, h4, h3⟩ => ⟨h1, by rw [h3, List.length_map, List.length_map, List.length_range]; omega, trivial⟩) (fun D i x ys H3 hD hx ⟨h1, h2, h4, h3⟩ => ?_) (fun D ys H3 hD ⟨h1, h2, h4, h3⟩ => ?_)
  · rw [List.getElem?_map] at hx
    obtain ⟨j, hj, rfl⟩ := Option.map_eq_some_iff.mp hx
    have jl : j < (anyMany u).toNat := List.mem_range.mp (List.mem_of_getElem? hj)
    have ej : j = i := by
      obtain ⟨h, e⟩ := List.getElem?_eq_some_iff.mp hj
      rw [List.getElem_range] at e
      exact e.symm
    subst ej
    refine rd_true (iteT ?_)
    walk_at "rdc"
    rw [Int.zero_add]
    refine ⟨_, _, rfl, by omega, by omega, ?_⟩
    walk_at "rdc"
    refine ⟨(by show 4 ≤ sizeLine; decide), fun l2 hl2 => ?_⟩
    have s4 := same_new hl2 (.lst [.int 3, .int 13, .int 32, .int 1001])
    have t4 : upd H3 l2 (.lst [.int 3, .int 13, .int 32, .int 1001]) l2 = some (.lst (([3, 13, 32, 1001] : List Int).map V.int)) := upd_same
    generalize upd H3 l2 (.lst [.int 3, .int 13, .int 32, .int 1001]) = H4 at s4 t4 ⊢
    walk_at "rdc"
    refine rd_ixL (SqL.of t4) (at_pk4 _) ?_
    have pp : 1 ≤ pk4 3 13 32 1001 (u % 4) := by
      unfold pk4
      split
      · omega
      · split
        · omega
        · split <;> omega
    walk_at "rdc"
    try refine rd_i (show 0 < pk4 3 13 32 1001 (u % 4) by omega) ?_
    try walk_at "rdc"
    refine ⟨s4 _ _ h1, upd_same, same_app hD (h2.trans s4), by omega, ?_⟩
    rw [h3, List.range_succ, List.map_append, List.map_append]
    rfl
  rw [List.length_map, List.length_range] at h3
  replace h3 : ys = (anyL0 u).map V.int := h3
  subst h3
  have T3 := T2.same h2
  have l0 : (anyL0 u).length = (anyMany u).toNat := by unfold anyL0; rw [List.length_map, List.length_range]
  walk_at "rdc"
  refine ⟨_, _, rfl, by decide, by decide, ?_⟩
  walk_at "rdc"
  have lp0 := Int.emod_nonneg (mixF (u / 80) 30) (show anyMany u ≠ 0 by omega)
  have lp1 := Int.emod_lt_of_pos (mixF (u / 80) 30) (show 0 < anyMany u by omega)
  have elp : 1 + mixF (u / 80) 30 % anyMany u = anyLp u := rfl
  rw [elp]
  unfold anyLs at q hg
  have ei : anyLp u - 1 = (((anyLp u - 1).toNat : Nat) : Int) := by omega
  generalize hi : (anyLp u - 1).toNat = i at ei hg q ⊢
  have il : i < (anyL0 u).length := by omega
  rw [ei]
  have hat : atI ((anyL0 u).map V.int) (i : Int) = some (V.int ((anyL0 u).getD i 0)) := by
    refine atI_nat ?_
    rw [List.getElem?_map, List.getD_eq_getElem?_getD, List.getElem?_eq_getElem il]
    rfl
  refine rd_ixL (SqL.of h1) hat ?_
  walk_at "rdc"
  refine ⟨_, _, rfl, ?_⟩
  walk_at "rdc"
  rw [ei]
  refine rd_setL h1 (by rw [List.length_map]; exact il) ?_
  rw [← List.map_set]
  generalize hls : (anyL0 u).set i (if falls (anyTs (c / 3)) + 1 > (anyL0 u).getD i 0 then falls (anyTs (c / 3)) + 1 else (anyL0 u).getD i 0) = ls at *
  have s5 : Same H2 (upd H3 D (.lst (ls.map V.int))) := same_app hD h2
  have t5 : upd H3 D (.lst (ls.map V.int)) D = some (.lst (ls.map V.int)) := upd_same
  generalize upd H3 D (.lst (ls.map V.int)) = H5 at s5 t5 ⊢
  have T5 := T2.same s5
  walk_at "rdc"
  refine fun x dx hx hdx ne => init_sun hx hdx ne t5 T5.tm (.inr ⟨l, rfl, T5.li⟩) hg (bst.mono (by decide)) fun H6 s6 S6 => ⟨rfl, ?_⟩
  exact q x _ ((s0.trans s1).trans (s2.trans (s5.trans s6))) bst S6
theorem sc_law_term : FnScope ["_law_cell", "_law_most", "_law_n", "_law_a"] ["_law_cell", "_law_most"] (defScope s_law_term) := ⟨rfl, rfl, rfl, by decide +kernel, rfl, by decide +kernel, by decide +kernel⟩
theorem ok_law_term {f : Addr} {fd : FuncData} (F : Fun K "_law_term" "_law_term" s_law_term f fd) : FnOk P w K mg base CX0 1 f fd ["_law_cell", "_law_most"] spTerm40 := by
  refine F.ok (k := 0) sc_law_term (fun vs H Q E h => ?_) (fun cdv A outer s H vs Q E hr h => ?_)
  · obtain ⟨c, m, rfl, _⟩ := h
    rfl
  obtain ⟨c, m, rfl, m0, m1, q⟩ := h
  refine ⟨_, (pss_cons (ps_set (i := 2) sc_law_term.nd rfl (by first | exact Or.inl rfl | exact Or.inr rfl) (pe_op op_add pe_int (pe_op op_mod (pv 0) (pv 1))))
      (pss_cons (ps_set (i := 3) sc_law_term.nd rfl (by first | exact Or.inl rfl | exact Or.inr rfl) (pe_op op_mod (pe_op op_fdivB (pv 0) (pv 1)) (pe_op op_add (pv 2) pe_int)))
      (pss_one (ps_ret (pe_tup (pa_cons (pe_op op_sub pe_int (pe_op op_mulB pe_int (pe_op op_mod (pe_op op_fdivB (pv 0) pe_int) pe_int))) (pa_cons (pv 3) (pa_cons (pe_op op_mod (pe_op op_fdivB (pv 0) pe_int) (pv 2)) (pa_cons (pv 2) pa_nil))))))))), ?_⟩
  walk_at "rd"
  have n0 := Int.emod_nonneg c (show m ≠ 0 by omega)
  have n1 := Int.emod_lt_of_pos c (show 0 < m by omega)
  generalize hn : 1 + c % m = n
  try refine rd_i (cdiv_small (by omega) (by omega)) ?_
  walk_at "rd"
  have a0 := Int.emod_nonneg (c / m) (show n + 1 ≠ 0 by omega)
  have a1 := Int.emod_lt_of_pos (c / m) (show 0 < n + 1 by omega)
  generalize c / m % (n + 1) = a at a0 a1 ⊢
  walk_at "rd"
  refine rd_i ⟨64, 64, by unfold Bt; decide, by unfold Bt; omega, by decide⟩ ?_
  walk_at "rd"
  have b0 := Int.emod_nonneg (c / 62) (show n ≠ 0 by omega)
  have b1 := Int.emod_lt_of_pos (c / 62) (show 0 < n by omega)
  generalize c / 62 % n = b at b0 b1 ⊢
  refine ⟨(by show 4 ≤ sizeLine; decide), fun p hp => ?_⟩
  exact q p (1 - 2 * (c / 31 % 2), a, b, n) _ (same_new hp _) upd_same ⟨by show 1 - 2 * (c / 31 % 2) = 1 ∨ 1 - 2 * (c / 31 % 2) = -1; omega, by show 1 ≤ n; omega, by show n ≤ 1000; omega, a0, by show a ≤ n; omega, b0, b1⟩ (by show n ≤ m; omega)
theorem sc_law_sun : FnScope ["_law_script", "_law_start", "_law_one", "_law_many", "_law_rest", "_law_lengths", "_law_k", "_law_two", "_law_leap", "_law_terms"] ["_law_script"] (defScope s_law_sun) := ⟨rfl, rfl, rfl, by decide +kernel, rfl, by decide +kernel, by decide +kernel⟩
theorem ok_law_sun {f : Addr} {fd : FuncData} (F : Fun K "_law_sun" "_law_sun" s_law_sun f fd) (er : Errs K mg c_FeastError c_NoNumber c_TooLong c_NoMeasure c_NoDate c_Measure c_Calendar c_Sun c_Moon) (c__law_number : Cal P w K mg base 1 "_law_number" ["_law_cell"] spNumB) (c__law_cell_at : Cal P w K mg base 1 "_law_cell_at" ["_law_script", "_law_k"] (spCell K)) (c_Sun___init__ : CalI P w K mg base CX0 7 "Sun" c_Sun ["self", "start", "lengths", "leap", "terms"] (spInitS K c_Sun c_Measure)) (c_Sun___init___d2 : CalID P w K mg base CX0 7 "Sun" c_Sun ["self", "start", "lengths", "leap", "terms"] [(.int 1), .non] (spInitS K c_Sun c_Measure)) (c__law_term : Cal P w K mg base 1 "_law_term" ["_law_cell", "_law_most"] spTerm40) (z_range : mg "range" = none) : FnOk P w K mg base CX0 9 f fd ["_law_script"] (spCal40 K c_Sun c_Moon c_Measure) := by
  refine F.ok (k := 8) sc_law_sun (fun vs H Q E h => ?_) (fun cdv A outer s H vs Q E hr h => ?_)
  · obtain ⟨a, ns, rfl, _⟩ := h
    rfl
  obtain ⟨a, ns, rfl, hS, h63, q⟩ := h
  refine ⟨_, (pss_cons (ps_set (i := 1) sc_law_sun.nd rfl (by first | exact Or.inl rfl | exact Or.inr rfl) (pe_cal c__law_number (hr.mono (by decide)) rfl (pa_cons (pe_cal c__law_cell_at (hr.mono (by decide)) rfl (pa_cons (pv 0) (pa_cons pe_int pa_nil))) pa_nil)))
      (pss_cons (ps_set (i := 2) sc_law_sun.nd rfl (by first | exact Or.inl rfl | exact Or.inr rfl) (pe_cal c__law_cell_at (hr.mono (by decide)) rfl (pa_cons (pv 0) (pa_cons pe_int pa_nil))))
      (pss_cons (ps_if (pt_cmpR op_eq (pe_op op_mod (pv 2) pe_int) pe_int (nomark _))
        (pss_one (ps_ret (pe_mk c_Sun___init__ (hr.mono (by decide)) rfl (pa_cons (pv 1) (pa_cons (pe_ints (ns := [31, 28, 31, 30, 31, 30, 31, 31, 30, 31, 30, 31]) rfl) (pa_cons pe_int (pa_cons (pe_lst (pa_cons (pe_tup (pa_cons pe_int (pa_cons pe_int (pa_cons (pe_op op_mod (pe_op op_fdivB (pv 2) pe_int) pe_int) (pa_cons pe_int pa_nil))))) pa_nil)) pa_nil)))))))
        pss_nil)
      (pss_cons (ps_if (pt_cmpR op_eq (pe_op op_mod (pv 2) pe_int) pe_int (nomark _))
        (pss_one (ps_ret (pe_mkD c_Sun___init___d2 (hr.mono (by decide)) rfl (pa_cons (pv 1) (pa_cons (pe_op op_cat (pe_comp rfl (compOk_freeM ["_law_script", "_law_start", "_law_one", "_law_many", "_law_rest", "_law_lengths", "..", "_law_two", "_law_leap", "_law_terms"] ["_law_script", "_law_start", "_law_one", "_law_many", "_law_rest", "_law_lengths", "_law_k", "_law_two", "_law_leap", "_law_terms"] rfl rfl (by with_unfolding_all rfl) (by decide +kernel) rfl (by decide +kernel) rfl (by decide +kernel) (by walk_at "fm") (by with_unfolding_all rfl) (by with_unfolding_all rfl)) (pi_range1 rfl z_range (pa_cons pe_int pa_nil)) (fun _ _ _ _ => pifs_nil) (fun _ _ _ _ => (pe_op op_mod (pe_op op_fdivB (pv 3) (pe_op op_add pe_int (pe_op op_mulB pe_int (pv 0)))) pe_int))) (pe_lst (pa_cons pe_int pa_nil))) pa_nil)))))
        pss_nil)
      (pss_cons (ps_if (pt_cmpR op_eq (pe_op op_mod (pv 2) pe_int) pe_int (nomark _))
        (pss_one (ps_ret (pe_mk c_Sun___init__ (hr.mono (by decide)) rfl (pa_cons (pv 1) (pa_cons (pe_lst (pa_cons pe_int (pa_cons pe_int (pa_cons pe_int (pa_cons pe_int pa_nil))))) (pa_cons pe_int (pa_cons (pe_lst (pa_cons (pe_tup (pa_cons pe_int (pa_cons pe_int (pa_cons pe_int (pa_cons pe_int pa_nil))))) (pa_cons (pe_tup (pa_cons (pe_un un_neg pe_int) (pa_cons pe_int (pa_cons pe_int (pa_cons pe_int pa_nil))))) (pa_cons (pe_tup (pa_cons pe_int (pa_cons pe_int (pa_cons pe_int (pa_cons pe_int pa_nil))))) pa_nil)))) pa_nil)))))))
        pss_nil)
      (pss_cons (ps_set (i := 3) sc_law_sun.nd rfl (by first | exact Or.inl rfl | exact Or.inr rfl) (pe_op op_add pe_int (pe_op op_mod (pe_op op_fdivB (pv 2) pe_int) pe_int)))
      (pss_cons (ps_set (i := 4) sc_law_sun.nd rfl (by first | exact Or.inl rfl | exact Or.inr rfl) (pe_op op_fdivB (pv 2) pe_int))
      (pss_cons (ps_set (i := 5) sc_law_sun.nd rfl (by first | exact Or.inl rfl | exact Or.inr rfl) (pe_lst pa_nil))
      (pss_cons (ps_for PassesOwn.never rfl (pi_range1 rfl z_range (pa_cons (pv 3) pa_nil)) (pg_name (i := 6) sc_law_sun.nd rfl (by first | exact Or.inl rfl | exact Or.inr rfl))
        (pss_cons (ps_expr (pe_bm PySem.F.plainAttrs_list PySem.F.slot_list_append PySem.F.type_list_append mt_append (pv 5) (pa_cons (pe_op op_mod (pv 4) pe_int) pa_nil)))
      (pss_one (ps_set (i := 4) sc_law_sun.nd rfl (by first | exact Or.inl rfl | exact Or.inr rfl) (pe_op op_fdivB (pv 4) pe_int)))))
      (pss_cons (ps_set (i := 7) sc_law_sun.nd rfl (by first | exact Or.inl rfl | exact Or.inr rfl) (pe_cal c__law_cell_at (hr.mono (by decide)) rfl (pa_cons (pv 0) (pa_cons pe_int pa_nil))))
      (pss_cons (ps_set (i := 8) sc_law_sun.nd rfl (by first | exact Or.inl rfl | exact Or.inr rfl) (pe_op op_add pe_int (pe_op op_mod (pv 7) (pv 3))))
      (pss_cons (ps_asg (pe_op op_add (pe_ix ix_list (pv 5) (pe_op op_sub (pv 8) pe_int) (fun _ _ => rfl)) pe_int) (pg_sub (pv 5) (pe_op op_sub (pv 8) pe_int) set_list))
      (pss_cons (ps_set (i := 9) sc_law_sun.nd rfl (by first | exact Or.inl rfl | exact Or.inr rfl) (pe_lst (pa_cons (pe_cal c__law_term (hr.mono (by decide)) rfl (pa_cons (pe_op op_fdivB (pv 7) pe_int) (pa_cons pe_int pa_nil))) (pa_cons (pe_cal c__law_term (hr.mono (by decide)) rfl (pa_cons (pe_op op_fdivB (pv 7) pe_int) (pa_cons pe_int pa_nil))) pa_nil))))
      (pss_one (ps_ret (pe_mk c_Sun___init__ (hr.mono (by decide)) rfl (pa_cons (pv 1) (pa_cons (pv 5) (pa_cons (pv 8) (pa_cons (pe_slice sl_list (pv 9) po_none (po_some (pe_op op_mod (pe_op op_fdivB (pv 7) pe_int) pe_int))) pa_nil)))))))))))))))))))), ?_⟩
  walk_at "rdc"
  refine ⟨_, rfl, fun st H0 s0 st0 st1 => ?_⟩
  have bst : Bt 200 st := bt_of (by omega) (by omega)
  have hS0 := s0.seq hS
  walk_at "rdc"
  generalize ns.getD (Int.toNat 2) 0 = c
  by_cases c1 : c % 16 = 9
  · refine iteD (congrArg V.int c1) ?_
    walk_at "rdc"
    refine ⟨(by show 12 ≤ sizeLine; decide), fun l hl => ?_⟩
    have s1 := same_new hl (.lst (([31, 28, 31, 30, 31, 30, 31, 31, 30, 31, 30, 31] : List Int).map V.int))
    have t1 : upd H0 l (.lst (([31, 28, 31, 30, 31, 30, 31, 31, 30, 31, 30, 31] : List Int).map V.int)) l = some (.lst (([31, 28, 31, 30, 31, 30, 31, 31, 30, 31, 30, 31] : List Int).map V.int)) := upd_same
    generalize upd H0 l (.lst (([31, 28, 31, 30, 31, 30, 31, 31, 30, 31, 30, 31] : List Int).map V.int)) = H1 at s1 t1 ⊢
    walk_at "rdc"
    refine ⟨(by show 4 ≤ sizeLine; decide), fun p1 hp1 => ?_⟩
    have s2 := same_new hp1 (.tup [.int 1, .int 1, .int (c / 16 % 4), .int 4])
    have t2 : upd H1 p1 (.tup [.int 1, .int 1, .int (c / 16 % 4), .int 4]) p1 = some (.tup (tmV (1, 1, c / 16 % 4, 4))) := upd_same
    generalize upd H1 p1 (.tup [.int 1, .int 1, .int (c / 16 % 4), .int 4]) = H2 at s2 t2 ⊢
    walk_at "rdc"
    refine ⟨(by show 1 ≤ sizeLine; decide), fun l1 hl1 => ?_⟩
    have s3 := same_new hl1 (.lst [.ref p1])
    have t3 : upd H2 l1 (.lst [.ref p1]) l1 = some (.lst [.ref p1]) := upd_same
    generalize upd H2 l1 (.lst [.ref p1]) = H3 at s3 t3 ⊢
    have T3 : Tms H3 [.ref p1] [(1, 1, c / 16 % 4, 4)] := .cons (s3 _ _ t2) .nil
    have ok1 : ∀ t ∈ ([(1, 1, c / 16 % 4, 4)] : List Tm), OkT t := fun t ht => by
      cases List.mem_singleton.mp ht
      exact ⟨.inl rfl, by show (1 : Int) ≤ 4; decide, by show (4 : Int) ≤ 1000; decide, by show (0 : Int) ≤ 1; decide, by show (1 : Int) ≤ 4; decide, by show 0 ≤ c / 16 % 4; omega, by show c / 16 % 4 < 4; omega⟩
    have P1 : PER [(1, 1, c / 16 % 4, 4)] = 4 := by show lcmI 1 4 = 4; decide
    have f1 : falls ([(1, 1, c / 16 % 4, 4)] : List Tm) = 0 := by show (([(1, 1, c / 16 % 4, 4)] : List Tm).filter fun t => decide (t.1 = -1)).length = (0 : Int); rfl
    have g : GoodS [31, 28, 31, 30, 31, 30, 31, 31, 30, 31, 30, 31] 2 [(1, 1, c / 16 % 4, 4)] := ⟨by decide, by decide, by decide, by decide, by decide, by rw [f1]; decide, by rw [f1]; decide, ok1, by show 1 ≤ 6; decide⟩
    walk_at "rdc"
    refine fun x dx hx hdx ne => init_sun hx hdx ne (s3 _ _ (s2 _ _ t1)) T3 (.inr ⟨l1, rfl, t3⟩) g (bst.mono (by decide)) fun H6 s6 S6 => ⟨rfl, ?_⟩
    have cb := cyS (s := st) g (B := 366) (N := 4) (by show (365 : Int) + 1 ≤ 366; decide) (by rw [P1]; decide) (by decide) (by decide) (by decide)
    exact q x (.sun st _ _ _) _ ((s0.trans s1).trans ((s2.trans s3).trans s6)) S6 cb.1 cb.2 bst
  refine iteN (fun y => c1 (V.int.inj y)) ?_
  walk_at "rdc"
  by_cases c2 : c % 16 = 11
  · refine iteD (congrArg V.int c2) ?_
    walk_at "rdc"
    refine rd_comp (rd_rng1 ?_)
    walk_at "rdc"
    refine ⟨11, rfl, by omega, by omega, ?_⟩
    refine comp_inv walk_r (by rw [List.length_map, List.length_range]; exact small1000 (by decide)) (fun D i ys H3 => H3 D = some (.lst ys) ∧ Same H0 H3 ∧ ∃ ls : List Int, ys = ls.map V.int ∧ (∀ n ∈ ls, 0 ≤ n ∧ n ≤ 31) ∧ ls.length = i) (fun D hD => ⟨upd_same, same_new hD _, [], rfl, (fun t ht => nomatch ht), rfl⟩)
      (fun D i ys H3 _ ⟨h1, _, ls, h3, _, h5⟩ => ⟨h1, by rw [h3, List.length_map]; omega, trivial⟩) (fun D i x ys H3 hD hx ⟨h1, h2, ls, h3, h4, h5⟩ => ?_) (fun D ys H3 hD ⟨h1, h2, ls, h3, h4, h5⟩ => ?_)
    · rw [List.getElem?_map] at hx
      obtain ⟨j, hj, rfl⟩ := Option.map_eq_some_iff.mp hx
      have jl : j < (11 : Int).toNat := List.mem_range.mp (List.mem_of_getElem? hj)
      have jl' : j < 11 := jl
      refine rd_true (iteT ?_)
      walk_at "rdc"
      rw [Int.zero_add]
      refine rd_i ⟨64, 64, by unfold Bt; decide, by unfold Bt; omega, by decide⟩ ?_
      walk_at "rdc"
      refine rd_i (cdiv_small (by omega) (by omega)) ?_
      walk_at "rdc"
      generalize c / (16 + 40 * (j : Int)) = v
      refine ⟨h1, upd_same, same_app hD h2, ls ++ [v % 32], by rw [h3, List.map_append]; rfl, fun n hn => ?_, by rw [List.length_append, h5]; rfl⟩
      rcases List.mem_append.mp hn with z | z
      · exact h4 n z
      · cases List.mem_singleton.mp z
        omega
    rw [List.length_map, List.length_range] at h5
    replace h5 : ls.length = 11 := h5
    subst h3
    walk_at "rdc"
    refine ⟨(by show 1 ≤ sizeLine; decide), fun l1 hl1 => ?_⟩
    have s4 := same_new hl1 (.lst [.int 31])
    have t4 : upd H3 l1 (.lst [.int 31]) l1 = some (.lst [.int 31]) := upd_same
    generalize upd H3 l1 (.lst [.int 31]) = H4 at s4 t4 ⊢
    refine ⟨D, l1, _, _, rfl, rfl, s4 _ _ h1, t4, ?_, fun y hy => ?_⟩
    · rw [List.length_map, h5]
      exact Nat.le_of_lt (small1000 (by show 11 + 1 ≤ 1000; decide))
    have s5 := same_new hy (.lst (ls.map V.int ++ [.int 31]))
    have t5 : upd H4 y (.lst (ls.map V.int ++ [.int 31])) y = some (.lst ((ls ++ [31]).map V.int)) := by rw [upd_same, List.map_append]; rfl
    generalize upd H4 y (.lst (ls.map V.int ++ [.int 31])) = H5 at s5 t5 ⊢
    have hm : ∀ n ∈ ls ++ [31], 0 ≤ n ∧ n ≤ 31 := fun n hn => by
      rcases List.mem_append.mp hn with z | z
      · exact h4 n z
      · cases List.mem_singleton.mp z
        decide
    have hl : (ls ++ [31]).length = 12 := by rw [List.length_append, h5]; rfl
    have hsum := sum_leB hm
    have hs0 := sum_leB h4
    have hpos : 31 ≤ (ls ++ [31]).sum := by
      rw [List.sum_append]
      show 31 ≤ ls.sum + (31 + 0)
      omega
    rw [hl] at hsum
    have g0 := (hm _ (getD_mem' (ls := ls ++ [31]) (i := 0) (by omega))).1
    generalize ls ++ [31] = L at *
    have g : GoodS L 1 [] := ⟨by omega, by omega, fun n hn => ⟨(hm n hn).1, by have := (hm n hn).2; omega⟩, by decide, by omega, g0, (by show (0 : Int) < L.sum; omega), (fun t ht => nomatch ht), by decide⟩
    walk_at "rdc"
    refine fun x dx hx hdx ne => init_sun hx hdx ne t5 .nil (.inl ⟨rfl, rfl⟩) g (bst.mono (by decide)) fun H6 s6 S6 => ⟨rfl, ?_⟩
    have cb := cyS (s := st) g (B := 372) (N := 1) (by show L.sum + 0 ≤ 372; omega) (by decide) (by decide) (by decide) (by decide)
    exact q x (.sun st _ _ _) _ ((s0.trans h2).trans (s4.trans (s5.trans s6))) S6 cb.1 cb.2 bst
  refine iteN (fun y => c2 (V.int.inj y)) ?_
  walk_at "rdc"
  by_cases c3 : c % 16 = 7
  · refine iteD (congrArg V.int c3) ?_
    walk_at "rdc"
    refine ⟨(by show 4 ≤ sizeLine; decide), fun l hl => ?_⟩
    have s1 := same_new hl (.lst [.int 3, .int 2, .int 4, .int 2])
    have t1 : upd H0 l (.lst [.int 3, .int 2, .int 4, .int 2]) l = some (.lst (([3, 2, 4, 2] : List Int).map V.int)) := upd_same
    generalize upd H0 l (.lst [.int 3, .int 2, .int 4, .int 2]) = H1 at s1 t1 ⊢
    walk_at "rdc"
    refine ⟨(by show 4 ≤ sizeLine; decide), fun p1 hp1 => ?_⟩
    have s2 := same_new hp1 (.tup [.int 1, .int 1, .int 3, .int 4])
    have t2 : upd H1 p1 (.tup [.int 1, .int 1, .int 3, .int 4]) p1 = some (.tup (tmV (1, 1, 3, 4))) := upd_same
    generalize upd H1 p1 (.tup [.int 1, .int 1, .int 3, .int 4]) = H2 at s2 t2 ⊢
    walk_at "rdc"
    refine ⟨(by show 4 ≤ sizeLine; decide), fun p2 hp2 => ?_⟩
    have s3 := same_new hp2 (.tup [.int (-1), .int 1, .int 19, .int 20])
    have t3 : upd H2 p2 (.tup [.int (-1), .int 1, .int 19, .int 20]) p2 = some (.tup (tmV (-1, 1, 19, 20))) := upd_same
    generalize upd H2 p2 (.tup [.int (-1), .int 1, .int 19, .int 20]) = H3 at s3 t3 ⊢
    walk_at "rdc"
    refine ⟨(by show 4 ≤ sizeLine; decide), fun p3 hp3 => ?_⟩
    have s4 := same_new hp3 (.tup [.int 1, .int 1, .int 99, .int 100])
    have t4 : upd H3 p3 (.tup [.int 1, .int 1, .int 99, .int 100]) p3 = some (.tup (tmV (1, 1, 99, 100))) := upd_same
    generalize upd H3 p3 (.tup [.int 1, .int 1, .int 99, .int 100]) = H4 at s4 t4 ⊢
    walk_at "rdc"
    refine ⟨(by show 3 ≤ sizeLine; decide), fun l1 hl1 => ?_⟩
    have s5 := same_new hl1 (.lst [.ref p1, .ref p2, .ref p3])
    have t5 : upd H4 l1 (.lst [.ref p1, .ref p2, .ref p3]) l1 = some (.lst [.ref p1, .ref p2, .ref p3]) := upd_same
    generalize upd H4 l1 (.lst [.ref p1, .ref p2, .ref p3]) = H5 at s5 t5 ⊢
    have T5 : Tms H5 [.ref p1, .ref p2, .ref p3] [(1, 1, 3, 4), (-1, 1, 19, 20), (1, 1, 99, 100)] := .cons (s5 _ _ (s4 _ _ (s3 _ _ t2))) (.cons (s5 _ _ (s4 _ _ t3)) (.cons (s5 _ _ t4) .nil))
    have ok1 : ∀ t ∈ ([(1, 1, 3, 4), (-1, 1, 19, 20), (1, 1, 99, 100)] : List Tm), OkT t := fun t ht => by
      rcases List.mem_cons.mp ht with rfl | ht
      · exact ⟨by decide, by decide, by decide, by decide, by decide, by decide, by decide⟩
      rcases List.mem_cons.mp ht with rfl | ht
      · exact ⟨by decide, by decide, by decide, by decide, by decide, by decide, by decide⟩
      cases List.mem_singleton.mp ht
      exact ⟨by decide, by decide, by decide, by decide, by decide, by decide, by decide⟩
    have P1 : PER [(1, 1, 3, 4), (-1, 1, 19, 20), (1, 1, 99, 100)] = 100 := by decide
    have f1 : falls ([(1, 1, 3, 4), (-1, 1, 19, 20), (1, 1, 99, 100)] : List Tm) = 1 := by decide
    have g : GoodS [3, 2, 4, 2] 2 [(1, 1, 3, 4), (-1, 1, 19, 20), (1, 1, 99, 100)] := ⟨by decide, by decide, by decide, by decide, by decide, by rw [f1]; decide, by rw [f1]; decide, ok1, by decide⟩
    walk_at "rdc"
    refine fun x dx hx hdx ne => init_sun hx hdx ne (s5 _ _ (s4 _ _ (s3 _ _ (s2 _ _ t1)))) T5 (.inr ⟨l1, rfl, t5⟩) g (bst.mono (by decide)) fun H6 s6 S6 => ⟨rfl, ?_⟩
    have cb := cyS (s := st) g (B := 14) (N := 100) (by decide) (by rw [P1]; decide) (by decide) (by decide) (by decide)
    exact q x (.sun st _ _ _) _ ((s0.trans s1).trans (((s2.trans s3).trans (s4.trans s5)).trans s6)) S6 cb.1 cb.2 bst
  refine iteN (fun y => c3 (V.int.inj y)) ?_
  walk_at "rdc"
  generalize hm : 1 + c / 16 % 4 = m
  refine ⟨Nat.zero_le _, fun D hD => ?_⟩
  have s1 := same_new hD (.lst [])
  have t1 : upd H0 D (.lst []) D = some (.lst []) := upd_same
  generalize upd H0 D (.lst []) = H1 at s1 t1 ⊢
  walk_at "rdc"
  walk_at "rdf"
  walk_at "rdc"
  refine ⟨m, rfl, by omega, by omega, for_range (n := m.toNat) (fun i σ' H' => Same H0 H' ∧ i ≤ 4 ∧ ∃ (ls : List Int) (r : Int) (v : Option V), H' D = some (.lst (ls.map V.int)) ∧ ls.length = i ∧ (∀ n ∈ ls, 0 ≤ n ∧ n ≤ 12) ∧ σ' = [some (.ref a), some (.int st), some (.int c), some (.int m), some (.int r), some (.ref D), v, none, none, none]) ⟨s1, by omega, [], _, none, t1, rfl, (fun n hn => nomatch hn), rfl⟩ ?_ ?_⟩
  · rintro i σ' H' hi ⟨sH, i4, ls, r, v, tD, ll, lm, rfl⟩
    walk_at "rdc"
    refine rd_append rfl tD ?_
    walk_at "rdc"
    refine rd_app tD (by rw [List.length_map]; exact small1000 (by omega)) ?_
    walk_at "rdc"
    refine ⟨same_app hD sH, by omega, ls ++ [r % 13], _, _, by rw [upd_same, List.map_append]; rfl, by rw [List.length_append, ll]; rfl, fun n hn => ?_, rfl⟩
    rcases List.mem_append.mp hn with z | z
    · exact lm n z
    · cases List.mem_singleton.mp z
      omega
  rintro σ' H2 ⟨s2, _, ls, r, v, t2, ll, lm, rfl⟩
  have hS2 := s2.seq hS0
  walk_at "rdc"
  generalize ns.getD (Int.toNat 3) 0 = u
  have w0 := Int.emod_nonneg u (show m ≠ 0 by omega)
  have w1 := Int.emod_lt_of_pos u (show 0 < m by omega)
  generalize hlp : 1 + u % m = lp
  have elp : lp - 1 = (((lp - 1).toNat : Nat) : Int) := by omega
  generalize hi : (lp - 1).toNat = i at elp
  have il : i < ls.length := by omega
  have hat : atI (ls.map V.int) (i : Int) = some (V.int (ls.getD i 0)) := by
    refine atI_nat ?_
    rw [List.getElem?_map, List.getD_eq_getElem?_getD, List.getElem?_eq_getElem il]
    rfl
  rw [elp]
  refine rd_ixL (SqL.of t2) hat ?_
  walk_at "rdc"
  rw [elp]
  refine rd_setL t2 (by rw [List.length_map]; exact il) ?_
  rw [← List.map_set]
  have lg := lm _ (getD_mem' (ls := ls) (i := i) il)
  generalize hv : ls.getD i 0 + 3 = v3
  have t3 : upd H2 D (.lst ((ls.set i v3).map V.int)) D = some (.lst ((ls.set i v3).map V.int)) := upd_same
  have s3 : Same H0 (upd H2 D (.lst ((ls.set i v3).map V.int))) := same_app hD s2
  generalize upd H2 D (.lst ((ls.set i v3).map V.int)) = H3 at s3 t3 ⊢
  have gl : (ls.set i v3).getD i 0 = v3 := by
    rw [List.getD_eq_getElem?_getD, List.getElem?_set_self il]
    rfl
  have gm : ∀ n ∈ ls.set i v3, 0 ≤ n ∧ n ≤ 15 := fun n hn => by
    rcases List.mem_or_eq_of_mem_set hn with z | z
    · have := lm n z
      omega
    · omega
  have gn : (ls.set i v3).length = m.toNat := by rw [List.length_set, ll]
  generalize ls.set i v3 = L at *
  have sb := sum_leB gm
  have sg := mem_le_sum (fun n hn => (gm n hn).1) (getD_mem' (ls := L) (i := i) (by omega))
  rw [gl] at sg
  walk_at "rdc"
  refine ⟨_, _, rfl, by decide, by decide, fun p1 v1 H4 s4 t4 k1 n1 => ?_⟩
  walk_at "rdc"
  refine ⟨_, _, rfl, by decide, by decide, fun p2 v2 H5 s5 t5 k2 n2 => ?_⟩
  walk_at "rdc"
  refine ⟨two, fun l1 hl1 => ?_⟩
  have s6 := same_new hl1 (.lst [.ref p1, .ref p2])
  have t6 : upd H5 l1 (.lst [.ref p1, .ref p2]) l1 = some (.lst [.ref p1, .ref p2]) := upd_same
  generalize upd H5 l1 (.lst [.ref p1, .ref p2]) = H6 at s6 t6 ⊢
  walk_at "rdc"
  have e1 : u / 4 % 3 = (((u / 4 % 3).toNat : Nat) : Int) := by omega
  generalize hk1 : (u / 4 % 3).toNat = j1 at e1
  rw [e1]
  refine rd_slL (SqL.of t6) fun r1 hr1 => ?_
  rw [cut_upto]
  have s7 := same_new hr1 (.lst (([.ref p1, .ref p2] : List V).take j1))
  have t7 : upd H6 r1 (.lst (([.ref p1, .ref p2] : List V).take j1)) r1 = some (.lst (([.ref p1, .ref p2] : List V).take j1)) := upd_same
  generalize upd H6 r1 (.lst (([.ref p1, .ref p2] : List V).take j1)) = H7 at s7 t7 ⊢
  have T7 : Tms H7 (([.ref p1, .ref p2] : List V).take j1) ([v1, v2].take j1) := tms_take j1 (Tms.cons (s7 _ _ (s6 _ _ (s5 _ _ t4))) (Tms.cons (s7 _ _ (s6 _ _ t5)) .nil))
  have both : ∀ t ∈ [v1, v2].take j1, OkT t ∧ t.2.2.2 ≤ 4 := fun t ht => by
    rcases List.mem_cons.mp (List.mem_of_mem_take ht) with rfl | z
    · exact ⟨k1, n1⟩
    · cases List.mem_singleton.mp z
      exact ⟨k2, n2⟩
  have few : ([v1, v2].take j1).length ≤ 2 := by rw [List.length_take]; show min j1 2 ≤ 2; omega
  generalize ([.ref p1, .ref p2] : List V).take j1 = us at *
  generalize [v1, v2].take j1 = ts at *
  have fl := falls_le (ts := ts)
  have g : GoodS L lp ts := ⟨by omega, by omega, fun n hn => ⟨(gm n hn).1, by have := (gm n hn).2; omega⟩, by omega, by omega, by rw [hi, gl]; omega, by omega, fun t ht => (both t ht).1, by omega⟩
  have p16 := per16 (fun t ht => (both t ht).1) few fun t ht => (both t ht).2
  walk_at "rdc"
  refine fun x dx hx hdx ne => init_sun hx hdx ne (s7 _ _ (s6 _ _ (s5 _ _ (s4 _ _ t3)))) T7 (.inr ⟨r1, rfl, t7⟩) g (bst.mono (by decide)) fun H8 s8 S8 => ⟨rfl, ?_⟩
  have cb := cyS (s := st) g (B := 62) (N := 16) (by omega) p16 (by decide) (by decide) (by decide)
  exact q x (.sun st _ _ _) _ ((s0.trans s3).trans (((s4.trans s5).trans (s6.trans s7)).trans s8)) S8 cb.1 cb.2 bst
theorem sc_law_moon : FnScope ["_law_script", "_law_start", "_law_one", "_law_two", "_law_days"] ["_law_script"] (defScope s_law_moon) := ⟨rfl, rfl, rfl, by decide +kernel, rfl, by decide +kernel, by decide +kernel⟩
theorem ok_law_moon {f : Addr} {fd : FuncData} (F : Fun K "_law_moon" "_law_moon" s_law_moon f fd) (er : Errs K mg c_FeastError c_NoNumber c_TooLong c_NoMeasure c_NoDate c_Measure c_Calendar c_Sun c_Moon) (c__law_number : Cal P w K mg base 1 "_law_number" ["_law_cell"] spNumB) (c__law_cell_at : Cal P w K mg base 1 "_law_cell_at" ["_law_script", "_law_k"] (spCell K)) (c_Moon___init__ : CalI P w K mg base CX0 3 "Moon" c_Moon ["self", "start", "days", "many"] (spInitMo K c_Moon c_Measure)) (c_Measure___init__ : CalI P w K mg base CX0 5 "Measure" c_Measure ["self", "base", "terms"] (spInitM K c_Measure)) (c__law_term : Cal P w K mg base 1 "_law_term" ["_law_cell", "_law_most"] spTerm40) : FnOk P w K mg base CX0 7 f fd ["_law_script"] (spCal40 K c_Sun c_Moon c_Measure) := by
  refine F.ok (k := 6) sc_law_moon (fun vs H Q E h => ?_) (fun cdv A outer s H vs Q E hr h => ?_)
  · obtain ⟨a, ns, rfl, _⟩ := h
    rfl
  obtain ⟨a, ns, rfl, hS, h63, q⟩ := h
  refine ⟨_, (pss_cons (ps_set (i := 1) sc_law_moon.nd rfl (by first | exact Or.inl rfl | exact Or.inr rfl) (pe_cal c__law_number (hr.mono (by decide)) rfl (pa_cons (pe_cal c__law_cell_at (hr.mono (by decide)) rfl (pa_cons (pv 0) (pa_cons pe_int pa_nil))) pa_nil)))
      (pss_cons (ps_set (i := 2) sc_law_moon.nd rfl (by first | exact Or.inl rfl | exact Or.inr rfl) (pe_cal c__law_cell_at (hr.mono (by decide)) rfl (pa_cons (pv 0) (pa_cons pe_int pa_nil))))
      (pss_cons (ps_set (i := 3) sc_law_moon.nd rfl (by first | exact Or.inl rfl | exact Or.inr rfl) (pe_cal c__law_cell_at (hr.mono (by decide)) rfl (pa_cons (pv 0) (pa_cons pe_int pa_nil))))
      (pss_cons (ps_if (pt_cmpR op_eq (pe_op op_mod (pv 2) pe_int) pe_int (nomark _))
        (pss_one (ps_ret (pe_mk c_Moon___init__ (hr.mono (by decide)) rfl (pa_cons (pv 1) (pa_cons (pe_mk c_Measure___init__ (hr.mono (by decide)) rfl (pa_cons pe_int (pa_cons (pe_lst (pa_cons (pe_tup (pa_cons pe_int (pa_cons pe_int (pa_cons (pe_op op_mod (pv 3) pe_int) (pa_cons pe_int pa_nil))))) pa_nil)) pa_nil))) (pa_cons (pe_mk c_Measure___init__ (hr.mono (by decide)) rfl (pa_cons pe_int (pa_cons (pe_lst (pa_cons (pe_tup (pa_cons pe_int (pa_cons pe_int (pa_cons (pe_op op_mod (pv 3) pe_int) (pa_cons pe_int pa_nil))))) pa_nil)) pa_nil))) pa_nil))))))
        pss_nil)
      (pss_cons (ps_set (i := 4) sc_law_moon.nd rfl (by first | exact Or.inl rfl | exact Or.inr rfl) (pe_mk c_Measure___init__ (hr.mono (by decide)) rfl (pa_cons (pe_op op_add pe_int (pe_op op_mod (pv 2) pe_int)) (pa_cons (pe_slice sl_list (pe_lst (pa_cons (pe_cal c__law_term (hr.mono (by decide)) rfl (pa_cons (pe_op op_fdivB (pv 2) pe_int) (pa_cons pe_int pa_nil))) pa_nil)) po_none (po_some (pe_op op_mod (pe_op op_fdivB (pv 2) pe_int) pe_int))) pa_nil))))
      (pss_one (ps_ret (pe_mk c_Moon___init__ (hr.mono (by decide)) rfl (pa_cons (pv 1) (pa_cons (pv 4) (pa_cons (pe_mk c_Measure___init__ (hr.mono (by decide)) rfl (pa_cons (pe_op op_add pe_int (pe_op op_mod (pv 3) pe_int)) (pa_cons (pe_slice sl_list (pe_lst (pa_cons (pe_cal c__law_term (hr.mono (by decide)) rfl (pa_cons (pe_op op_fdivB (pv 3) pe_int) (pa_cons pe_int pa_nil))) pa_nil)) po_none (po_some (pe_op op_mod (pe_op op_fdivB (pv 3) pe_int) pe_int))) pa_nil))) pa_nil))))))))))), ?_⟩
  walk_at "rdc"
  refine ⟨_, rfl, fun st H0 s0 st0 st1 => ?_⟩
  have bst : Bt 200 st := bt_of (by omega) (by omega)
  have hS0 := s0.seq hS
  walk_at "rdc"
  generalize ns.getD (Int.toNat 2) 0 = c
  generalize ns.getD (Int.toNat 3) 0 = u
  by_cases c1 : c % 16 = 7
  · refine iteD (congrArg V.int c1) ?_
    walk_at "rdc"
    refine ⟨(by show 4 ≤ sizeLine; decide), fun p1 hp1 => ?_⟩
    have s1 := same_new hp1 (.tup [.int 1, .int 1, .int (u % 2), .int 2])
    have t1 : upd H0 p1 (.tup [.int 1, .int 1, .int (u % 2), .int 2]) p1 = some (.tup (tmV (1, 1, u % 2, 2))) := upd_same
    generalize upd H0 p1 (.tup [.int 1, .int 1, .int (u % 2), .int 2]) = H1 at s1 t1 ⊢
    walk_at "rdc"
    refine ⟨(by show 1 ≤ sizeLine; decide), fun l1 hl1 => ?_⟩
    have s2 := same_new hl1 (.lst [.ref p1])
    have t2 : upd H1 l1 (.lst [.ref p1]) l1 = some (.lst [.ref p1]) := upd_same
    generalize upd H1 l1 (.lst [.ref p1]) = H2 at s2 t2 ⊢
    have T1 : Tms H2 [.ref p1] [(1, 1, u % 2, 2)] := .cons (s2 _ _ t1) .nil
    have ok1 : ∀ t ∈ ([(1, 1, u % 2, 2)] : List Tm), OkT t := fun t ht => by
      cases List.mem_singleton.mp ht
      exact ⟨.inl rfl, by show (1 : Int) ≤ 2; decide, by show (2 : Int) ≤ 1000; decide, by show (0 : Int) ≤ 1; decide, by show (1 : Int) ≤ 2; decide, by show 0 ≤ u % 2; omega, by show u % 2 < 2; omega⟩
    have P1 : PER [(1, 1, u % 2, 2)] = 2 := by show lcmI 1 2 = 2; decide
    have f1 : falls ([(1, 1, u % 2, 2)] : List Tm) = 0 := by show (([(1, 1, u % 2, 2)] : List Tm).filter fun t => decide (t.1 = -1)).length = (0 : Int); rfl
    walk_at "rdc"
    refine fun y1 dy hy hdy ne => init_me hy hdy ne T1 (.inr ⟨l1, rfl, t2⟩) ok1 (by show 1 ≤ 6; decide) (good_m (by rw [f1]; decide) (by decide)) (UP_pos ok1 (by rw [f1]; decide) (by rw [P1]; decide)) fun H3 s3 N3 => ⟨rfl, ?_⟩
    clear hy hdy ne
    walk_at "rdc"
    refine ⟨(by show 4 ≤ sizeLine; decide), fun p2 hp2 => ?_⟩
    have s4 := same_new hp2 (.tup [.int 1, .int 7, .int (u % 19), .int 19])
    have t4 : upd H3 p2 (.tup [.int 1, .int 7, .int (u % 19), .int 19]) p2 = some (.tup (tmV (1, 7, u % 19, 19))) := upd_same
    generalize upd H3 p2 (.tup [.int 1, .int 7, .int (u % 19), .int 19]) = H4 at s4 t4 ⊢
    walk_at "rdc"
    refine ⟨(by show 1 ≤ sizeLine; decide), fun l2 hl2 => ?_⟩
    have s5 := same_new hl2 (.lst [.ref p2])
    have t5 : upd H4 l2 (.lst [.ref p2]) l2 = some (.lst [.ref p2]) := upd_same
    generalize upd H4 l2 (.lst [.ref p2]) = H5 at s5 t5 ⊢
    have T2 : Tms H5 [.ref p2] [(1, 7, u % 19, 19)] := .cons (s5 _ _ t4) .nil
    have ok2 : ∀ t ∈ ([(1, 7, u % 19, 19)] : List Tm), OkT t := fun t ht => by
      cases List.mem_singleton.mp ht
      exact ⟨.inl rfl, by show (1 : Int) ≤ 19; decide, by show (19 : Int) ≤ 1000; decide, by show (0 : Int) ≤ 7; decide, by show (7 : Int) ≤ 19; decide, by show 0 ≤ u % 19; omega, by show u % 19 < 19; omega⟩
    have P2 : PER [(1, 7, u % 19, 19)] = 19 := by show lcmI 1 19 = 19; decide
    have f2 : falls ([(1, 7, u % 19, 19)] : List Tm) = 0 := by show (([(1, 7, u % 19, 19)] : List Tm).filter fun t => decide (t.1 = -1)).length = (0 : Int); rfl
    walk_at "rdc"
    refine fun y2 dy hy hdy ne => init_me hy hdy ne T2 (.inr ⟨l2, rfl, t5⟩) ok2 (by show 1 ≤ 6; decide) (good_m (by rw [f2]; decide) (by decide)) (UP_pos ok2 (by rw [f2]; decide) (by rw [P2]; decide)) fun H6 s6 O6 => ⟨rfl, ?_⟩
    clear hy hdy ne
    have N6 := ((N3.same s4).same s5).same s6
    have g : GoodMo 2 [(1, 1, u % 2, 2)] 12 [(1, 7, u % 19, 19)] := ⟨by rw [f1]; decide, by decide, by rw [f2]; decide, by decide, ok1, ok2, by show 1 ≤ 6; decide, by show 1 ≤ 6; decide⟩
    walk_at "rdc"
    refine fun x dx hx hdx ne => init_moon hx hdx ne N6 O6 g (bst.mono (by decide)) fun H9 s9 S9 => ⟨rfl, ?_⟩
    have cb := cyM (s := st) g (by rw [P2]; decide) (by show (12 : Int) + 1 ≤ 13; decide) (by rw [P1]; decide) (by show (2 : Int) + 1 ≤ 13; decide)
    exact q x (.moon st 2 [(1, 1, u % 2, 2)] 12 [(1, 7, u % 19, 19)]) _ (((s0.trans s1).trans (s2.trans s3)).trans ((s4.trans s5).trans (s6.trans s9))) S9 cb.1 cb.2 bst
  refine iteN (fun y => c1 (V.int.inj y)) ?_
  walk_at "rdc"
  refine ⟨_, _, rfl, by decide, by decide, fun p1 v1 H1 s1 t1 k1 n1 => ?_⟩
  walk_at "rdc"
  refine ⟨(by show 1 ≤ sizeLine; decide), fun l1 hl1 => ?_⟩
  have s2 := same_new hl1 (.lst [.ref p1])
  have t2 : upd H1 l1 (.lst [.ref p1]) l1 = some (.lst [.ref p1]) := upd_same
  generalize upd H1 l1 (.lst [.ref p1]) = H2 at s2 t2 ⊢
  walk_at "rdc"
  have e1 : c / 100 % 2 = (((c / 100 % 2).toNat : Nat) : Int) := by omega
  generalize hk1 : (c / 100 % 2).toNat = j1 at e1
  rw [e1]
  refine rd_slL (SqL.of t2) fun r1 hr1 => ?_
  rw [cut_upto]
  have s3 := same_new hr1 (.lst (([.ref p1] : List V).take j1))
  have t3 : upd H2 r1 (.lst (([.ref p1] : List V).take j1)) r1 = some (.lst (([.ref p1] : List V).take j1)) := upd_same
  generalize upd H2 r1 (.lst (([.ref p1] : List V).take j1)) = H3 at s3 t3 ⊢
  have T3 : Tms H3 (([.ref p1] : List V).take j1) ([v1].take j1) := tms_take j1 (Tms.cons (s3 _ _ (s2 _ _ t1)) .nil)
  have ok1 : ∀ t ∈ [v1].take j1, OkT t := fun t ht => by
    cases List.mem_singleton.mp (List.mem_of_mem_take ht)
    exact k1
  have nn1 : ∀ t ∈ [v1].take j1, t.2.2.2 ≤ 4 := fun t ht => by
    cases List.mem_singleton.mp (List.mem_of_mem_take ht)
    exact n1
  have few1 : ([v1].take j1).length ≤ 1 := by rw [List.length_take]; show min j1 1 ≤ 1; omega
  generalize ([.ref p1] : List V).take j1 = us1 at *
  generalize [v1].take j1 = td at *
  have fl1 := falls_le (ts := td)
  have b1 : 2 ≤ 2 + c % 11 ∧ 2 + c % 11 ≤ 12 := by omega
  generalize 2 + c % 11 = bd at *
  walk_at "rdc"
  refine fun y1 dy hy hdy ne => init_me hy hdy ne T3 (.inr ⟨r1, rfl, t3⟩) ok1 (by omega) (good_m (by omega) (by omega)) (UP_pos ok1 (by omega) (per_pos' ok1).1) fun H4 s4 N4 => ⟨rfl, ?_⟩
  clear hy hdy ne
  walk_at "rdc"
  refine ⟨_, _, rfl, by decide, by decide, fun p2 v2 H5 s5 t5 k2 n2 => ?_⟩
  walk_at "rdc"
  refine ⟨(by show 1 ≤ sizeLine; decide), fun l2 hl2 => ?_⟩
  have s6 := same_new hl2 (.lst [.ref p2])
  have t6 : upd H5 l2 (.lst [.ref p2]) l2 = some (.lst [.ref p2]) := upd_same
  generalize upd H5 l2 (.lst [.ref p2]) = H6 at s6 t6 ⊢
  walk_at "rdc"
  have e2 : u / 100 % 2 = (((u / 100 % 2).toNat : Nat) : Int) := by omega
  generalize hk2 : (u / 100 % 2).toNat = j2 at e2
  rw [e2]
  refine rd_slL (SqL.of t6) fun r2 hr2 => ?_
  rw [cut_upto]
  have s7 := same_new hr2 (.lst (([.ref p2] : List V).take j2))
  have t7 : upd H6 r2 (.lst (([.ref p2] : List V).take j2)) r2 = some (.lst (([.ref p2] : List V).take j2)) := upd_same
  generalize upd H6 r2 (.lst (([.ref p2] : List V).take j2)) = H7 at s7 t7 ⊢
  have T7 : Tms H7 (([.ref p2] : List V).take j2) ([v2].take j2) := tms_take j2 (Tms.cons (s7 _ _ (s6 _ _ t5)) .nil)
  have ok2 : ∀ t ∈ [v2].take j2, OkT t := fun t ht => by
    cases List.mem_singleton.mp (List.mem_of_mem_take ht)
    exact k2
  have nn2 : ∀ t ∈ [v2].take j2, t.2.2.2 ≤ 4 := fun t ht => by
    cases List.mem_singleton.mp (List.mem_of_mem_take ht)
    exact n2
  have few2 : ([v2].take j2).length ≤ 1 := by rw [List.length_take]; show min j2 1 ≤ 1; omega
  generalize ([.ref p2] : List V).take j2 = us2 at *
  generalize [v2].take j2 = tm at *
  have fl2 := falls_le (ts := tm)
  have b2 : 2 ≤ 2 + u % 2 ∧ 2 + u % 2 ≤ 3 := by omega
  generalize 2 + u % 2 = bm at *
  walk_at "rdc"
  refine fun y2 dy hy hdy ne => init_me hy hdy ne T7 (.inr ⟨r2, rfl, t7⟩) ok2 (by omega) (good_m (by omega) (by omega)) (UP_pos ok2 (by omega) (per_pos' ok2).1) fun H8 s8 O8 => ⟨rfl, ?_⟩
  clear hy hdy ne
  have N8 := (((N4.same s5).same s6).same s7).same s8
  have g : GoodMo bd td bm tm := ⟨by omega, by omega, by omega, by omega, ok1, ok2, by omega, by omega⟩
  walk_at "rdc"
  refine fun x dx hx hdx ne => init_moon hx hdx ne N8 O8 g (bst.mono (by decide)) fun H9 s9 S9 => ⟨rfl, ?_⟩
  have p1 := per4 ok1 few1 nn1
  have p2 := per4 ok2 few2 nn2
  have cb := cyM (s := st) g (by omega) (by omega) p1 (by omega)
  exact q x (.moon st bd td bm tm) _ ((((s0.trans s1).trans (s2.trans s3)).trans ((s4.trans s5).trans (s6.trans s7))).trans (s8.trans s9)) S9 cb.1 cb.2 bst
theorem sc_law_wanted : FnScope ["_law_script", "_law_cell", "_law_month", "_law_far", "_law_day"] ["_law_script"] (defScope s_law_wanted) := ⟨rfl, rfl, rfl, by decide +kernel, rfl, by decide +kernel, by decide +kernel⟩
theorem ok_law_wanted {f : Addr} {fd : FuncData} (F : Fun K "_law_wanted" "_law_wanted" s_law_wanted f fd) (c__law_cell_at : Cal P w K mg base 1 "_law_cell_at" ["_law_script", "_law_k"] (spCell K)) (c__law_number : Cal P w K mg base 1 "_law_number" ["_law_cell"] spNumB) : FnOk P w K mg base CX0 2 f fd ["_law_script"] (spWanted40 K) := by
  refine F.ok (k := 1) sc_law_wanted (fun vs H Q E h => ?_) (fun cdv A outer s H vs Q E hr h => ?_)
  · obtain ⟨a, ns, rfl, _⟩ := h
    rfl
  obtain ⟨a, ns, rfl, hS, h63, q⟩ := h
  refine ⟨_, (pss_cons (ps_set (i := 1) sc_law_wanted.nd rfl (by first | exact Or.inl rfl | exact Or.inr rfl) (pe_cal c__law_cell_at (hr.mono (by decide)) rfl (pa_cons (pv 0) (pa_cons pe_int pa_nil))))
      (pss_cons (ps_set (i := 2) sc_law_wanted.nd rfl (by first | exact Or.inl rfl | exact Or.inr rfl) (pe_ix ix_list (pe_lst (pa_cons pe_non (pa_cons (pe_op op_add pe_int (pe_op op_mod (pe_op op_fdivB (pv 1) pe_int) pe_int)) (pa_cons (pe_op op_add pe_int (pe_op op_mod (pe_op op_fdivB (pv 1) pe_int) pe_int)) (pa_cons (pe_op op_add pe_int (pe_op op_mod (pe_op op_fdivB (pv 1) pe_int) (pe_op op_pow pe_int pe_int))) pa_nil))))) (pe_op op_mod (pv 1) pe_int) (fun _ _ => rfl)))
      (pss_cons (ps_set (i := 1) sc_law_wanted.nd rfl (by first | exact Or.inl rfl | exact Or.inr rfl) (pe_cal c__law_cell_at (hr.mono (by decide)) rfl (pa_cons (pv 0) (pa_cons pe_int pa_nil))))
      (pss_cons (ps_set (i := 3) sc_law_wanted.nd rfl (by first | exact Or.inl rfl | exact Or.inr rfl) (pe_op op_mod (pe_op op_fdivB (pv 1) pe_int) (pe_ix ix_list (pe_lst (pa_cons pe_int (pa_cons pe_int (pa_cons pe_int (pa_cons pe_int pa_nil))))) (pe_op op_mod (pe_op op_fdivB (pv 1) pe_int) pe_int) (fun _ _ => rfl))))
      (pss_cons (ps_set (i := 4) sc_law_wanted.nd rfl (by first | exact Or.inl rfl | exact Or.inr rfl) (pe_ix ix_list (pe_lst (pa_cons pe_non (pa_cons (pe_op op_add pe_int (pv 3)) (pa_cons (pe_op op_sub (pe_un un_neg pe_int) (pv 3)) (pa_cons (pe_ix ix_list (pe_lst (pa_cons (pe_un un_neg pe_int) (pa_cons (pe_op op_pow pe_int pe_int) (pa_cons (pe_un un_neg (pe_op op_pow pe_int pe_int)) (pa_cons pe_int pa_nil))))) (pe_op op_mod (pv 3) pe_int) (fun _ _ => rfl)) pa_nil))))) (pe_op op_mod (pv 1) pe_int) (fun _ _ => rfl)))
      (pss_cons (ps_set (i := 1) sc_law_wanted.nd rfl (by first | exact Or.inl rfl | exact Or.inr rfl) (pe_cal c__law_cell_at (hr.mono (by decide)) rfl (pa_cons (pv 0) (pa_cons pe_int pa_nil))))
      (pss_one (ps_ret (pe_tup (pa_cons (pv 2) (pa_cons (pv 4) (pa_cons (pe_op op_add pe_int (pe_op op_mod (pv 1) pe_int)) (pa_cons (pe_cal c__law_number (hr.mono (by decide)) rfl (pa_cons (pe_op op_fdivB (pv 1) pe_int) pa_nil)) pa_nil))))))))))))), ?_⟩
  walk_at "rdc"
  rw [p40]
  generalize ns.getD (Int.toNat 4) 0 = c
  refine ⟨(by show 4 ≤ sizeLine; decide), fun l hl => ?_⟩
  have s1 := same_new hl (.lst [V.non, V.int (1 + c / 4 % 5), V.int (1 + c / 4 % 21), V.int (1 + c / 4 % 10000000000000000000000000000000000000000)])
  have t1 : upd H l (.lst [V.non, V.int (1 + c / 4 % 5), V.int (1 + c / 4 % 21), V.int (1 + c / 4 % 10000000000000000000000000000000000000000)]) l = some (.lst [V.non, V.int (1 + c / 4 % 5), V.int (1 + c / 4 % 21), V.int (1 + c / 4 % 10000000000000000000000000000000000000000)]) := upd_same
  generalize upd H l (.lst [V.non, V.int (1 + c / 4 % 5), V.int (1 + c / 4 % 21), V.int (1 + c / 4 % 10000000000000000000000000000000000000000)]) = H1 at s1 t1 ⊢
  have hS1 := s1.seq hS
  walk_at "rdc"
  obtain ⟨m, hm, m1, m2⟩ : ∃ m : Option Int, atI [V.non, V.int (1 + c / 4 % 5), V.int (1 + c / 4 % 21), V.int (1 + c / 4 % 10000000000000000000000000000000000000000)] (c % 4) = some (oI m) ∧ (∀ i, m = some i → 1 ≤ i) ∧ OBt m := by
    rcases (by omega : c % 4 = 0 ∨ c % 4 = 1 ∨ c % 4 = 2 ∨ c % 4 = 3) with e | e | e | e <;> rw [e]
    · exact ⟨none, rfl, (fun i e => nomatch e), fun i e => (nomatch e)⟩
    · exact ⟨some _, rfl, (fun i e => by cases e; omega), fun i e => by cases e; exact bt_of (by omega) (by omega)⟩
    · exact ⟨some _, rfl, (fun i e => by cases e; omega), fun i e => by cases e; exact bt_of (by omega) (by omega)⟩
    · exact ⟨some _, rfl, (fun i e => by cases e; omega), fun i e => by cases e; exact bt_of (by omega) (by omega)⟩
  refine rd_ixL (SqL.of t1) hm ?_
  walk_at "rdc"
  generalize ns.getD (Int.toNat 5) 0 = u
  refine ⟨(by show 4 ≤ sizeLine; decide), fun l2 hl2 => ?_⟩
  have s2 := same_new hl2 (.lst [.int 15, .int 15, .int 32, .int 1001])
  have t2 : upd H1 l2 (.lst [.int 15, .int 15, .int 32, .int 1001]) l2 = some (.lst (([15, 15, 32, 1001] : List Int).map V.int)) := upd_same
  generalize upd H1 l2 (.lst [.int 15, .int 15, .int 32, .int 1001]) = H2 at s2 t2 ⊢
  have hS2 := s2.seq hS1
  walk_at "rdc"
  obtain ⟨o, ho, o0, o1⟩ : ∃ o, atI (([15, 15, 32, 1001] : List Int).map V.int) (u / 4 % 4) = some (V.int o) ∧ 1 ≤ o ∧ o ≤ 1001 := by
    rcases (by omega : u / 4 % 4 = 0 ∨ u / 4 % 4 = 1 ∨ u / 4 % 4 = 2 ∨ u / 4 % 4 = 3) with e | e | e | e <;> rw [e]
    · exact ⟨15, rfl, by decide, by decide⟩
    · exact ⟨15, rfl, by decide, by decide⟩
    · exact ⟨32, rfl, by decide, by decide⟩
    · exact ⟨1001, rfl, by decide, by decide⟩
  refine rd_ixL (SqL.of t2) ho ?_
  walk_at "rdc"
  have w0 := Int.emod_nonneg (u / 16) (show o ≠ 0 by omega)
  have w1 := Int.emod_lt_of_pos (u / 16) (show 0 < o by omega)
  generalize u / 16 % o = f at *
  rw [p40]
  refine ⟨(by show 4 ≤ sizeLine; decide), fun l3 hl3 => ?_⟩
  have s3 := same_new hl3 (.lst [.int (-1), .int 10000000000000000000000000000000000000000, .int (-10000000000000000000000000000000000000000), .int 1])
  have t3 : upd H2 l3 (.lst [.int (-1), .int 10000000000000000000000000000000000000000, .int (-10000000000000000000000000000000000000000), .int 1]) l3 = some (.lst (([-1, 10000000000000000000000000000000000000000, -10000000000000000000000000000000000000000, 1] : List Int).map V.int)) := upd_same
  generalize upd H2 l3 (.lst [.int (-1), .int 10000000000000000000000000000000000000000, .int (-10000000000000000000000000000000000000000), .int 1]) = H3 at s3 t3 ⊢
  have hS3 := s3.seq hS2
  walk_at "rdc"
  obtain ⟨e4, he4, e40, e41, e42⟩ : ∃ o, atI (([-1, 10000000000000000000000000000000000000000, -10000000000000000000000000000000000000000, 1] : List Int).map V.int) (f % 4) = some (V.int o) ∧ o ≠ 0 ∧ -10000000000000000000000000000000000000000 ≤ o ∧ o ≤ 10000000000000000000000000000000000000000 := by
    rcases (by omega : f % 4 = 0 ∨ f % 4 = 1 ∨ f % 4 = 2 ∨ f % 4 = 3) with e | e | e | e <;> rw [e]
    · exact ⟨_, rfl, by decide, by decide, by decide⟩
    · exact ⟨_, rfl, by decide, by decide, by decide⟩
    · exact ⟨_, rfl, by decide, by decide, by decide⟩
    · exact ⟨_, rfl, by decide, by decide, by decide⟩
  refine rd_ixL (SqL.of t3) he4 ?_
  walk_at "rdc"
  refine ⟨(by show 4 ≤ sizeLine; decide), fun l4 hl4 => ?_⟩
  have s4 := same_new hl4 (.lst [V.non, V.int (1 + f), V.int (-1 - f), V.int e4])
  have t4 : upd H3 l4 (.lst [V.non, V.int (1 + f), V.int (-1 - f), V.int e4]) l4 = some (.lst [V.non, V.int (1 + f), V.int (-1 - f), V.int e4]) := upd_same
  generalize upd H3 l4 (.lst [V.non, V.int (1 + f), V.int (-1 - f), V.int e4]) = H4 at s4 t4 ⊢
  have hS4 := s4.seq hS3
  walk_at "rdc"
  obtain ⟨i, hi, i1, i2⟩ : ∃ m : Option Int, atI [V.non, V.int (1 + f), V.int (-1 - f), V.int e4] (u % 4) = some (oI m) ∧ m ≠ some 0 ∧ OBt m := by
    rcases (by omega : u % 4 = 0 ∨ u % 4 = 1 ∨ u % 4 = 2 ∨ u % 4 = 3) with e | e | e | e <;> rw [e]
    · exact ⟨none, rfl, (fun e => nomatch e), fun i e => (nomatch e)⟩
    · exact ⟨some _, rfl, (fun e => by have := Option.some.inj e; omega), fun i e => by cases e; exact bt_of (by omega) (by omega)⟩
    · exact ⟨some _, rfl, (fun e => by have := Option.some.inj e; omega), fun i e => by cases e; exact bt_of (by omega) (by omega)⟩
    · exact ⟨some _, rfl, (fun e => by have := Option.some.inj e; omega), fun i e => by cases e; exact bt_of (by omega) (by omega)⟩
  refine rd_ixL (SqL.of t4) hi ?_
  walk_at "rdc"
  generalize ns.getD (Int.toNat 6) 0 = v
  walk_at "rdc"
  refine ⟨_, rfl, fun r H5 s5 r0 r1 => ?_⟩
  walk_at "rdc"
  refine ⟨(by show 4 ≤ sizeLine; decide), fun p hp => ?_⟩
  exact q p m i _ r _ ((((s1.trans s2).trans (s3.trans s4)).trans s5).trans (same_new hp _)) upd_same ⟨m1, i1, by omega⟩ (by omega) m2 i2 (bt_of (by omega) (by omega))
theorem sc_law_years : FnScope ["_law_calendar", "_law_step_here", "_law_years_here", "_law_many"] ["_law_calendar", "_law_step_here"] (defScope s_law_years) := ⟨rfl, rfl, rfl, by decide +kernel, rfl, by decide +kernel, by decide +kernel⟩
theorem ok_law_years {f : Addr} {fd : FuncData} (F : Fun K "_law_years" "_law_years" s_law_years f fd) (er : Errs K mg c_FeastError c_NoNumber c_TooLong c_NoMeasure c_NoDate c_Measure c_Calendar c_Sun c_Moon) (c_Sun_cycle : CalM P w K mg base CX0 3 c_Sun "cycle" ["self"] (spCyc K c_Sun c_Measure)) (c_Moon_cycle : CalM P w K mg base CX0 3 c_Moon "cycle" ["self"] (spMCyc K c_Moon c_Measure)) : FnOk P w K mg base CX0 4 f fd ["_law_calendar", "_law_step_here"] (spYears40 K c_Sun c_Moon c_Measure) := by
  refine F.ok (k := 3) sc_law_years (fun vs H Q E h => ?_) (fun cdv A outer s H vs Q E hr h => ?_)
  · obtain ⟨x, d, st, rfl, _⟩ := h
    rfl
  obtain ⟨x, d, st, rfl, S, st1, st8, b1, q⟩ := h
  have g := CalO.good S
  have c0 := CalD.cy_pos g
  obtain ⟨f1, f2, f3, _, f5, _⟩ := lcmI_facts c0 (show 0 < st by omega)
  refine ⟨_, (pss_cons (ps_set (i := 2) sc_law_years.nd rfl (by first | exact Or.inl rfl | exact Or.inr rfl) (pe_ix ix_tup (pe_mcalL0 (k := 3) (CalL.cons er.cl_Sun c_Sun_cycle (by decide) (CalL.cons er.cl_Moon c_Moon_cycle (by decide) CalL.nil)) (hr.mono (by decide)) (pv 0)) pe_int (fun _ _ => rfl)))
      (pss_cons (ps_set (i := 3) sc_law_years.nd rfl (by first | exact Or.inl rfl | exact Or.inr rfl) (pv 2))
      (pss_cons (ps_while PassesOwn.never (pt_cmpR op_ne (pe_op op_mod (pv 3) (pv 1)) pe_int (nomark _))
        (pss_one (ps_set (i := 3) sc_law_years.nd rfl (by first | exact Or.inl rfl | exact Or.inr rfl) (pe_op op_add (pv 3) (pv 2)))))
      (pss_one (ps_ret (pv 3)))))), ?_⟩
  walk_at "rdc"
  obtain ⟨C, dx, fs, sp, mem, e, lk, use⟩ := S.cyc
  refine ⟨x, C, dx, fs, sp, mem, rfl, e, lk, ?_⟩
  refine use S fun p H1 s1 t1 => ?_
  clear C dx fs sp mem e lk use
  walk_at "rdc"
  refine rd_ixT (SqT.of t1) rfl ?_
  have q := q H1 s1
  generalize d.cy.1 = Y at *
  generalize lcmI Y st = L at *
  walk_at "rdc"
  refine ⟨fun m σ' H' => H' = H1 ∧ ∃ v : Int, σ' = [some (.ref x), some (.int st), some (.int Y), some (.int v)] ∧ Y ∣ v ∧ 0 < v ∧ v ≤ L ∧ m = (L - v).toNat, ⟨_, rfl, Y, rfl, Int.dvd_refl _, c0, Int.le_of_dvd f1 f2, rfl⟩, ?_⟩
  rintro m σ' H' ⟨rfl, v, rfl, hv, v0, vl, rfl⟩
  walk_at "rdc"
  by_cases z : v % st = 0
  · refine iteNS (congrArg V.int z) ?_
    have e : v = L := by
      have := Int.le_of_dvd v0 (f5 v hv (Int.dvd_of_emod_eq_zero z))
      omega
    subst e
    walk_at "rdc"
    exact q
  · refine iteNN (fun y => z (V.int.inj y)) ?_
    have ne : v ≠ L := fun e => z (by rw [e]; exact Int.emod_eq_zero_of_dvd f3)
    have le : Y ≤ L - v := Int.le_of_dvd (by omega) (Int.dvd_sub f2 hv)
    refine ⟨_, fun σ' H' hh => hh, ?_⟩
    walk_at "rdc"
    exact ⟨(L - (v + Y)).toNat, by omega, rfl, v + Y, rfl, Int.dvd_add hv (Int.dvd_refl _), by omega, by omega, rfl⟩
theorem sc_law_size : FnScope ["_law_calendar", "_law_step_here", "_law_years_here", "_law_days"] ["_law_calendar", "_law_step_here"] (defScope s_law_size) := ⟨rfl, rfl, rfl, by decide +kernel, rfl, by decide +kernel, by decide +kernel⟩
theorem ok_law_size {f : Addr} {fd : FuncData} (F : Fun K "_law_size" "_law_size" s_law_size f fd) (er : Errs K mg c_FeastError c_NoNumber c_TooLong c_NoMeasure c_NoDate c_Measure c_Calendar c_Sun c_Moon) (c_Sun_cycle : CalM P w K mg base CX0 3 c_Sun "cycle" ["self"] (spCyc K c_Sun c_Measure)) (c_Moon_cycle : CalM P w K mg base CX0 3 c_Moon "cycle" ["self"] (spMCyc K c_Moon c_Measure)) (c__law_years : Cal P w K mg base 4 "_law_years" ["_law_calendar", "_law_step_here"] (spYears40 K c_Sun c_Moon c_Measure)) : FnOk P w K mg base CX0 5 f fd ["_law_calendar", "_law_step_here"] (spSize40 K c_Sun c_Moon c_Measure) := by
  refine F.ok (k := 4) sc_law_size (fun vs H Q E h => ?_) (fun cdv A outer s H vs Q E hr h => ?_)
  · obtain ⟨x, d, st, rfl, _⟩ := h
    rfl
  obtain ⟨x, d, st, rfl, S, st1, st8, b1, b2, q⟩ := h
  have g := CalO.good S
  have c0 := CalD.cy_pos g
  have c2 := CalD.cy_le g
  have f := dSize_facts g st1
  refine ⟨_, (pss_cons (ps_asg (pe_mcalL0 (k := 3) (CalL.cons er.cl_Sun c_Sun_cycle (by decide) (CalL.cons er.cl_Moon c_Moon_cycle (by decide) CalL.nil)) (hr.mono (by decide)) (pv 0)) (pg_tup rfl (pgs_cons (pg_name (i := 2) sc_law_size.nd rfl (by first | exact Or.inl rfl | exact Or.inr rfl)) (pgs_cons (pg_name (i := 3) sc_law_size.nd rfl (by first | exact Or.inl rfl | exact Or.inr rfl)) pgs_nil))))
      (pss_one (ps_ret (pe_op op_mulB (pv 3) (pe_op op_fdivB (pe_cal c__law_years (hr.mono (by decide)) rfl (pa_cons (pv 0) (pa_cons (pv 1) pa_nil))) (pv 2)))))), ?_⟩
  walk_at "rdc"
  obtain ⟨C, dx, fs, sp, mem, e, lk, use⟩ := S.cyc
  refine ⟨x, C, dx, fs, sp, mem, rfl, e, lk, ?_⟩
  refine use S fun p H1 s1 t1 => ?_
  clear C dx fs sp mem e lk use
  refine rd_gtup (SqT.of t1) rfl ?_
  walk_at "rdc"
  refine ⟨x, d, st, rfl, CalO.same S s1, st1, st8, b1, fun H2 s2 => ?_⟩
  walk_at "rdc"
  refine rd_i ⟨c0, b1.mono (by decide)⟩ ?_
  have d0 : 0 ≤ lcmI d.cy.1 st / d.cy.1 := Int.ediv_nonneg (by omega) (by omega)
  have d1 : lcmI d.cy.1 st / d.cy.1 ≤ lcmI d.cy.1 st := Int.ediv_le_self _ (by omega)
  have bs : Bt 64 st := bt_small (by omega) (by omega) (by decide)
  have bq : Bt 264 (lcmI d.cy.1 st / d.cy.1) := (b1.mul bs).le (by omega)
  walk_at "rdc"
  refine rd_i ⟨200, 264, b2, bq, by decide⟩ ?_
  rw [Int.mul_comm]
  exact q _ (s1.trans s2)
theorem sc_law_step : FnScope ["_law_calendar", "_law_wanted_here", "_law_cell", "_law_month", "_law_day", "_law_step_here", "_law_rest"] ["_law_calendar", "_law_wanted_here", "_law_cell"] (defScope s_law_step) := ⟨rfl, rfl, rfl, by decide +kernel, rfl, by decide +kernel, by decide +kernel⟩
theorem ok_law_step {f : Addr} {fd : FuncData} (F : Fun K "_law_step" "_law_step" s_law_step f fd) (c__law_size : Cal P w K mg base 5 "_law_size" ["_law_calendar", "_law_step_here"] (spSize40 K c_Sun c_Moon c_Measure)) (c__law_years : Cal P w K mg base 4 "_law_years" ["_law_calendar", "_law_step_here"] (spYears40 K c_Sun c_Moon c_Measure)) : FnOk P w K mg base CX0 6 f fd ["_law_calendar", "_law_wanted_here", "_law_cell"] (spStep40 K c_Sun c_Moon c_Measure) := by
  refine F.ok (k := 5) sc_law_step (fun vs H Q E h => ?_) (fun cdv A outer s H vs Q E hr h => ?_)
  · obtain ⟨x, w', d, c, m, i, st, r, rfl, _⟩ := h
    rfl
  obtain ⟨x, w', d, c, m, i, st, r, rfl, S, y8, d4, hw, q⟩ := h
  have g := CalO.good S
  have c0 := CalD.cy_pos g
  have c2 := CalD.cy_le g
  have b1 : Bt 200 d.cy.1 := bt_of (by omega) (by omega)
  have b2 : Bt 200 d.cy.2 := bt_of (by omega) (by omega)
  refine ⟨_, (pss_cons (ps_asg (pv 1) (pg_tup rfl (pgs_cons (pg_name (i := 3) sc_law_step.nd rfl (by first | exact Or.inl rfl | exact Or.inr rfl)) (pgs_cons (pg_name (i := 4) sc_law_step.nd rfl (by first | exact Or.inl rfl | exact Or.inr rfl)) (pgs_cons (pg_name (i := 5) sc_law_step.nd rfl (by first | exact Or.inl rfl | exact Or.inr rfl)) (pgs_cons (pg_name (i := 6) sc_law_step.nd rfl (by first | exact Or.inl rfl | exact Or.inr rfl)) pgs_nil))))))
      (pss_cons (ps_set (i := 5) sc_law_step.nd rfl (by first | exact Or.inl rfl | exact Or.inr rfl) (pe_op op_add pe_int (pe_op op_mod (pe_op op_fdivB (pv 2) pe_int) (pe_ix ix_list (pe_lst (pa_cons pe_int (pa_cons pe_int pa_nil))) (pe_op op_fdivB (pe_op op_mod (pv 2) pe_int) pe_int) (fun _ _ => rfl)))))
      (pss_cons (ps_cut (ps_if (PW.pt (pw_or (pt_cmpR op_gt (pe_cal c__law_size (hr.mono (by decide)) rfl (pa_cons (pv 0) (pa_cons (pv 5) pa_nil))) pe_int (nomark _)) (pw_or1 (pt_cmpR op_gt (pe_cal c__law_years (hr.mono (by decide)) rfl (pa_cons (pv 0) (pa_cons (pv 5) pa_nil))) pe_int (nomark _)))))
        (pss_one (ps_set (i := 5) sc_law_step.nd rfl (by first | exact Or.inl rfl | exact Or.inr rfl) pe_int))
        pss_nil))
      (pss_one (ps_ret (pe_tup (pa_cons (pv 3) (pa_cons (pv 4) (pa_cons (pv 5) (pa_cons (pv 6) pa_nil)))))))))), ?_⟩
  walk_at "rdc"
  refine rd_gtup hw rfl ?_
  walk_at "rdc"
  refine ⟨two, fun l hl => ?_⟩
  have s1 := same_new hl (.lst [.int 6, .int 800])
  have t1 : upd H l (.lst [.int 6, .int 800]) l = some (.lst (([6, 800] : List Int).map V.int)) := upd_same
  generalize upd H l (.lst [.int 6, .int 800]) = H1 at s1 t1 ⊢
  walk_at "rdc"
  obtain ⟨o, ho, o0, o1⟩ : ∃ o, atI (([6, 800] : List Int).map V.int) (c % 3 / 2) = some (V.int o) ∧ 1 ≤ o ∧ o ≤ 800 := by
    rcases (by omega : c % 3 / 2 = 0 ∨ c % 3 / 2 = 1) with e | e <;> rw [e]
    · exact ⟨6, rfl, by decide, by decide⟩
    · exact ⟨800, rfl, by decide, by decide⟩
  refine rd_ixL (SqL.of t1) ho ?_
  walk_at "rdc"
  have w0 := Int.emod_nonneg (c / 3) (show o ≠ 0 by omega)
  have w1 := Int.emod_lt_of_pos (c / 3) (show 0 < o by omega)
  generalize hs : 1 + c / 3 % o = sp
  have S1 := CalO.same S s1
  have z1 := dSize_one g
  refine rd_cut (fun σ' H' => Same H H' ∧ ∃ s' : Int, σ' = [some (.ref x), some (.ref w'), some (.int c), some (oI m), some (oI i), some (.int s'), some (.int r)] ∧ 1 ≤ s' ∧ s' ≤ 800 ∧ dSize d s' ≤ 4400) ?_ ?_
  · walk_at "rdc"
    refine ⟨x, d, sp, rfl, S1, by omega, by omega, b1, b2, fun H2 s2 => ?_⟩
    have S2 := CalO.same S1 s2
    have s12 := s1.trans s2
    walk_at "rdc"
    refine ite2d (fun h1 => iteT ?_) (fun h1 => ?_)
    · walk_at "rdc"
      exact ⟨s12, 1, rfl, by decide, by decide, by omega⟩
    · walk_at "rdc"
      refine ⟨x, d, sp, rfl, S2, by omega, by omega, b1, fun H3 s3 => ?_⟩
      walk_at "rdc"
      refine ite2d (fun h2 => ?_) (fun h2 => ?_)
      · walk_at "rdc"
        exact ⟨s12.trans s3, 1, rfl, by decide, by decide, by omega⟩
      · walk_at "rdc"
        exact ⟨s12.trans s3, sp, rfl, by omega, by omega, by omega⟩
  rintro σ' H2 ⟨s2, s', rfl, a0, a1, a2⟩
  walk_at "rdc"
  refine ⟨(by show 4 ≤ sizeLine; decide), fun p hp => ?_⟩
  exact q p s' _ (s2.trans (same_new hp _)) upd_same a0 a1 a2
theorem sc_law_is_short : FnScope ["_law_calendar"] ["_law_calendar"] (defScope s_law_is_short) := ⟨rfl, rfl, rfl, by decide +kernel, rfl, by decide +kernel, by decide +kernel⟩
theorem ok_law_is_short {f : Addr} {fd : FuncData} (F : Fun K "_law_is_short" "_law_is_short" s_law_is_short f fd) (er : Errs K mg c_FeastError c_NoNumber c_TooLong c_NoMeasure c_NoDate c_Measure c_Calendar c_Sun c_Moon) (c_Sun_cycle : CalM P w K mg base CX0 3 c_Sun "cycle" ["self"] (spCyc K c_Sun c_Measure)) (c_Moon_cycle : CalM P w K mg base CX0 3 c_Moon "cycle" ["self"] (spMCyc K c_Moon c_Measure)) : FnOk P w K mg base CX0 4 f fd ["_law_calendar"] (spShort40 K c_Sun c_Moon c_Measure) := by
  refine F.ok (k := 3) sc_law_is_short (fun vs H Q E h => ?_) (fun cdv A outer s H vs Q E hr h => ?_)
  · obtain ⟨x, d, rfl, _⟩ := h
    rfl
  obtain ⟨x, d, rfl, S, q⟩ := h
  refine ⟨_, (pss_one (ps_ret (pe_and (pe_cmpR op_le (pe_ix ix_tup (pe_mcalL0 (k := 3) (CalL.cons er.cl_Sun c_Sun_cycle (by decide) (CalL.cons er.cl_Moon c_Moon_cycle (by decide) CalL.nil)) (hr.mono (by decide)) (pv 0)) pe_int (fun _ _ => rfl)) pe_int (nomark _)) (pe_one (pe_cmpR op_le (pe_ix ix_tup (pe_mcalL0 (k := 3) (CalL.cons er.cl_Sun c_Sun_cycle (by decide) (CalL.cons er.cl_Moon c_Moon_cycle (by decide) CalL.nil)) (hr.mono (by decide)) (pv 0)) pe_int (fun _ _ => rfl)) pe_int (nomark _)))))), ?_⟩
  walk_at "rdc"
  obtain ⟨C, dx, fs, sp, mem, e, lk, use⟩ := S.cyc
  refine ⟨x, C, dx, fs, sp, mem, rfl, e, lk, ?_⟩
  refine use S fun p H1 s1 t1 => ?_
  clear C dx fs sp mem e lk use
  have S1 := CalO.same S s1
  walk_at "rdc"
  refine rd_ixT (SqT.of t1) rfl ?_
  walk_at "rdc"
  refine ite2d (fun h1 => ?_) (fun h1 => ?_)
  · walk_at "rdc"
    obtain ⟨C, dx, fs, sp, mem, e, lk, use⟩ := S1.cyc
    refine ⟨x, C, dx, fs, sp, mem, rfl, e, lk, ?_⟩
    refine use S1 fun p2 H2 s2 t2 => ?_
    clear C dx fs sp mem e lk use
    walk_at "rdc"
    refine rd_ixT (SqT.of t2) rfl ?_
    walk_at "rdc"
    exact q _ _ (s1.trans s2) fun z => ⟨h1, of_decide_eq_true z⟩
  · exact q _ _ s1 fun z => by cases z
theorem sc_law_made : FnScope ["_law_calendar", "_law_wanted_here", "_law_cell", "_law_month", "_law_day", "_law_step_here", "_law_rest"] ["_law_calendar", "_law_wanted_here", "_law_cell"] (defScope s_law_made) := ⟨rfl, rfl, rfl, by decide +kernel, rfl, by decide +kernel, by decide +kernel⟩
theorem ok_law_made {f : Addr} {fd : FuncData} (F : Fun K "_law_made" "_law_made" s_law_made f fd) (c_dated_d1 : L2.CalD P w K mg base (CX1 P w) 5 "dated" ["calendar", "month", "day", "step", "rest"] [.non, .non, (.int 1), (.int 0)] (spDated40 K c_Sun c_Moon c_Measure c_NoNumber c_TooLong)) (c_dated_d2 : L2.CalD P w K mg base (CX1 P w) 5 "dated" ["calendar", "month", "day", "step", "rest"] [.non, (.int 1), (.int 0)] (spDated40 K c_Sun c_Moon c_Measure c_NoNumber c_TooLong)) (c_dated_d3 : L2.CalD P w K mg base (CX1 P w) 5 "dated" ["calendar", "month", "day", "step", "rest"] [(.int 1), (.int 0)] (spDated40 K c_Sun c_Moon c_Measure c_NoNumber c_TooLong)) (c_dated : CalE P w K mg base 5 "dated" ["calendar", "month", "day", "step", "rest"] (spDated40 K c_Sun c_Moon c_Measure c_NoNumber c_TooLong)) : FnOk P w K mg base CX0 6 f fd ["_law_calendar", "_law_wanted_here", "_law_cell"] (spMade40 K c_Sun c_Moon c_Measure) := by
  refine F.ok (k := 5) sc_law_made (fun vs H Q E h => ?_) (fun cdv A outer s H vs Q E hr h => ?_)
  · obtain ⟨x, w', d, c, m, i, st, r, rfl, _⟩ := h
    rfl
  obtain ⟨x, w', d, c, m, i, st, r, rfl, S, b1, b2, hw, W, st8, dz, q⟩ := h
  have bs : Bt 300 st := bt_small (by have := W.st; omega) (by omega) (by decide)
  refine ⟨_, (pss_cons (ps_asg (pv 1) (pg_tup rfl (pgs_cons (pg_name (i := 3) sc_law_made.nd rfl (by first | exact Or.inl rfl | exact Or.inr rfl)) (pgs_cons (pg_name (i := 4) sc_law_made.nd rfl (by first | exact Or.inl rfl | exact Or.inr rfl)) (pgs_cons (pg_name (i := 5) sc_law_made.nd rfl (by first | exact Or.inl rfl | exact Or.inr rfl)) (pgs_cons (pg_name (i := 6) sc_law_made.nd rfl (by first | exact Or.inl rfl | exact Or.inr rfl)) pgs_nil))))))
      (pss_cons (ps_if (PW.pt (pw_and (pt_cmpR op_eq (pv 5) pe_int (nomark _)) (pw_and1 (pt_cmpR op_eq (pe_op op_mod (pv 2) pe_int) pe_int (nomark _)))))
        (pss_cons (ps_if (PW.pt (pw_and (pt_cmpR op_isN (pv 4) pe_non (nomark _)) (pw_and1 (pt_cmpR op_isN (pv 3) pe_non (nomark _)))))
        (pss_one (ps_ret (pe_calED thr_never c_dated_d1 (hr.mono (by decide)) rfl (pa_cons (pv 0) pa_nil))))
        pss_nil)
      (pss_cons (ps_if (pt_cmpR op_isN (pv 4) pe_non (nomark _))
        (pss_one (ps_ret (pe_calED thr_never c_dated_d2 (hr.mono (by decide)) rfl (pa_cons (pv 0) (pa_cons (pv 3) pa_nil)))))
        pss_nil)
      (pss_one (ps_ret (pe_calED thr_never c_dated_d3 (hr.mono (by decide)) rfl (pa_cons (pv 0) (pa_cons (pv 3) (pa_cons (pv 4) pa_nil))))))))
        pss_nil)
      (pss_one (ps_ret (pe_calE thr_never c_dated (hr.mono (by decide)) rfl (pa_cons (pv 0) (pa_cons (pv 3) (pa_cons (pv 4) (pa_cons (pv 5) (pa_cons (pv 6) pa_nil)))))))))), ?_⟩
  walk_at "rdx"
  refine rd_gtup hw rfl ?_
  walk_at "rdx"
  have big : ∀ (r' : Int) (E' : XK), (st = 1 ∨ r' = r) → spDated40 K c_Sun c_Moon c_Measure c_NoNumber c_TooLong [.ref x, oI m, oI i, .int st, .int r'] H Q E' := fun r' E' hr' =>
    ⟨x, d, m, i, st, r', rfl, S, b1, b2, bs, fun z => absurd W z, fun _ z => absurd z (by omega), fun _ _ p b H' s t lt on => q p b H' s t lt fun h1 h2 => (on h1 h2).trans (by
      rcases hr' with e | e
      · subst e
        exact Wants.one
      · rw [e])⟩
  by_cases c1 : st = 1
  · refine iteD (congrArg V.int c1) ?_
    walk_at "rdx"
    by_cases c2 : c % 3 = 0
    · refine iteD (congrArg V.int c2) ?_
      walk_at "rdx"
      refine ⟨rfl, ?_⟩
      subst c1
      cases i with
      | none =>
        walk_at "rdx"
        refine iteT ?_
        walk_at "rdx"
        refine ⟨rfl, ?_⟩
        cases m with
        | none =>
          walk_at "rdx"
          refine iteT ?_
          walk_at "rdx"
          exact big 0 _ (.inl rfl)
        | some j =>
          walk_at "rdx"
          refine iteF ?_
          walk_at "rdx"
          refine ⟨rfl, ?_⟩
          walk_at "rdx"
          refine iteT ?_
          walk_at "rdx"
          exact big 0 _ (.inl rfl)
      | some j =>
        walk_at "rdx"
        refine iteF (iteF ?_)
        walk_at "rdx"
        refine ⟨rfl, ?_⟩
        walk_at "rdx"
        refine iteF ?_
        walk_at "rdx"
        exact big 0 _ (.inl rfl)
    · refine iteN (fun z => c2 (V.int.inj z)) ?_
      walk_at "rdx"
      exact big r _ (.inr rfl)
  · refine iteN (fun z => c1 (V.int.inj z)) ?_
    refine iteF ?_
    walk_at "rdx"
    exact big r _ (.inr rfl)
theorem sc_law_aimed : FnScope ["_law_calendar", "_law_wanted_here", "_law_number_here", "_law_month", "_law_day", "_law_step_here", "_law_rest", "_law_year", "_law_lengths", "_law_found"] ["_law_calendar", "_law_wanted_here", "_law_number_here"] (defScope s_law_aimed) := ⟨rfl, rfl, rfl, by decide +kernel, rfl, by decide +kernel, by decide +kernel⟩
theorem ok_law_aimed {f : Addr} {fd : FuncData} (F : Fun K "_law_aimed" "_law_aimed" s_law_aimed f fd) (er : Errs K mg c_FeastError c_NoNumber c_TooLong c_NoMeasure c_NoDate c_Measure c_Calendar c_Sun c_Moon) (c_Sun_lengths : CalM P w K mg base CX0 3 c_Sun "lengths" ["self", "year"] (spLens K c_Sun c_Measure)) (c_Moon_lengths : CalM P w K mg base CX0 3 c_Moon "lengths" ["self", "year"] (spMLens K c_Moon c_Measure)) (c_Sun_day_of : CalM P w K mg base (CX1 P w) 4 c_Sun "day_of" ["self", "date"] (spDayE K c_Sun c_Moon c_Measure c_NoDate true)) (c_Moon_day_of : CalM P w K mg base (CX1 P w) 4 c_Moon "day_of" ["self", "date"] (spDayE K c_Sun c_Moon c_Measure c_NoDate false)) (z_len : mg "len" = none) : FnOk P w K mg base CX0 5 f fd ["_law_calendar", "_law_wanted_here", "_law_number_here"] (spAimed40 K c_Sun c_Moon c_Measure) := by
  refine F.ok (k := 4) sc_law_aimed (fun vs H Q E h => ?_) (fun cdv A outer s H vs Q E hr h => ?_)
  · obtain ⟨x, w', d, n, m, i, st, r, rfl, _⟩ := h
    rfl
  obtain ⟨x, w', d, n, m, i, st, r, rfl, S, bd, hw, W, st8, om, oi, br, bn, q⟩ := h
  have st1 := W.st
  have g := CalO.good S
  have bs : Bt 10 st := by unfold Bt; omega
  have by0 : Bt 211 (r + st * n) := ((br.mono (show 200 ≤ 210 by decide)).add (bs.mul bn)).mono (by decide)
  have ln := CalD.len g (r + st * n)
  have lm := CalD.mem g (r + st * n)
  refine ⟨_, (pss_cons (ps_asg (pv 1) (pg_tup rfl (pgs_cons (pg_name (i := 3) sc_law_aimed.nd rfl (by first | exact Or.inl rfl | exact Or.inr rfl)) (pgs_cons (pg_name (i := 4) sc_law_aimed.nd rfl (by first | exact Or.inl rfl | exact Or.inr rfl)) (pgs_cons (pg_name (i := 5) sc_law_aimed.nd rfl (by first | exact Or.inl rfl | exact Or.inr rfl)) (pgs_cons (pg_name (i := 6) sc_law_aimed.nd rfl (by first | exact Or.inl rfl | exact Or.inr rfl)) pgs_nil))))))
      (pss_cons (ps_cut (ps_if (pt_cmpR op_isN (pv 3) pe_non (nomark _))
        (pss_one (ps_set (i := 3) sc_law_aimed.nd rfl (by first | exact Or.inl rfl | exact Or.inr rfl) pe_int))
        pss_nil))
      (pss_cons (ps_set (i := 7) sc_law_aimed.nd rfl (by first | exact Or.inl rfl | exact Or.inr rfl) (pe_op op_add (pv 6) (pe_op op_mulB (pv 5) (pv 2))))
      (pss_cons (ps_set (i := 8) sc_law_aimed.nd rfl (by first | exact Or.inl rfl | exact Or.inr rfl) (pe_mcalL (k := 3) (CalL.cons er.cl_Sun c_Sun_lengths (by decide) (CalL.cons er.cl_Moon c_Moon_lengths (by decide) CalL.nil)) (hr.mono (by decide)) (pv 0) (pa_cons (pv 7) pa_nil)))
      (pss_cons (ps_cut (ps_if (pt_cmpR op_isN (pv 4) pe_non (nomark _))
        (pss_one (ps_set (i := 4) sc_law_aimed.nd rfl (by first | exact Or.inl rfl | exact Or.inr rfl) (pe_op op_add pe_int (pe_op op_mod (pv 2) pe_int))))
        pss_nil))
      (pss_cons (ps_cut (ps_if (PW.pt (pw_and (pt_cmpR op_lt (pv 4) pe_int (nomark _)) (pw_and1 (pt_cmpR op_le (pv 3) (pe_callB call_len_seq rfl z_len PySem.boot_len (pa_cons (pv 8) pa_nil)) (nomark _)))))
        (pss_one (ps_set (i := 4) sc_law_aimed.nd rfl (by first | exact Or.inl rfl | exact Or.inr rfl) (pe_op op_add (pe_op op_add (pe_ix ix_list (pv 8) (pe_op op_sub (pv 3) pe_int) (fun _ _ => rfl)) pe_int) (pv 4))))
        pss_nil))
      (pss_cons (ps_set (i := 9) sc_law_aimed.nd rfl (by first | exact Or.inl rfl | exact Or.inr rfl) (pv 2))
      (pss_cons (ps_cut (ps_try rfl rfl (fun _ _ _ T => (pss_one (ps_set (i := 9) sc_law_aimed.nd rfl (by first | exact Or.inl rfl | exact Or.inr rfl) (pe_mcalLE (k := 4) T (CalL.cons er.cl_Sun c_Sun_day_of (by decide) (CalL.cons er.cl_Moon c_Moon_day_of (by decide) CalL.nil)) (hr.mono (by decide)) (pv 0) (pa_cons (pe_tup (pa_cons (pv 7) (pa_cons (pv 3) (pa_cons (pv 4) pa_nil)))) pa_nil)))))
        (phs_cons er.h_NoDate rfl (fun _ => (pss_one (ps_set (i := 9) sc_law_aimed.nd rfl (by first | exact Or.inl rfl | exact Or.inr rfl) (pv 2))))
        phs_nil)))
      (pss_one (ps_ret (pv 9))))))))))), ?_⟩
  walk_at "rdx"
  refine rd_gtup hw rfl ?_
  walk_at "rdx"
  refine rd_cut (fun σ' H' => H' = H ∧ ∃ mo : Int, 1 ≤ mo ∧ Bt 200 mo ∧ σ' = [some (.ref x), some (.ref w'), some (.int n), some (.int mo), some (oI i), some (.int st), some (.int r), none, none, none]) ?_ ?_
  · cases m with
    | none =>
      walk_at "rdx"
      refine ⟨rfl, ?_⟩
      walk_at "rdx"
      refine iteT ?_
      walk_at "rdx"
      exact ⟨rfl, 1, by decide, bt_of (by decide) (by decide), rfl⟩
    | some mo =>
      walk_at "rdx"
      refine ⟨rfl, ?_⟩
      walk_at "rdx"
      refine iteF ?_
      walk_at "rdx"
      exact ⟨rfl, mo, W.m1 mo rfl, om mo rfl, rfl⟩
  rintro σ' H ⟨rfl, mo, mo1, bmo, rfl⟩
  walk_at "rdx"
  refine rd_i ⟨10, 200, bs, bn, by decide⟩ ?_
  walk_at "rdx"
  generalize r + st * n = y at *
  obtain ⟨C, dx, fs, sp, mem, e, lk, use⟩ := S.le
  refine ⟨x, C, dx, fs, sp, mem, rfl, e, lk, ?_⟩
  walk_at "rdx"
  refine use S (by0.mono (by decide)) fun l H1 hl s1 t1 => ?_
  clear C dx fs sp mem e lk use
  have S1 := CalO.same S s1
  walk_at "rdx"
  refine rd_cut (fun σ' H' => H' = H1 ∧ ∃ di : Int, Bt 201 di ∧ σ' = [some (.ref x), some (.ref w'), some (.int n), some (.int mo), some (.int di), some (.int st), some (.int r), some (.int y), some (.ref l), none]) ?_ ?_
  · cases i with
    | none =>
      walk_at "rdx"
      refine ⟨rfl, ?_⟩
      walk_at "rdx"
      refine iteT ?_
      walk_at "rdx"
      exact ⟨rfl, _, (bt_of (by omega) (by omega)).mono (by decide), rfl⟩
    | some di =>
      walk_at "rdx"
      refine ⟨rfl, ?_⟩
      walk_at "rdx"
      refine iteF ?_
      walk_at "rdx"
      exact ⟨rfl, di, (oi di rfl).mono (by decide), rfl⟩
  rintro σ' H1 ⟨rfl, di, bdi, rfl⟩
  walk_at "rdx"
  refine rd_cut (fun σ' H' => H' = H1 ∧ ∃ di : Int, Bt 220 di ∧ σ' = [some (.ref x), some (.ref w'), some (.int n), some (.int mo), some (.int di), some (.int st), some (.int r), some (.int y), some (.ref l), none]) ?_ ?_
  · walk_at "rdx"
    refine ite2d (fun h1 => ?_) (fun h1 => ?_)
    · walk_at "rdx"
      refine ⟨l, _, rfl, .inl (SqL.of t1), ?_⟩
      walk_at "rdx"
      rw [List.length_map]
      refine ite2d (fun h2 => ?_) (fun h2 => ?_)
      · walk_at "rdx"
        have hat : atI ((d.L y).map V.int) (mo - 1) = some (V.int ((d.L y).getD (mo - 1).toNat 0)) := at_ints (by omega) (by omega)
        refine rd_ixL (SqL.of t1) hat ?_
        walk_at "rdx"
        have lg := lm _ (getD_mem' (ls := d.L y) (i := (mo - 1).toNat) (by omega))
        refine ⟨rfl, _, ?_, rfl⟩
        have bb : Bt 201 ((d.L y).getD (mo - 1).toNat 0 + 1) := bt_small (by omega) (by omega) (by decide)
        exact (bb.add bdi).mono (by decide)
      · walk_at "rdx"
        exact ⟨rfl, di, bdi.mono (by decide), rfl⟩
    · refine iteF ?_
      walk_at "rdx"
      exact ⟨rfl, di, bdi.mono (by decide), rfl⟩
  rintro σ' H1 ⟨rfl, di, bdi, rfl⟩
  walk_at "rdx"
  refine rd_cut (fun σ' H' => Same H1 H' ∧ ∃ v : Int, Bt 260 v ∧ σ' = [some (.ref x), some (.ref w'), some (.int n), some (.int mo), some (.int di), some (.int st), some (.int r), some (.int y), some (.ref l), some (.int v)]) ?_ ?_
  · walk_at "rdx"
    obtain ⟨C, dx, fs, sp, mem, e, lk, use⟩ := CalO.dyE (cD := c_NoDate) S1
    refine ⟨x, C, dx, fs, sp, mem, rfl, e, lk, ?_⟩
    walk_at "rdx"
    refine ⟨three, fun p hp => ?_⟩
    have s2 := same_new hp (.tup [.int y, .int mo, .int di])
    have t2 : upd H1 p (.tup [.int y, .int mo, .int di]) p = some (.tup [.int y, .int mo, .int di]) := upd_same
    generalize upd H1 p (.tup [.int y, .int mo, .int di]) = H2 at s2 t2 ⊢
    have S2 := CalO.same S1 s2
    walk_at "rdx"
    refine use S2 (SqT.of t2) (by0.mono (by decide)) (bmo.mono (by decide)) (bdi.mono (by decide)) (fun hd H3 s3 => ?_) (fun hd dd H3 s3 hx => ?_)
    · have nb := CalT.nb (c := .one d) (k := 211) g (Bt.mono bd (by decide)) by0 ⟨hd, rfl⟩
      walk_at "rdx"
      exact ⟨s2.trans s3, _, nb.mono (by decide), rfl⟩
    · intro ea hea
      refine rd_hand er.r_NoDate_NoDate ?_
      walk_at "rdx"
      exact ⟨(s2.trans s3).trans (same_new hea _), n, bn.mono (by decide), rfl⟩
  rintro σ' H2 ⟨s2, v, bv, rfl⟩
  walk_at "rdx"
  exact q v _ (s1.trans s2) bv
theorem sc_law_due : FnScope ["_law_calendar", "_law_wanted_here", "_law_day", "_law_month", "_law_number_here", "_law_step_here", "_law_rest", "_law_date", "_law_most"] ["_law_calendar", "_law_wanted_here", "_law_day"] (defScope s_law_due) := ⟨rfl, rfl, rfl, by decide +kernel, rfl, by decide +kernel, by decide +kernel⟩
theorem ok_law_due {f : Addr} {fd : FuncData} (F : Fun K "_law_due" "_law_due" s_law_due f fd) (er : Errs K mg c_FeastError c_NoNumber c_TooLong c_NoMeasure c_NoDate c_Measure c_Calendar c_Sun c_Moon) (c_Sun_date_of : CalM P w K mg base CX0 5 c_Sun "date_of" ["self", "day"] (spDate K c_Sun c_Moon c_Measure true)) (c_Moon_date_of : CalM P w K mg base CX0 5 c_Moon "date_of" ["self", "day"] (spDate K c_Sun c_Moon c_Measure false)) (c_Sun_lengths : CalM P w K mg base CX0 3 c_Sun "lengths" ["self", "year"] (spLens K c_Sun c_Measure)) (c_Moon_lengths : CalM P w K mg base CX0 3 c_Moon "lengths" ["self", "year"] (spMLens K c_Moon c_Measure)) : FnOk P w K mg base CX0 6 f fd ["_law_calendar", "_law_wanted_here", "_law_day"] (spDue40 K c_Sun c_Moon c_Measure) := by
  refine F.ok (k := 5) sc_law_due (fun vs H Q E h => ?_) (fun cdv A outer s H vs Q E hr h => ?_)
  · obtain ⟨x, w', d, t, m, i, st, r, rfl, _⟩ := h
    rfl
  obtain ⟨x, w', d, t, m, i, st, r, rfl, S, hw, W, bt, q⟩ := h
  have st1 := W.st
  have g := CalO.good S
  refine ⟨_, (pss_cons (ps_asg (pv 1) (pg_tup rfl (pgs_cons (pg_name (i := 3) sc_law_due.nd rfl (by first | exact Or.inl rfl | exact Or.inr rfl)) (pgs_cons (pg_name (i := 4) sc_law_due.nd rfl (by first | exact Or.inl rfl | exact Or.inr rfl)) (pgs_cons (pg_name (i := 5) sc_law_due.nd rfl (by first | exact Or.inl rfl | exact Or.inr rfl)) (pgs_cons (pg_name (i := 6) sc_law_due.nd rfl (by first | exact Or.inl rfl | exact Or.inr rfl)) pgs_nil))))))
      (pss_cons (ps_set (i := 7) sc_law_due.nd rfl (by first | exact Or.inl rfl | exact Or.inr rfl) (pe_mcalL (k := 5) (CalL.cons er.cl_Sun c_Sun_date_of (by decide) (CalL.cons er.cl_Moon c_Moon_date_of (by decide) CalL.nil)) (hr.mono (by decide)) (pv 0) (pa_cons (pv 2) pa_nil)))
      (pss_cons (ps_set (i := 8) sc_law_due.nd rfl (by first | exact Or.inl rfl | exact Or.inr rfl) (pe_ix ix_list (pe_mcalL (k := 3) (CalL.cons er.cl_Sun c_Sun_lengths (by decide) (CalL.cons er.cl_Moon c_Moon_lengths (by decide) CalL.nil)) (hr.mono (by decide)) (pv 0) (pa_cons (pe_ix ix_tup (pv 7) pe_int (fun _ _ => rfl)) pa_nil)) (pe_op op_sub (pe_ix ix_tup (pv 7) pe_int (fun _ _ => rfl)) pe_int) (fun _ _ => rfl)))
      (pss_cons (ps_cut (ps_if (PW.pt (pw_or (PW.pt (pw_and (pt_cmpR op_notN (pv 3) pe_non (nomark _)) (pw_and1 (pt_cmpR op_ne (pe_ix ix_tup (pv 7) pe_int (fun _ _ => rfl)) (pv 3) (nomark _))))) (pw_or1 (pt_cmpR op_ne (pe_op op_mod (pe_op op_sub (pe_ix ix_tup (pv 7) pe_int (fun _ _ => rfl)) (pv 6)) (pv 5)) pe_int (nomark _)))))
        (pss_one (ps_ret pe_bl))
        pss_nil))
      (pss_one (ps_ret (pe_or (pe_cmpR op_isN (pv 4) pe_non (nomark _)) (pe_or (pe_cmpR op_eq (pe_ix ix_tup (pv 7) pe_int (fun _ _ => rfl)) (pv 4) (nomark _)) (pe_one (pe_cmpR op_eq (pe_op op_sub (pe_op op_sub (pe_ix ix_tup (pv 7) pe_int (fun _ _ => rfl)) (pv 8)) pe_int) (pv 4) (nomark _))))))))))), ?_⟩
  walk_at "rdc"
  refine rd_gtup hw rfl ?_
  walk_at "rdc"
  obtain ⟨C, dx, fs, sp, mem, e, lk, use⟩ := S.dt
  refine ⟨x, C, dx, fs, sp, mem, rfl, e, lk, ?_⟩
  walk_at "rdc"
  refine use S bt fun p y mo rr H1 s1 t1 hI eI bY => ?_
  clear C dx fs sp mem e lk use
  have S1 := CalO.same S s1
  walk_at "rdc"
  obtain ⟨C, dx, fs, sp, mem, e, lk, use⟩ := S1.le
  refine ⟨x, C, dx, fs, sp, mem, rfl, e, lk, ?_⟩
  walk_at "rdc"
  refine rd_ixT (SqT.of t1) rfl ?_
  walk_at "rdc"
  refine use S1 (bY.mono (by decide)) fun l H2 hl s2 t2 => ?_
  clear C dx fs sp mem e lk use
  have p2 := s2 _ _ t1
  have m0 := hI.m0
  have m1 := hI.m1
  have hat : atI ((d.L y).map V.int) (mo - 1) = some (V.int ((d.L y).getD (mo - 1).toNat 0)) := at_ints (by omega) (by omega)
  walk_at "rdc"
  refine rd_ixT (SqT.of p2) rfl ?_
  walk_at "rdc"
  refine rd_ixL (SqL.of t2) hat ?_
  have s12 := s1.trans s2
  have fin : ∀ b : Bool, (b = true ↔ Wants d m i st r y mo rr) → Q (.bl b) H2 := fun b hb => q b y mo rr _ s12 hI eI hb
  generalize hLn : (d.L y).getD (mo - 1).toNat 0 = Ln at *
  have W0 : Wants d m i st r y mo rr ↔ (m = none ∨ m = some mo) ∧ (y - r) % st = 0 ∧ (i = none ∨ i = some rr ∨ i = some (rr - Ln - 1)) := by
    unfold Wants
    rw [hLn]
  rw [W0] at fin
  clear W0
  walk_at "rdc"
  refine rd_cut (fun σ' H' => H' = H2 ∧ σ' = [some (.ref x), some (.ref w'), some (.int t), some (oI m), some (oI i), some (.int st), some (.int r), some (.ref p), some (.int Ln)] ∧ (m = none ∨ m = some mo) ∧ (y - r) % st = 0) ?_ ?_
  · walk_at "rdc"
    refine ⟨rfl, ?_⟩
    have no : ¬ ((m = none ∨ m = some mo) ∧ (y - r) % st = 0) → Q (.bl false) H2 := fun z => fin false ⟨fun w => (nomatch w), fun w => absurd ⟨w.1, w.2.1⟩ z⟩
    cases m with
    | none =>
      walk_at "rdc"
      refine iteF (iteF ?_)
      walk_at "rdc"
      refine rd_ixT (SqT.of p2) rfl ?_
      walk_at "rdc"
      by_cases z : (y - r) % st = 0
      · refine iteNS (congrArg V.int z) ?_
        walk_at "rdc"
        exact ⟨rfl, rfl, .inl rfl, z⟩
      · refine iteNN (fun w => z (V.int.inj w)) ?_
        walk_at "rdc"
        exact no fun w => z w.2
    | some j =>
      walk_at "rdc"
      refine iteT ?_
      walk_at "rdc"
      refine rd_ixT (SqT.of p2) rfl ?_
      walk_at "rdc"
      by_cases ej : mo = j
      · refine iteNS (congrArg V.int ej) ?_
        try refine iteF ?_
        walk_at "rdc"
        refine rd_ixT (SqT.of p2) rfl ?_
        walk_at "rdc"
        by_cases z : (y - r) % st = 0
        · refine iteNS (congrArg V.int z) ?_
          walk_at "rdc"
          exact ⟨rfl, rfl, .inr (by rw [ej]), z⟩
        · refine iteNN (fun w => z (V.int.inj w)) ?_
          walk_at "rdc"
          exact no fun w => z w.2
      · refine iteNN (fun w => ej (V.int.inj w)) ?_
        walk_at "rdc"
        refine iteT ?_
        walk_at "rdc"
        refine no fun w => ?_
        rcases w.1 with u | u
        · cases u
        · exact ej (Option.some.inj u).symm
  rintro σ' H2 ⟨rfl, rfl, hm, hy⟩
  walk_at "rdc"
  refine ⟨rfl, ?_⟩
  cases i with
  | none =>
    refine ⟨true, rfl, iteT ?_⟩
    exact fin true ⟨fun _ => ⟨hm, hy, .inl rfl⟩, fun _ => rfl⟩
  | some j =>
    refine ⟨false, rfl, iteF ?_⟩
    walk_at "rdc"
    refine rd_ixT (SqT.of p2) rfl ?_
    walk_at "rdc"
    by_cases e1 : rr = j
    · refine iteD (congrArg V.int e1) ?_
      exact fin true ⟨fun _ => ⟨hm, hy, .inr (.inl (by rw [e1]))⟩, fun _ => rfl⟩
    · refine iteN (fun z => e1 (V.int.inj z)) ?_
      walk_at "rdc"
      refine rd_ixT (SqT.of p2) rfl ?_
      walk_at "rdc"
      refine fin _ ⟨fun z => ⟨hm, hy, .inr (.inr (congrArg some (V.int.inj (of_decide_eq_true z)).symm))⟩, fun z => decide_eq_true (congrArg V.int ?_)⟩
      rcases z.2.2 with u | u | u
      · cases u
      · exact absurd (Option.some.inj u).symm e1
      · exact (Option.some.inj u).symm
theorem sc_law : FnScope ["_law_script", "_law_calendar", "_law_wanted_here", "_law_found", "_law_day", "_law_one"] ["_law_script"] (defScope s_law) := ⟨rfl, rfl, rfl, by decide +kernel, rfl, by decide +kernel, by decide +kernel⟩
theorem ok_law {f : Addr} {fd : FuncData} (F : Fun K "law" "law" s_law f fd) (c__law_sun : Cal P w K mg base 9 "_law_sun" ["_law_script"] (spCal40 K c_Sun c_Moon c_Measure)) (c__law_cell_at : Cal P w K mg base 1 "_law_cell_at" ["_law_script", "_law_k"] (spCell K)) (c__law_moon : Cal P w K mg base 7 "_law_moon" ["_law_script"] (spCal40 K c_Sun c_Moon c_Measure)) (c__law_wanted : Cal P w K mg base 2 "_law_wanted" ["_law_script"] (spWanted40 K)) (c__law_is_short : Cal P w K mg base 4 "_law_is_short" ["_law_calendar"] (spShort40 K c_Sun c_Moon c_Measure)) (c__law_any : Cal P w K mg base 9 "_law_any" ["_law_script"] (spAny40 K c_Sun c_Moon c_Measure)) (c__law_step : Cal P w K mg base 6 "_law_step" ["_law_calendar", "_law_wanted_here", "_law_cell"] (spStep40 K c_Sun c_Moon c_Measure)) (c__law_made : Cal P w K mg base 6 "_law_made" ["_law_calendar", "_law_wanted_here", "_law_cell"] (spMade40 K c_Sun c_Moon c_Measure)) (c__law_whole : Cal P w K mg base 1 "_law_whole" ["_law_found"] spWhole) (c__law_size : Cal P w K mg base 5 "_law_size" ["_law_calendar", "_law_step_here"] (spSize40 K c_Sun c_Moon c_Measure)) (c__law_number : Cal P w K mg base 1 "_law_number" ["_law_cell"] spNumB) (c__law_aimed : Cal P w K mg base 5 "_law_aimed" ["_law_calendar", "_law_wanted_here", "_law_number_here"] (spAimed40 K c_Sun c_Moon c_Measure)) (c__law_due : Cal P w K mg base 6 "_law_due" ["_law_calendar", "_law_wanted_here", "_law_day"] (spDue40 K c_Sun c_Moon c_Measure)) (z_isinstance : mg "isinstance" = none) (z_tuple : mg "tuple" = none) (z_len : mg "len" = none) : FnOk P w K mg base CX0 10 f fd ["_law_script"] (spLaw K) := by
  refine F.ok (k := 9) sc_law (fun vs H Q E h => ?_) (fun cdv A outer s H vs Q E hr h => ?_)
  · obtain ⟨a, ns, rfl, _⟩ := h
    rfl
  obtain ⟨a, ns, rfl, hS, h63, hB, q⟩ := h
  refine ⟨_, (pss_cons (ps_set (i := 1) sc_law.nd rfl (by first | exact Or.inl rfl | exact Or.inr rfl) (pe_cal c__law_sun (hr.mono (by decide)) rfl (pa_cons (pv 0) pa_nil)))
      (pss_cons (ps_cut (ps_if (pt_cmpR op_eq (pe_op op_mod (pe_cal c__law_cell_at (hr.mono (by decide)) rfl (pa_cons (pv 0) (pa_cons pe_int pa_nil))) pe_int) pe_int (nomark _))
        (pss_one (ps_set (i := 1) sc_law.nd rfl (by first | exact Or.inl rfl | exact Or.inr rfl) (pe_cal c__law_moon (hr.mono (by decide)) rfl (pa_cons (pv 0) pa_nil))))
        pss_nil))
      (pss_cons (ps_set (i := 2) sc_law.nd rfl (by first | exact Or.inl rfl | exact Or.inr rfl) (pe_cal c__law_wanted (hr.mono (by decide)) rfl (pa_cons (pv 0) pa_nil)))
      (pss_cons (ps_cut (ps_if (PW.pt (pw_and (pt_cmpR op_eq (pe_op op_mod (pe_op op_fdivB (pe_cal c__law_cell_at (hr.mono (by decide)) rfl (pa_cons (pv 0) (pa_cons pe_int pa_nil))) pe_int) pe_int) pe_int (nomark _)) (pw_and1 (pt_val (pe_cal c__law_is_short (hr.mono (by decide)) rfl (pa_cons (pe_cal c__law_any (hr.mono (by decide)) rfl (pa_cons (pv 0) pa_nil)) pa_nil))))))
        (pss_cons (ps_set (i := 1) sc_law.nd rfl (by first | exact Or.inl rfl | exact Or.inr rfl) (pe_cal c__law_any (hr.mono (by decide)) rfl (pa_cons (pv 0) pa_nil)))
      (pss_one (ps_set (i := 2) sc_law.nd rfl (by first | exact Or.inl rfl | exact Or.inr rfl) (pe_cal c__law_step (hr.mono (by decide)) rfl (pa_cons (pv 1) (pa_cons (pv 2) (pa_cons (pe_cal c__law_cell_at (hr.mono (by decide)) rfl (pa_cons (pv 0) (pa_cons pe_int pa_nil))) pa_nil)))))))
        pss_nil))
      (pss_cons (ps_set (i := 3) sc_law.nd rfl (by first | exact Or.inl rfl | exact Or.inr rfl) (pe_cal c__law_made (hr.mono (by decide)) rfl (pa_cons (pv 1) (pa_cons (pv 2) (pa_cons (pe_cal c__law_cell_at (hr.mono (by decide)) rfl (pa_cons (pv 0) (pa_cons pe_int pa_nil))) pa_nil)))))
      (pss_cons (ps_if (PW.pt (pw_or (pt_not (pt_val (pe_callB call_isi rfl z_isinstance PyProof.Rows.boot_isinstance (pa_cons (pv 3) (pa_cons (pe_bltn rfl z_tuple PyProof.Rows.boot_tuple (rel_ty _)) pa_nil))))) (pw_or1 (pt_cmpR op_ne (pe_callB call_len_seq rfl z_len PySem.boot_len (pa_cons (pv 3) pa_nil)) pe_int (nomark _)))))
        (pss_one (ps_ret pe_bl))
        pss_nil)
      (pss_cons (ps_if (PW.pt (pw_or (pt_not (pt_val (pe_cal c__law_whole (hr.mono (by decide)) rfl (pa_cons (pe_ix ix_tup (pv 3) pe_int (fun _ _ => rfl)) pa_nil)))) (pw_or1 (pt_not (pt_val (pe_cal c__law_whole (hr.mono (by decide)) rfl (pa_cons (pe_ix ix_tup (pv 3) pe_int (fun _ _ => rfl)) pa_nil)))))))
        (pss_one (ps_ret pe_bl))
        pss_nil)
      (pss_cons (ps_if (PW.pt (pw_or (pt_cmpR op_ne (pe_ix ix_tup (pv 3) pe_int (fun _ _ => rfl)) (pe_cal c__law_size (hr.mono (by decide)) rfl (pa_cons (pv 1) (pa_cons (pe_ix ix_tup (pv 2) pe_int (fun _ _ => rfl)) pa_nil))) (nomark _)) (pw_or (pt_cmpR op_lt (pe_ix ix_tup (pv 3) pe_int (fun _ _ => rfl)) pe_int (nomark _)) (pw_or1 (pt_cmpR op_ne (pe_op op_shr (pe_ix ix_tup (pv 3) pe_int (fun _ _ => rfl)) (pe_ix ix_tup (pv 3) pe_int (fun _ _ => rfl))) pe_int (nomark _))))))
        (pss_one (ps_ret pe_bl))
        pss_nil)
      (pss_cons (ps_set (i := 4) sc_law.nd rfl (by first | exact Or.inl rfl | exact Or.inr rfl) (pe_cal c__law_number (hr.mono (by decide)) rfl (pa_cons (pe_cal c__law_cell_at (hr.mono (by decide)) rfl (pa_cons (pv 0) (pa_cons pe_int pa_nil))) pa_nil)))
      (pss_cons (ps_for PassesOwn.never rfl (pi_list (pe_lst (pa_cons (pv 4) (pa_cons (pe_cal c__law_aimed (hr.mono (by decide)) rfl (pa_cons (pv 1) (pa_cons (pv 2) (pa_cons (pv 4) pa_nil)))) (pa_cons (pe_op op_add (pe_cal c__law_aimed (hr.mono (by decide)) rfl (pa_cons (pv 1) (pa_cons (pv 2) (pa_cons (pv 4) pa_nil)))) pe_int) pa_nil))))) (pg_name (i := 5) sc_law.nd rfl (by first | exact Or.inl rfl | exact Or.inr rfl))
        (pss_one (ps_if (pt_cmpR op_ne (pe_cmpR op_eq (pe_op op_and (pe_op op_shr (pe_ix ix_tup (pv 3) pe_int (fun _ _ => rfl)) (pe_op op_mod (pv 5) (pe_ix ix_tup (pv 3) pe_int (fun _ _ => rfl)))) pe_int) pe_int (nomark _)) (pe_cal c__law_due (hr.mono (by decide)) rfl (pa_cons (pv 1) (pa_cons (pv 2) (pa_cons (pv 5) pa_nil)))) (nomark _))
        (pss_one (ps_ret pe_bl))
        pss_nil)))
      (pss_one (ps_ret pe_bl)))))))))))), ?_⟩
  walk_at "rdc"
  refine ⟨a, ns, rfl, hS, h63, fun x0 d0 H0 s0 S0 y0 z0 b0 => ?_⟩
  have hS0 := s0.seq hS
  walk_at "rdc"
  refine rd_cut (fun σ' H' => Same H H' ∧ ∃ (x : Addr) (d : CalD), σ' = [some (.ref a), some (.ref x), none, none, none, none] ∧ CalO K c_Sun c_Moon c_Measure H' x d ∧ d.cy.1 ≤ 400 ∧ d.cy.2 ≤ 30000 ∧ Bt 200 d.st) ?_ ?_
  · walk_at "rdc"
    by_cases c1 : ns.getD (Int.toNat 0) 0 % 2 = 1
    · refine iteD (congrArg V.int c1) ?_
      walk_at "rdc"
      refine ⟨a, ns, rfl, hS0, h63, fun x1 d1 H1 s1 S1 y1 z1 b1 => ?_⟩
      walk_at "rdc"
      exact ⟨s0.trans s1, x1, d1, rfl, S1, y1, z1, b1⟩
    · refine iteN (fun z => c1 (V.int.inj z)) ?_
      walk_at "rdc"
      exact ⟨s0, x0, d0, rfl, S0, y0, z0, b0⟩
  clear S0 y0 z0 b0 hS0 s0
  rintro σ' H0 ⟨s0, x0, d0, rfl, S0, y0, z0, b0⟩
  have hS0 := s0.seq hS
  walk_at "rdc"
  refine ⟨a, ns, rfl, hS0, h63, fun w0 m i st0 r H1 s1 t1 W1 st4 om oi br => ?_⟩
  have hS1 := s1.seq hS0
  have S1 := CalO.same S0 s1
  have g0 := CalO.good S0
  walk_at "rdc"
  refine rd_cut (fun σ' H' => Same H H' ∧ ∃ (x w' : Addr) (d : CalD) (st : Int), σ' = [some (.ref a), some (.ref x), some (.ref w'), none, none, none] ∧ CalO K c_Sun c_Moon c_Measure H' x d ∧ Bt 200 d.st ∧ Bt 200 d.cy.1 ∧ Bt 200 d.cy.2 ∧ H' w' = some (.tup [oI m, oI i, .int st, .int r]) ∧ WantOk m i st ∧ st ≤ 800 ∧ dSize d st ≤ 150000) ?_ ?_
  · have old : ∀ H', Same H1 H' → Same H H' ∧ ∃ (x w' : Addr) (d : CalD) (st : Int), [some (V.ref a), some (.ref x0), some (.ref w0), none, none, none] = [some (.ref a), some (.ref x), some (.ref w'), none, none, none] ∧ CalO K c_Sun c_Moon c_Measure H' x d ∧ Bt 200 d.st ∧ Bt 200 d.cy.1 ∧ Bt 200 d.cy.2 ∧ H' w' = some (.tup [oI m, oI i, .int st, .int r]) ∧ WantOk m i st ∧ st ≤ 800 ∧ dSize d st ≤ 150000 := fun H' s' => by
      have c1 := CalD.cy_pos g0
      have c2 := CalD.cy_le g0
      have st1 := W1.st
      have le := dSize_le g0 st1
      have m1 := mul_le2 st4 z0 (by omega) (by decide)
      exact ⟨(s0.trans s1).trans s', x0, w0, d0, st0, rfl, CalO.same S1 s', b0, bt_of (by omega) (by omega), bt_of (by omega) (by omega), s' _ _ t1, W1, by omega, by omega⟩
    walk_at "rdc"
    by_cases c1 : ns.getD (Int.toNat 0) 0 / 2 % 3 = 2
    · refine iteD (congrArg V.int c1) ?_
      walk_at "rdc"
      refine ⟨a, ns, rfl, hS1, h63, fun x2 s2' H2 s2 b2 S2 => ?_⟩
      have hS2 := s2.seq hS1
      walk_at "rdc"
      refine ⟨x2, _, rfl, S2, fun sh H3 s3 hsh => ?_⟩
      have hS3 := s3.seq hS2
      walk_at "rdc"
      cases sh with
      | false =>
        refine iteF ?_
        walk_at "rdc"
        exact old H3 (s2.trans s3)
      | true =>
        refine iteT ?_
        obtain ⟨k1, k2⟩ := hsh rfl
        walk_at "rdc"
        refine ⟨a, ns, rfl, hS3, h63, fun x4 s4' H4 s4 b4 S4 => ?_⟩
        have hS4 := s4.seq hS3
        rw [anyD_cy ns s2' s4'] at k1 k2
        have t4 := s4 _ _ (s3 _ _ (s2 _ _ t1))
        have g4 := CalO.good S4
        have c1 := CalD.cy_pos g4
        have c2 := CalD.cy_le g4
        have est : (anyD ns s4').st = s4' := by unfold anyD; split <;> rfl
        have bst : Bt 200 (anyD ns s4').st := by rw [est]; exact b4
        generalize anyD ns s4' = d4 at *
        walk_at "rdc"
        refine ⟨x4, w0, d4, _, m, i, st0, r, rfl, S4, k1, k2, SqT.of t4, fun p st' H5 s5 t5 a0 a1 a2 => ?_⟩
        walk_at "rdc"
        exact ⟨(s0.trans s1).trans ((s2.trans s3).trans (s4.trans s5)), x4, p, d4, st', rfl, CalO.same S4 s5, bst, bt_of (by omega) (by omega), bt_of (by omega) (by omega), t5, ⟨W1.m1, W1.d0, a0⟩, a1, by omega⟩
    · refine iteN (fun z => c1 (V.int.inj z)) ?_
      try refine iteF ?_
      walk_at "rdc"
      exact old H1 (Same.refl _)
  clear S1 hS1 t1 s1 S0 y0 z0 b0 s0 hS0 W1 st4 g0
  rintro σ' H1 ⟨s1, x, w', d, st, rfl, S1, bd, b1, b2, t1, W, st8, dz⟩
  have hS1 := s1.seq hS
  have g := CalO.good S1
  have st1 := W.st
  have df := dSize_facts g st1
  walk_at "rdc"
  refine ⟨x, w', d, _, m, i, st, r, rfl, S1, b1, b2, SqT.of t1, W, st8, dz, fun p b H2 s2 t2 lt on => ?_⟩
  have S2 := CalO.same S1 s2
  have w2 := s2 _ _ t1
  have hS2 := s2.seq hS1
  walk_at "rdc"
  refine rd_isi (.tup t2) (kit_tt K) ?_
  walk_at "rdc"
  refine iteF ?_
  walk_at "rdc"
  refine ⟨p, _, rfl, .inr (SqT.of t2), ?_⟩
  walk_at "rdc"
  refine iteNS rfl ?_
  walk_at "rdc"
  refine rd_ixT (SqT.of t2) rfl ?_
  refine ⟨_, rfl, ?_⟩
  walk_at "rdc"
  refine iteF ?_
  walk_at "rdc"
  refine rd_ixT (SqT.of t2) rfl ?_
  refine ⟨_, rfl, ?_⟩
  walk_at "rdc"
  refine iteF ?_
  walk_at "rdc"
  refine rd_ixT (SqT.of t2) rfl ?_
  walk_at "rdc"
  refine rd_ixT (SqT.of w2) rfl ?_
  walk_at "rdc"
  refine ⟨x, d, st, rfl, S2, st1, st8, b1, b2, fun H3 s3 => ?_⟩
  have S3 := CalO.same S2 s3
  have w3 := s3 _ _ w2
  have t3 := s3 _ _ t2
  have hS3 := s3.seq hS2
  have Z0 : 0 < dSize d st := by omega
  generalize dSize d st = Z at *
  walk_at "rdc"
  refine iteNS rfl ?_
  walk_at "rdc"
  refine rd_ixT (SqT.of t3) rfl ?_
  walk_at "rdc"
  refine iteN (by omega) ?_
  walk_at "rdc"
  refine rd_ixT (SqT.of t3) rfl ?_
  walk_at "rdc"
  refine rd_ixT (SqT.of t3) rfl ?_
  walk_at "rdc"
  refine rd_i (show 0 ≤ Z by omega) ?_
  have e0 : (b : Int) / 2 ^ Z.toNat = 0 := by
    have : ((b : Int)) / 2 ^ Z.toNat = ((b / 2 ^ Z.toNat : Nat) : Int) := by push_cast; rfl
    rw [this, Nat.div_eq_of_lt lt]
    rfl
  rw [e0]
  walk_at "rdc"
  refine iteNS rfl ?_
  walk_at "rdc"
  refine ⟨_, rfl, fun n H4 s4 n0 n1 => ?_⟩
  have bn : Bt 200 n := bt_of (by omega) (by omega)
  have S4 := CalO.same S3 s4
  have w4 := s4 _ _ w3
  have t4 := s4 _ _ t3
  walk_at "rdc"
  refine rd_for (rd_iL ?_)
  walk_at "rdc"
  refine ⟨x, w', d, n, m, i, st, r, rfl, S4, bd, SqT.of w4, W, st8, om, oi, br, bn, fun v1 H5 s5 bv1 => ?_⟩
  have S5 := CalO.same S4 s5
  have w5 := s5 _ _ w4
  have t5 := s5 _ _ t4
  walk_at "rdc"
  refine ⟨x, w', d, n, m, i, st, r, rfl, S5, bd, SqT.of w5, W, st8, om, oi, br, bn, fun v2 H6 s6 bv2 => ?_⟩
  have S6 := CalO.same S5 s6
  have w6 := s6 _ _ w5
  have t6 := s6 _ _ t5
  walk_at "rdc"
  refine ⟨three, fun l hl => ?_⟩
  have s7 := same_new hl (.lst [V.int n, V.int v1, V.int (v2 + 1)])
  have t7 : upd H6 l (.lst [V.int n, V.int v1, V.int (v2 + 1)]) l = some (.lst [V.int n, V.int v1, V.int (v2 + 1)]) := upd_same
  generalize upd H6 l (.lst [V.int n, V.int v1, V.int (v2 + 1)]) = H7 at s7 t7 ⊢
  have S7 := CalO.same S6 s7
  have w7 := s7 _ _ w6
  have p7 := s7 _ _ t6
  refine ⟨l, rfl, ⟨_, SqL.of t7⟩, for_list (xs := [V.int n, V.int v1, V.int (v2 + 1)]) (fun k σ' H' => Same H7 H' ∧ ∃ v : Option V, σ' = [some (.ref a), some (.ref x), some (.ref w'), some (.ref p), some (.int n), v]) ⟨Same.refl _, none, rfl⟩ ?_ ?_ ?_⟩
  · rintro k σ' H' _ ⟨sH, _⟩
    exact SqL.of (sH _ _ t7)
  · rintro k v0 σ' H' hv ⟨sH, v, rfl⟩
    obtain ⟨t, rfl, bt⟩ : ∃ t : Int, v0 = .int t ∧ Bt 290 t := by
      rcases List.mem_cons.mp (List.mem_of_getElem? hv) with e | e
      · exact ⟨n, e, bn.mono (by decide)⟩
      rcases List.mem_cons.mp e with e | e
      · exact ⟨v1, e, bv1.mono (by decide)⟩
      · refine ⟨v2 + 1, List.mem_singleton.mp e, ?_⟩
        exact (bv2.add (show Bt 260 1 from bt_small (by decide) (by decide) (by decide))).mono (by decide)
    have S8 := CalO.same S7 sH
    have w8 := sH _ _ w7
    have p8 := sH _ _ p7
    walk_at "rdc"
    refine rd_ixT (SqT.of p8) rfl ?_
    walk_at "rdc"
    refine rd_ixT (SqT.of p8) rfl ?_
    walk_at "rdc"
    have e0 := Int.emod_nonneg t (show Z ≠ 0 by omega)
    refine rd_i (show 0 ≤ t % Z by omega) ?_
    walk_at "rdc"
    rw [bit1_40]
    refine ⟨x, w', d, t, m, i, st, r, rfl, S8, SqT.of w8, W, bt, fun bb y mo rr H9 s9 hI eI hb => ?_⟩
    have hon := on hI eI
    have eb : b.testBit (t % Z).toNat = bb := by
      have z1 : On Z b t = true ↔ bb = true := hon.trans hb.symm
      exact Bool.eq_iff_iff.mpr z1
    rw [eb]
    refine ⟨by cases bb <;> rfl, ?_⟩
    walk_at "rdc"
    refine iteNS rfl ?_
    walk_at "rdc"
    exact ⟨sH.trans s9, _, rfl⟩
  · rintro σ' H' ⟨sH, v, rfl⟩
    walk_at "rdc"
    exact q _
end
theorem all_mk {l : PySem.W.OpenLaw} {w : World} {K : PySem.W.Frag} {h : Heap} {mg : Str → Option Value} {fa f0 f1 f2 f3 f4 f5 f6 f7 f8 f9 f10 f11 f12 f13 f14 f15 f16 f17 f18 f19 f20 f21 f22 f23 f24 f25 f26 f27 f28 f29 f30 f31 f32 f33 f34 f35 f36 f37 f38 f39 f40 f41 f42 f43 f44 f45 f46 f47 f48 f49 f50 f51 f52 f53 f54 f55 f56 f57 f58 : Addr} {c_FeastError c_NoNumber c_TooLong c_NoMeasure c_NoDate c_Measure c_Calendar c_Sun c_Moon : Addr} (X : K.In h) (G : h.Ns mainGlobals mg) (hfa : mg "law" = some (.ref fa))
    {od0 an0 od1 an1 od2 an2 od3 an3 od4 an4 od5 an5 od6 an6 od7 an7 od8 an8 od9 an9 od10 an10 od11 an11 od12 an12 od13 an13 od14 an14 od15 an15 od16 an16 od17 an17 od18 an18 od19 an19 od20 an20 od21 an21 od22 an22 od23 an23 od24 an24 od25 an25 od26 an26 od27 an27 od28 an28 od29 an29 od30 an30 od31 an31 od32 an32 od33 an33 od34 an34 od35 an35 od36 an36 od37 an37 od38 an38 od39 an39 od40 an40 od41 an41 od42 an42 od43 an43 od44 an44 od45 an45 od46 an46 od47 an47 od48 an48 od49 an49 od50 an50 od51 an51 od52 an52 od53 an53 od54 an54 od55 an55 od56 an56 od57 an57 od58 an58 : Option Addr} {sl0 sl1 sl2 sl3 sl4 sl5 sl6 sl7 sl8 sl9 sl10 sl11 sl12 sl13 sl14 sl15 sl16 sl17 sl18 sl19 sl20 sl21 sl22 sl23 sl24 sl25 sl26 sl27 sl28 sl29 sl30 sl31 sl32 sl33 sl34 sl35 sl36 sl37 sl38 sl39 sl40 sl41 sl42 sl43 sl44 sl45 sl46 sl47 sl48 sl49 sl50 sl51 sl52 sl53 sl54 sl55 sl56 sl57 sl58 : Array (Option Value)} {oc0 kV0 dc0 pm0 cd0 ct0 oc1 kV1 dc1 pm1 cd1 ct1 oc2 kV2 dc2 pm2 cd2 ct2 oc3 kV3 dc3 pm3 cd3 ct3 oc4 kV4 dc4 pm4 cd4 ct4 oc5 kV5 dc5 pm5 cd5 ct5 oc6 kV6 dc6 pm6 cd6 ct6 oc7 kV7 dc7 pm7 cd7 ct7 oc8 kV8 dc8 pm8 cd8 ct8 oc9 kV9 dc9 pm9 cd9 ct9 oc10 kV10 dc10 pm10 cd10 ct10 oc11 kV11 dc11 pm11 cd11 ct11 oc12 kV12 dc12 pm12 cd12 ct12 oc13 kV13 dc13 pm13 cd13 ct13 oc14 kV14 dc14 pm14 cd14 ct14 oc15 kV15 dc15 pm15 cd15 ct15 oc16 kV16 dc16 pm16 cd16 ct16 oc17 kV17 dc17 pm17 cd17 ct17 oc18 kV18 dc18 pm18 cd18 ct18 oc19 kV19 dc19 pm19 cd19 ct19 oc20 kV20 dc20 pm20 cd20 ct20 oc21 kV21 dc21 pm21 cd21 ct21 oc22 kV22 dc22 pm22 cd22 ct22 oc23 kV23 dc23 pm23 cd23 ct23 oc24 kV24 dc24 pm24 cd24 ct24 oc25 kV25 dc25 pm25 cd25 ct25 oc26 kV26 dc26 pm26 cd26 ct26 oc27 kV27 dc27 pm27 cd27 ct27 oc28 kV28 dc28 pm28 cd28 ct28 oc29 kV29 dc29 pm29 cd29 ct29 oc30 kV30 dc30 pm30 cd30 ct30 oc31 kV31 dc31 pm31 cd31 ct31 oc32 kV32 dc32 pm32 cd32 ct32 oc33 kV33 dc33 pm33 cd33 ct33 oc34 kV34 dc34 pm34 cd34 ct34 oc35 kV35 dc35 pm35 cd35 ct35 oc36 kV36 dc36 pm36 cd36 ct36 oc37 kV37 dc37 pm37 cd37 ct37 oc38 kV38 dc38 pm38 cd38 ct38 oc39 kV39 dc39 pm39 cd39 ct39 oc40 kV40 dc40 pm40 cd40 ct40 oc41 kV41 dc41 pm41 cd41 ct41 oc42 kV42 dc42 pm42 cd42 ct42 oc43 kV43 dc43 pm43 cd43 ct43 oc44 kV44 dc44 pm44 cd44 ct44 oc45 kV45 dc45 pm45 cd45 ct45 oc46 kV46 dc46 pm46 cd46 ct46 oc47 kV47 dc47 pm47 cd47 ct47 oc48 kV48 dc48 pm48 cd48 ct48 oc49 kV49 dc49 pm49 cd49 ct49 oc50 kV50 dc50 pm50 cd50 ct50 oc51 kV51 dc51 pm51 cd51 ct51 oc52 kV52 dc52 pm52 cd52 ct52 oc53 kV53 dc53 pm53 cd53 ct53 oc54 kV54 dc54 pm54 cd54 ct54 oc55 kV55 dc55 pm55 cd55 ct55 oc56 kV56 dc56 pm56 cd56 ct56 oc57 kV57 dc57 pm57 cd57 ct57 oc58 kV58 dc58 pm58 cd58 ct58 : Value} {tk_GREATEST_N : Tok} {tk_GREATEST_BASE : Tok} {tk_MOST_TERMS : Tok} {tk_MOST_MONTHS : Tok} {tk_LONGEST_MONTH : Tok} {tk_LONGEST : Tok} {tk_PIECE : Tok}
    {T13 : Addr} {to13 : Value} {td13 : Option Addr} {tn13 : Nat} {ts13 : Array (Option Value)}
    {T18 : Addr} {to18 : Value} {td18 : Option Addr} {tn18 : Nat} {ts18 : Array (Option Value)} {tkd_Sun___init___0 : Tok}
    {T38 : Addr} {to38 : Value} {td38 : Option Addr} {tn38 : Nat} {ts38 : Array (Option Value)} {tkd_dated_2 : Tok} {tkd_dated_3 : Tok}
    {dd_NoDate : Option Addr} {cd_NoDate : ClassData} {q0_NoDate q1_NoDate q2_NoDate q3_NoDate q5_NoDate : Option Value}
    {dd_TooLong : Option Addr} {cd_TooLong : ClassData} {q0_TooLong q1_TooLong q2_TooLong q3_TooLong q5_TooLong : Option Value}
    (n_FeastError : PySem.W.nsIn K mainGlobals "FeastError" = some (some (.ref c_FeastError)))
    (n_NoNumber : PySem.W.nsIn K mainGlobals "NoNumber" = some (some (.ref c_NoNumber)))
    (n_TooLong : PySem.W.nsIn K mainGlobals "TooLong" = some (some (.ref c_TooLong)))
    (n_NoMeasure : PySem.W.nsIn K mainGlobals "NoMeasure" = some (some (.ref c_NoMeasure)))
    (n_NoDate : PySem.W.nsIn K mainGlobals "NoDate" = some (some (.ref c_NoDate)))
    (t_NoDate : PySem.W.typeIn K (.ref c_NoDate) = some (.type "type"))
    (k_NoDate : PySem.W.hasDictIn K c_NoDate = true)
    (b_NoDate : PySem.W.mroIn K c_NoDate (.type "BaseException") = some true)
    (o_NoDate : K.lookup c_NoDate = some ⟨.type "type", dd_NoDate, .cls cd_NoDate, #[q0_NoDate, q1_NoDate, q2_NoDate, q3_NoDate, some (.builtin "ValueError.__new__"), q5_NoDate]⟩)
    (om_NoDate : cd_NoDate.mro = .ref c_NoDate :: .ref c_FeastError :: bmV)
    (od_NoDate : cd_NoDate.hasDel = false)
    (oh_NoDate : cd_NoDate.hasDict = true)
    (sa_NoDate : PySem.W.findIn K (.ref c_NoDate) "__setattr__" = some (some (.builtin "object.__setattr__")))
    (kp_NoDate : PySem.W.keepIn K (.ref c_NoDate) = true)
    (e_FeastError : PySem.W.excIn K c_FeastError bmV "ValueError.__new__" = true)
    (fs_FeastError : PySem.W.specialIn K (.ref c_FeastError) "__getattribute__" = some (some (.builtin "type.__getattribute__")))
    (fr_FeastError : PySem.W.readsIn K c_FeastError (.type "type") = true)
    (ff_FeastError : PySem.W.findCls K (.ref c_FeastError) (.type "type") "__init__" = some (.val (.builtin "ValueError.__init__")))
    (na_NoDate_date : PySem.W.findIn K (.ref c_NoDate) "date" = some none)
    (r_NoDate_NoDate : PySem.W.mroIn K c_NoDate (.ref c_NoDate) = some true)
    (e_NoNumber : PySem.W.excIn K c_NoNumber bmV "ValueError.__new__" = true)
    (o_TooLong : K.lookup c_TooLong = some ⟨.type "type", dd_TooLong, .cls cd_TooLong, #[q0_TooLong, q1_TooLong, q2_TooLong, q3_TooLong, some (.builtin "ValueError.__new__"), q5_TooLong]⟩)
    (om_TooLong : cd_TooLong.mro = .ref c_TooLong :: .ref c_FeastError :: bmV)
    (od_TooLong : cd_TooLong.hasDel = false)
    (oh_TooLong : cd_TooLong.hasDict = true)
    (sa_TooLong : PySem.W.findIn K (.ref c_TooLong) "__setattr__" = some (some (.builtin "object.__setattr__")))
    (kp_TooLong : PySem.W.keepIn K (.ref c_TooLong) = true)
    (na_TooLong_needed : PySem.W.findIn K (.ref c_TooLong) "needed" = some none)
    (n_Measure : PySem.W.nsIn K mainGlobals "Measure" = some (some (.ref c_Measure)))
    (pg_Measure : PySem.W.plainGet K c_Measure Str.empty = true)
    (k_Measure : PySem.W.hasDictIn K c_Measure = true)
    (po_Measure : PySem.W.plainOver K c_Measure = true)
    (sa_Measure : PySem.W.findIn K (.ref c_Measure) "__setattr__" = some (some (.builtin "object.__setattr__")))
    (mk_Measure : PySem.W.makesIn K c_Measure = true)
    (kp_Measure : PySem.W.keepIn K (.ref c_Measure) = true)
    (na_Measure_base : PySem.W.findIn K (.ref c_Measure) "base" = some none)
    (na_Measure_terms : PySem.W.findIn K (.ref c_Measure) "terms" = some none)
    (na_Measure_full_count : PySem.W.findIn K (.ref c_Measure) "full_count" = some none)
    (na_Measure_full_sum : PySem.W.findIn K (.ref c_Measure) "full_sum" = some none)
    (n_Sun : PySem.W.nsIn K mainGlobals "Sun" = some (some (.ref c_Sun)))
    (pg_Sun : PySem.W.plainGet K c_Sun Str.empty = true)
    (k_Sun : PySem.W.hasDictIn K c_Sun = true)
    (po_Sun : PySem.W.plainOver K c_Sun = true)
    (sa_Sun : PySem.W.findIn K (.ref c_Sun) "__setattr__" = some (some (.builtin "object.__setattr__")))
    (mk_Sun : PySem.W.makesIn K c_Sun = true)
    (kp_Sun : PySem.W.keepIn K (.ref c_Sun) = true)
    (na_Sun_start : PySem.W.findIn K (.ref c_Sun) "start" = some none)
    (na_Sun_months : PySem.W.findIn K (.ref c_Sun) "months" = some none)
    (na_Sun_leap : PySem.W.findIn K (.ref c_Sun) "leap" = some none)
    (na_Sun_years : PySem.W.findIn K (.ref c_Sun) "years" = some none)
    (n_Moon : PySem.W.nsIn K mainGlobals "Moon" = some (some (.ref c_Moon)))
    (pg_Moon : PySem.W.plainGet K c_Moon Str.empty = true)
    (k_Moon : PySem.W.hasDictIn K c_Moon = true)
    (po_Moon : PySem.W.plainOver K c_Moon = true)
    (sa_Moon : PySem.W.findIn K (.ref c_Moon) "__setattr__" = some (some (.builtin "object.__setattr__")))
    (mk_Moon : PySem.W.makesIn K c_Moon = true)
    (kp_Moon : PySem.W.keepIn K (.ref c_Moon) = true)
    (na_Moon_start : PySem.W.findIn K (.ref c_Moon) "start" = some none)
    (na_Moon_days : PySem.W.findIn K (.ref c_Moon) "days" = some none)
    (na_Moon_many : PySem.W.findIn K (.ref c_Moon) "many" = some none)
    (n_Calendar : PySem.W.nsIn K mainGlobals "Calendar" = some (some (.ref c_Calendar)))
    (a0 : PySem.W.findIn K (.ref c_TooLong) "__init__" = some (some (.ref f0))) (l0 : K.lookup f0 = some ⟨oc0, od0, .func (PySem.W.fnOf "__init__" "TooLong.__init__" (defArgs s_TooLong___init__) (defBody s_TooLong___init__) (defScope s_TooLong___init__) .none kV0 dc0 pm0 an0 cd0 ct0), sl0⟩) (c0 : PySem.W.codeIn K cd0 "TooLong.__init__" = true) (k0 : PySem.W.keepIn K (.ref f0) = true)
    (u0 : PySem.W.typeIn K (.ref f0) = some (.type "function"))
    (a1 : PySem.W.findIn K (.ref c_NoDate) "__init__" = some (some (.ref f1))) (l1 : K.lookup f1 = some ⟨oc1, od1, .func (PySem.W.fnOf "__init__" "NoDate.__init__" (defArgs s_NoDate___init__) (defBody s_NoDate___init__) (defScope s_NoDate___init__) .none kV1 dc1 pm1 an1 cd1 ct1), sl1⟩) (c1 : PySem.W.codeIn K cd1 "NoDate.__init__" = true) (k1 : PySem.W.keepIn K (.ref f1) = true)
    (u1 : PySem.W.typeIn K (.ref f1) = some (.type "function"))
    (a2 : PySem.W.nsIn K mainGlobals "refuse_below_one" = some (some (.ref f2))) (l2 : K.lookup f2 = some ⟨oc2, od2, .func (PySem.W.fnOf "refuse_below_one" "refuse_below_one" (defArgs s_refuse_below_one) (defBody s_refuse_below_one) (defScope s_refuse_below_one) .none kV2 dc2 pm2 an2 cd2 ct2), sl2⟩) (c2 : PySem.W.codeIn K cd2 "refuse_below_one" = true) (k2 : PySem.W.keepIn K (.ref f2) = true)
    (a3 : PySem.W.nsIn K mainGlobals "equation" = some (some (.ref f3))) (l3 : K.lookup f3 = some ⟨oc3, od3, .func (PySem.W.fnOf "equation" "equation" (defArgs s_equation) (defBody s_equation) (defScope s_equation) .none kV3 dc3 pm3 an3 cd3 ct3), sl3⟩) (c3 : PySem.W.codeIn K cd3 "equation" = true) (k3 : PySem.W.keepIn K (.ref f3) = true)
    (a4 : PySem.W.nsIn K mainGlobals "divisor" = some (some (.ref f4))) (l4 : K.lookup f4 = some ⟨oc4, od4, .func (PySem.W.fnOf "divisor" "divisor" (defArgs s_divisor) (defBody s_divisor) (defScope s_divisor) .none kV4 dc4 pm4 an4 cd4 ct4), sl4⟩) (c4 : PySem.W.codeIn K cd4 "divisor" = true) (k4 : PySem.W.keepIn K (.ref f4) = true)
    (a5 : PySem.W.nsIn K mainGlobals "common" = some (some (.ref f5))) (l5 : K.lookup f5 = some ⟨oc5, od5, .func (PySem.W.fnOf "common" "common" (defArgs s_common) (defBody s_common) (defScope s_common) .none kV5 dc5 pm5 an5 cd5 ct5), sl5⟩) (c5 : PySem.W.codeIn K cd5 "common" = true) (k5 : PySem.W.keepIn K (.ref f5) = true)
    (a6 : PySem.W.nsIn K mainGlobals "term_on" = some (some (.ref f6))) (l6 : K.lookup f6 = some ⟨oc6, od6, .func (PySem.W.fnOf "term_on" "term_on" (defArgs s_term_on) (defBody s_term_on) (defScope s_term_on) .none kV6 dc6 pm6 an6 cd6 ct6), sl6⟩) (c6 : PySem.W.codeIn K cd6 "term_on" = true) (k6 : PySem.W.keepIn K (.ref f6) = true)
    (a7 : PySem.W.nsIn K mainGlobals "signs_upto" = some (some (.ref f7))) (l7 : K.lookup f7 = some ⟨oc7, od7, .func (PySem.W.fnOf "signs_upto" "signs_upto" (defArgs s_signs_upto) (defBody s_signs_upto) (defScope s_signs_upto) .none kV7 dc7 pm7 an7 cd7 ct7), sl7⟩) (c7 : PySem.W.codeIn K cd7 "signs_upto" = true) (k7 : PySem.W.keepIn K (.ref f7) = true)
    (a8 : PySem.W.nsIn K mainGlobals "is_term" = some (some (.ref f8))) (l8 : K.lookup f8 = some ⟨oc8, od8, .func (PySem.W.fnOf "is_term" "is_term" (defArgs s_is_term) (defBody s_is_term) (defScope s_is_term) .none kV8 dc8 pm8 an8 cd8 ct8), sl8⟩) (c8 : PySem.W.codeIn K cd8 "is_term" = true) (k8 : PySem.W.keepIn K (.ref f8) = true)
    (a9 : PySem.W.nsIn K mainGlobals "least_length" = some (some (.ref f9))) (l9 : K.lookup f9 = some ⟨oc9, od9, .func (PySem.W.fnOf "least_length" "least_length" (defArgs s_least_length) (defBody s_least_length) (defScope s_least_length) .none kV9 dc9 pm9 an9 cd9 ct9), sl9⟩) (c9 : PySem.W.codeIn K cd9 "least_length" = true) (k9 : PySem.W.keepIn K (.ref f9) = true)
    (a10 : PySem.W.nsIn K mainGlobals "refuse_measure" = some (some (.ref f10))) (l10 : K.lookup f10 = some ⟨oc10, od10, .func (PySem.W.fnOf "refuse_measure" "refuse_measure" (defArgs s_refuse_measure) (defBody s_refuse_measure) (defScope s_refuse_measure) .none kV10 dc10 pm10 an10 cd10 ct10), sl10⟩) (c10 : PySem.W.codeIn K cd10 "refuse_measure" = true) (k10 : PySem.W.keepIn K (.ref f10) = true)
    (a11 : PySem.W.nsIn K mainGlobals "period_of" = some (some (.ref f11))) (l11 : K.lookup f11 = some ⟨oc11, od11, .func (PySem.W.fnOf "period_of" "period_of" (defArgs s_period_of) (defBody s_period_of) (defScope s_period_of) .none kV11 dc11 pm11 an11 cd11 ct11), sl11⟩) (c11 : PySem.W.codeIn K cd11 "period_of" = true) (k11 : PySem.W.keepIn K (.ref f11) = true)
    (a12 : PySem.W.findIn K (.ref c_Measure) "upto" = some (some (.ref f12))) (l12 : K.lookup f12 = some ⟨oc12, od12, .func (PySem.W.fnOf "upto" "Measure.upto" (defArgs s_Measure_upto) (defBody s_Measure_upto) (defScope s_Measure_upto) .none kV12 dc12 pm12 an12 cd12 ct12), sl12⟩) (c12 : PySem.W.codeIn K cd12 "Measure.upto" = true) (k12 : PySem.W.keepIn K (.ref f12) = true)
    (u12 : PySem.W.typeIn K (.ref f12) = some (.type "function"))
    (a13 : PySem.W.findIn K (.ref c_Measure) "__init__" = some (some (.ref f13))) (l13 : K.lookup f13 = some ⟨oc13, od13, .func (PySem.W.fnOf "__init__" "Measure.__init__" (defArgs s_Measure___init__) (defBody s_Measure___init__) (defScope s_Measure___init__) (.ref T13) kV13 dc13 pm13 an13 cd13 ct13), sl13⟩) (c13 : PySem.W.codeIn K cd13 "Measure.__init__" = true) (k13 : PySem.W.keepIn K (.ref f13) = true)
    (t13 : K.lookup T13 = some ⟨to13, td13, .seq #[.none] tn13, ts13⟩)
    (u13 : PySem.W.typeIn K (.ref f13) = some (.type "function"))
    (a14 : PySem.W.findIn K (.ref c_Measure) "at" = some (some (.ref f14))) (l14 : K.lookup f14 = some ⟨oc14, od14, .func (PySem.W.fnOf "at" "Measure.at" (defArgs s_Measure_at) (defBody s_Measure_at) (defScope s_Measure_at) .none kV14 dc14 pm14 an14 cd14 ct14), sl14⟩) (c14 : PySem.W.codeIn K cd14 "Measure.at" = true) (k14 : PySem.W.keepIn K (.ref f14) = true)
    (u14 : PySem.W.typeIn K (.ref f14) = some (.type "function"))
    (a15 : PySem.W.findIn K (.ref c_Measure) "period" = some (some (.ref f15))) (l15 : K.lookup f15 = some ⟨oc15, od15, .func (PySem.W.fnOf "period" "Measure.period" (defArgs s_Measure_period) (defBody s_Measure_period) (defScope s_Measure_period) .none kV15 dc15 pm15 an15 cd15 ct15), sl15⟩) (c15 : PySem.W.codeIn K cd15 "Measure.period" = true) (k15 : PySem.W.keepIn K (.ref f15) = true)
    (u15 : PySem.W.typeIn K (.ref f15) = some (.type "function"))
    (a16 : PySem.W.findIn K (.ref c_Measure) "seek" = some (some (.ref f16))) (l16 : K.lookup f16 = some ⟨oc16, od16, .func (PySem.W.fnOf "seek" "Measure.seek" (defArgs s_Measure_seek) (defBody s_Measure_seek) (defScope s_Measure_seek) .none kV16 dc16 pm16 an16 cd16 ct16), sl16⟩) (c16 : PySem.W.codeIn K cd16 "Measure.seek" = true) (k16 : PySem.W.keepIn K (.ref f16) = true)
    (u16 : PySem.W.typeIn K (.ref f16) = some (.type "function"))
    (a17 : PySem.W.nsIn K mainGlobals "refuse_months" = some (some (.ref f17))) (l17 : K.lookup f17 = some ⟨oc17, od17, .func (PySem.W.fnOf "refuse_months" "refuse_months" (defArgs s_refuse_months) (defBody s_refuse_months) (defScope s_refuse_months) .none kV17 dc17 pm17 an17 cd17 ct17), sl17⟩) (c17 : PySem.W.codeIn K cd17 "refuse_months" = true) (k17 : PySem.W.keepIn K (.ref f17) = true)
    (a18 : PySem.W.findIn K (.ref c_Sun) "__init__" = some (some (.ref f18))) (l18 : K.lookup f18 = some ⟨oc18, od18, .func (PySem.W.fnOf "__init__" "Sun.__init__" (defArgs s_Sun___init__) (defBody s_Sun___init__) (defScope s_Sun___init__) (.ref T18) kV18 dc18 pm18 an18 cd18 ct18), sl18⟩) (c18 : PySem.W.codeIn K cd18 "Sun.__init__" = true) (k18 : PySem.W.keepIn K (.ref f18) = true)
    (t18 : K.lookup T18 = some ⟨to18, td18, .seq #[(.int 1 tkd_Sun___init___0), .none] tn18, ts18⟩)
    (u18 : PySem.W.typeIn K (.ref f18) = some (.type "function"))
    (a19 : PySem.W.findIn K (.ref c_Sun) "year_start" = some (some (.ref f19))) (l19 : K.lookup f19 = some ⟨oc19, od19, .func (PySem.W.fnOf "year_start" "Sun.year_start" (defArgs s_Sun_year_start) (defBody s_Sun_year_start) (defScope s_Sun_year_start) .none kV19 dc19 pm19 an19 cd19 ct19), sl19⟩) (c19 : PySem.W.codeIn K cd19 "Sun.year_start" = true) (k19 : PySem.W.keepIn K (.ref f19) = true)
    (u19 : PySem.W.typeIn K (.ref f19) = some (.type "function"))
    (a20 : PySem.W.findIn K (.ref c_Sun) "year_at" = some (some (.ref f20))) (l20 : K.lookup f20 = some ⟨oc20, od20, .func (PySem.W.fnOf "year_at" "Sun.year_at" (defArgs s_Sun_year_at) (defBody s_Sun_year_at) (defScope s_Sun_year_at) .none kV20 dc20 pm20 an20 cd20 ct20), sl20⟩) (c20 : PySem.W.codeIn K cd20 "Sun.year_at" = true) (k20 : PySem.W.keepIn K (.ref f20) = true)
    (u20 : PySem.W.typeIn K (.ref f20) = some (.type "function"))
    (a21 : PySem.W.findIn K (.ref c_Sun) "lengths" = some (some (.ref f21))) (l21 : K.lookup f21 = some ⟨oc21, od21, .func (PySem.W.fnOf "lengths" "Sun.lengths" (defArgs s_Sun_lengths) (defBody s_Sun_lengths) (defScope s_Sun_lengths) .none kV21 dc21 pm21 an21 cd21 ct21), sl21⟩) (c21 : PySem.W.codeIn K cd21 "Sun.lengths" = true) (k21 : PySem.W.keepIn K (.ref f21) = true)
    (u21 : PySem.W.typeIn K (.ref f21) = some (.type "function"))
    (a22 : PySem.W.findIn K (.ref c_Sun) "cycle" = some (some (.ref f22))) (l22 : K.lookup f22 = some ⟨oc22, od22, .func (PySem.W.fnOf "cycle" "Sun.cycle" (defArgs s_Sun_cycle) (defBody s_Sun_cycle) (defScope s_Sun_cycle) .none kV22 dc22 pm22 an22 cd22 ct22), sl22⟩) (c22 : PySem.W.codeIn K cd22 "Sun.cycle" = true) (k22 : PySem.W.keepIn K (.ref f22) = true)
    (u22 : PySem.W.typeIn K (.ref f22) = some (.type "function"))
    (a23 : PySem.W.nsIn K mainGlobals "refuse_part" = some (some (.ref f23))) (l23 : K.lookup f23 = some ⟨oc23, od23, .func (PySem.W.fnOf "refuse_part" "refuse_part" (defArgs s_refuse_part) (defBody s_refuse_part) (defScope s_refuse_part) .none kV23 dc23 pm23 an23 cd23 ct23), sl23⟩) (c23 : PySem.W.codeIn K cd23 "refuse_part" = true) (k23 : PySem.W.keepIn K (.ref f23) = true)
    (a24 : PySem.W.findIn K (.ref c_Moon) "__init__" = some (some (.ref f24))) (l24 : K.lookup f24 = some ⟨oc24, od24, .func (PySem.W.fnOf "__init__" "Moon.__init__" (defArgs s_Moon___init__) (defBody s_Moon___init__) (defScope s_Moon___init__) .none kV24 dc24 pm24 an24 cd24 ct24), sl24⟩) (c24 : PySem.W.codeIn K cd24 "Moon.__init__" = true) (k24 : PySem.W.keepIn K (.ref f24) = true)
    (u24 : PySem.W.typeIn K (.ref f24) = some (.type "function"))
    (a25 : PySem.W.findIn K (.ref c_Moon) "year_start" = some (some (.ref f25))) (l25 : K.lookup f25 = some ⟨oc25, od25, .func (PySem.W.fnOf "year_start" "Moon.year_start" (defArgs s_Moon_year_start) (defBody s_Moon_year_start) (defScope s_Moon_year_start) .none kV25 dc25 pm25 an25 cd25 ct25), sl25⟩) (c25 : PySem.W.codeIn K cd25 "Moon.year_start" = true) (k25 : PySem.W.keepIn K (.ref f25) = true)
    (u25 : PySem.W.typeIn K (.ref f25) = some (.type "function"))
    (a26 : PySem.W.findIn K (.ref c_Moon) "year_at" = some (some (.ref f26))) (l26 : K.lookup f26 = some ⟨oc26, od26, .func (PySem.W.fnOf "year_at" "Moon.year_at" (defArgs s_Moon_year_at) (defBody s_Moon_year_at) (defScope s_Moon_year_at) .none kV26 dc26 pm26 an26 cd26 ct26), sl26⟩) (c26 : PySem.W.codeIn K cd26 "Moon.year_at" = true) (k26 : PySem.W.keepIn K (.ref f26) = true)
    (u26 : PySem.W.typeIn K (.ref f26) = some (.type "function"))
    (a27 : PySem.W.findIn K (.ref c_Moon) "lengths" = some (some (.ref f27))) (l27 : K.lookup f27 = some ⟨oc27, od27, .func (PySem.W.fnOf "lengths" "Moon.lengths" (defArgs s_Moon_lengths) (defBody s_Moon_lengths) (defScope s_Moon_lengths) .none kV27 dc27 pm27 an27 cd27 ct27), sl27⟩) (c27 : PySem.W.codeIn K cd27 "Moon.lengths" = true) (k27 : PySem.W.keepIn K (.ref f27) = true)
    (u27 : PySem.W.typeIn K (.ref f27) = some (.type "function"))
    (a28 : PySem.W.findIn K (.ref c_Moon) "cycle" = some (some (.ref f28))) (l28 : K.lookup f28 = some ⟨oc28, od28, .func (PySem.W.fnOf "cycle" "Moon.cycle" (defArgs s_Moon_cycle) (defBody s_Moon_cycle) (defScope s_Moon_cycle) .none kV28 dc28 pm28 an28 cd28 ct28), sl28⟩) (c28 : PySem.W.codeIn K cd28 "Moon.cycle" = true) (k28 : PySem.W.keepIn K (.ref f28) = true)
    (u28 : PySem.W.typeIn K (.ref f28) = some (.type "function"))
    (a29 : PySem.W.findIn K (.ref c_Sun) "date_of" = some (some (.ref f29))) (l29 : K.lookup f29 = some ⟨oc29, od29, .func (PySem.W.fnOf "date_of" "Calendar.date_of" (defArgs s_Sun_date_of) (defBody s_Sun_date_of) (defScope s_Sun_date_of) .none kV29 dc29 pm29 an29 cd29 ct29), sl29⟩) (c29 : PySem.W.codeIn K cd29 "Calendar.date_of" = true) (k29 : PySem.W.keepIn K (.ref f29) = true)
    (u29 : PySem.W.typeIn K (.ref f29) = some (.type "function"))
    (a30 : PySem.W.findIn K (.ref c_Moon) "date_of" = some (some (.ref f30))) (l30 : K.lookup f30 = some ⟨oc30, od30, .func (PySem.W.fnOf "date_of" "Calendar.date_of" (defArgs s_Moon_date_of) (defBody s_Moon_date_of) (defScope s_Moon_date_of) .none kV30 dc30 pm30 an30 cd30 ct30), sl30⟩) (c30 : PySem.W.codeIn K cd30 "Calendar.date_of" = true) (k30 : PySem.W.keepIn K (.ref f30) = true)
    (u30 : PySem.W.typeIn K (.ref f30) = some (.type "function"))
    (a31 : PySem.W.findIn K (.ref c_Sun) "day_of" = some (some (.ref f31))) (l31 : K.lookup f31 = some ⟨oc31, od31, .func (PySem.W.fnOf "day_of" "Calendar.day_of" (defArgs s_Sun_day_of) (defBody s_Sun_day_of) (defScope s_Sun_day_of) .none kV31 dc31 pm31 an31 cd31 ct31), sl31⟩) (c31 : PySem.W.codeIn K cd31 "Calendar.day_of" = true) (k31 : PySem.W.keepIn K (.ref f31) = true)
    (u31 : PySem.W.typeIn K (.ref f31) = some (.type "function"))
    (a32 : PySem.W.findIn K (.ref c_Moon) "day_of" = some (some (.ref f32))) (l32 : K.lookup f32 = some ⟨oc32, od32, .func (PySem.W.fnOf "day_of" "Calendar.day_of" (defArgs s_Moon_day_of) (defBody s_Moon_day_of) (defScope s_Moon_day_of) .none kV32 dc32 pm32 an32 cd32 ct32), sl32⟩) (c32 : PySem.W.codeIn K cd32 "Calendar.day_of" = true) (k32 : PySem.W.keepIn K (.ref f32) = true)
    (u32 : PySem.W.typeIn K (.ref f32) = some (.type "function"))
    (a33 : PySem.W.nsIn K mainGlobals "refuse_too_long" = some (some (.ref f33))) (l33 : K.lookup f33 = some ⟨oc33, od33, .func (PySem.W.fnOf "refuse_too_long" "refuse_too_long" (defArgs s_refuse_too_long) (defBody s_refuse_too_long) (defScope s_refuse_too_long) .none kV33 dc33 pm33 an33 cd33 ct33), sl33⟩) (c33 : PySem.W.codeIn K cd33 "refuse_too_long" = true) (k33 : PySem.W.keepIn K (.ref f33) = true)
    (a34 : PySem.W.nsIn K mainGlobals "round_by" = some (some (.ref f34))) (l34 : K.lookup f34 = some ⟨oc34, od34, .func (PySem.W.fnOf "round_by" "round_by" (defArgs s_round_by) (defBody s_round_by) (defScope s_round_by) .none kV34 dc34 pm34 an34 cd34 ct34), sl34⟩) (c34 : PySem.W.codeIn K cd34 "round_by" = true) (k34 : PySem.W.keepIn K (.ref f34) = true)
    (a35 : PySem.W.nsIn K mainGlobals "refuse_wanted" = some (some (.ref f35))) (l35 : K.lookup f35 = some ⟨oc35, od35, .func (PySem.W.fnOf "refuse_wanted" "refuse_wanted" (defArgs s_refuse_wanted) (defBody s_refuse_wanted) (defScope s_refuse_wanted) .none kV35 dc35 pm35 an35 cd35 ct35), sl35⟩) (c35 : PySem.W.codeIn K cd35 "refuse_wanted" = true) (k35 : PySem.W.keepIn K (.ref f35) = true)
    (a36 : PySem.W.nsIn K mainGlobals "days_of_month" = some (some (.ref f36))) (l36 : K.lookup f36 = some ⟨oc36, od36, .func (PySem.W.fnOf "days_of_month" "days_of_month" (defArgs s_days_of_month) (defBody s_days_of_month) (defScope s_days_of_month) .none kV36 dc36 pm36 an36 cd36 ct36), sl36⟩) (c36 : PySem.W.codeIn K cd36 "days_of_month" = true) (k36 : PySem.W.keepIn K (.ref f36) = true)
    (a37 : PySem.W.nsIn K mainGlobals "days_of_year" = some (some (.ref f37))) (l37 : K.lookup f37 = some ⟨oc37, od37, .func (PySem.W.fnOf "days_of_year" "days_of_year" (defArgs s_days_of_year) (defBody s_days_of_year) (defScope s_days_of_year) .none kV37 dc37 pm37 an37 cd37 ct37), sl37⟩) (c37 : PySem.W.codeIn K cd37 "days_of_year" = true) (k37 : PySem.W.keepIn K (.ref f37) = true)
    (a38 : PySem.W.nsIn K mainGlobals "dated" = some (some (.ref f38))) (l38 : K.lookup f38 = some ⟨oc38, od38, .func (PySem.W.fnOf "dated" "dated" (defArgs s_dated) (defBody s_dated) (defScope s_dated) (.ref T38) kV38 dc38 pm38 an38 cd38 ct38), sl38⟩) (c38 : PySem.W.codeIn K cd38 "dated" = true) (k38 : PySem.W.keepIn K (.ref f38) = true)
    (t38 : K.lookup T38 = some ⟨to38, td38, .seq #[.none, .none, (.int 1 tkd_dated_2), (.int 0 tkd_dated_3)] tn38, ts38⟩)
    (a39 : PySem.W.nsIn K mainGlobals "_law_cell_at" = some (some (.ref f39))) (l39 : K.lookup f39 = some ⟨oc39, od39, .func (PySem.W.fnOf "_law_cell_at" "_law_cell_at" (defArgs s_law_cell_at) (defBody s_law_cell_at) (defScope s_law_cell_at) .none kV39 dc39 pm39 an39 cd39 ct39), sl39⟩) (c39 : PySem.W.codeIn K cd39 "_law_cell_at" = true) (k39 : PySem.W.keepIn K (.ref f39) = true)
    (a40 : PySem.W.nsIn K mainGlobals "_law_whole" = some (some (.ref f40))) (l40 : K.lookup f40 = some ⟨oc40, od40, .func (PySem.W.fnOf "_law_whole" "_law_whole" (defArgs s_law_whole) (defBody s_law_whole) (defScope s_law_whole) .none kV40 dc40 pm40 an40 cd40 ct40), sl40⟩) (c40 : PySem.W.codeIn K cd40 "_law_whole" = true) (k40 : PySem.W.keepIn K (.ref f40) = true)
    (a41 : PySem.W.nsIn K mainGlobals "_law_number" = some (some (.ref f41))) (l41 : K.lookup f41 = some ⟨oc41, od41, .func (PySem.W.fnOf "_law_number" "_law_number" (defArgs s_law_number) (defBody s_law_number) (defScope s_law_number) .none kV41 dc41 pm41 an41 cd41 ct41), sl41⟩) (c41 : PySem.W.codeIn K cd41 "_law_number" = true) (k41 : PySem.W.keepIn K (.ref f41) = true)
    (a42 : PySem.W.nsIn K mainGlobals "_law_mixed" = some (some (.ref f42))) (l42 : K.lookup f42 = some ⟨oc42, od42, .func (PySem.W.fnOf "_law_mixed" "_law_mixed" (defArgs s_law_mixed) (defBody s_law_mixed) (defScope s_law_mixed) .none kV42 dc42 pm42 an42 cd42 ct42), sl42⟩) (c42 : PySem.W.codeIn K cd42 "_law_mixed" = true) (k42 : PySem.W.keepIn K (.ref f42) = true)
    (a43 : PySem.W.nsIn K mainGlobals "_law_any_term" = some (some (.ref f43))) (l43 : K.lookup f43 = some ⟨oc43, od43, .func (PySem.W.fnOf "_law_any_term" "_law_any_term" (defArgs s_law_any_term) (defBody s_law_any_term) (defScope s_law_any_term) .none kV43 dc43 pm43 an43 cd43 ct43), sl43⟩) (c43 : PySem.W.codeIn K cd43 "_law_any_term" = true) (k43 : PySem.W.keepIn K (.ref f43) = true)
    (a44 : PySem.W.nsIn K mainGlobals "_law_any_terms" = some (some (.ref f44))) (l44 : K.lookup f44 = some ⟨oc44, od44, .func (PySem.W.fnOf "_law_any_terms" "_law_any_terms" (defArgs s_law_any_terms) (defBody s_law_any_terms) (defScope s_law_any_terms) .none kV44 dc44 pm44 an44 cd44 ct44), sl44⟩) (c44 : PySem.W.codeIn K cd44 "_law_any_terms" = true) (k44 : PySem.W.keepIn K (.ref f44) = true)
    (a45 : PySem.W.nsIn K mainGlobals "_law_any_measure" = some (some (.ref f45))) (l45 : K.lookup f45 = some ⟨oc45, od45, .func (PySem.W.fnOf "_law_any_measure" "_law_any_measure" (defArgs s_law_any_measure) (defBody s_law_any_measure) (defScope s_law_any_measure) .none kV45 dc45 pm45 an45 cd45 ct45), sl45⟩) (c45 : PySem.W.codeIn K cd45 "_law_any_measure" = true) (k45 : PySem.W.keepIn K (.ref f45) = true)
    (a46 : PySem.W.nsIn K mainGlobals "_law_any" = some (some (.ref f46))) (l46 : K.lookup f46 = some ⟨oc46, od46, .func (PySem.W.fnOf "_law_any" "_law_any" (defArgs s_law_any) (defBody s_law_any) (defScope s_law_any) .none kV46 dc46 pm46 an46 cd46 ct46), sl46⟩) (c46 : PySem.W.codeIn K cd46 "_law_any" = true) (k46 : PySem.W.keepIn K (.ref f46) = true)
    (a47 : PySem.W.nsIn K mainGlobals "_law_term" = some (some (.ref f47))) (l47 : K.lookup f47 = some ⟨oc47, od47, .func (PySem.W.fnOf "_law_term" "_law_term" (defArgs s_law_term) (defBody s_law_term) (defScope s_law_term) .none kV47 dc47 pm47 an47 cd47 ct47), sl47⟩) (c47 : PySem.W.codeIn K cd47 "_law_term" = true) (k47 : PySem.W.keepIn K (.ref f47) = true)
    (a48 : PySem.W.nsIn K mainGlobals "_law_sun" = some (some (.ref f48))) (l48 : K.lookup f48 = some ⟨oc48, od48, .func (PySem.W.fnOf "_law_sun" "_law_sun" (defArgs s_law_sun) (defBody s_law_sun) (defScope s_law_sun) .none kV48 dc48 pm48 an48 cd48 ct48), sl48⟩) (c48 : PySem.W.codeIn K cd48 "_law_sun" = true) (k48 : PySem.W.keepIn K (.ref f48) = true)
    (a49 : PySem.W.nsIn K mainGlobals "_law_moon" = some (some (.ref f49))) (l49 : K.lookup f49 = some ⟨oc49, od49, .func (PySem.W.fnOf "_law_moon" "_law_moon" (defArgs s_law_moon) (defBody s_law_moon) (defScope s_law_moon) .none kV49 dc49 pm49 an49 cd49 ct49), sl49⟩) (c49 : PySem.W.codeIn K cd49 "_law_moon" = true) (k49 : PySem.W.keepIn K (.ref f49) = true)
    (a50 : PySem.W.nsIn K mainGlobals "_law_wanted" = some (some (.ref f50))) (l50 : K.lookup f50 = some ⟨oc50, od50, .func (PySem.W.fnOf "_law_wanted" "_law_wanted" (defArgs s_law_wanted) (defBody s_law_wanted) (defScope s_law_wanted) .none kV50 dc50 pm50 an50 cd50 ct50), sl50⟩) (c50 : PySem.W.codeIn K cd50 "_law_wanted" = true) (k50 : PySem.W.keepIn K (.ref f50) = true)
    (a51 : PySem.W.nsIn K mainGlobals "_law_years" = some (some (.ref f51))) (l51 : K.lookup f51 = some ⟨oc51, od51, .func (PySem.W.fnOf "_law_years" "_law_years" (defArgs s_law_years) (defBody s_law_years) (defScope s_law_years) .none kV51 dc51 pm51 an51 cd51 ct51), sl51⟩) (c51 : PySem.W.codeIn K cd51 "_law_years" = true) (k51 : PySem.W.keepIn K (.ref f51) = true)
    (a52 : PySem.W.nsIn K mainGlobals "_law_size" = some (some (.ref f52))) (l52 : K.lookup f52 = some ⟨oc52, od52, .func (PySem.W.fnOf "_law_size" "_law_size" (defArgs s_law_size) (defBody s_law_size) (defScope s_law_size) .none kV52 dc52 pm52 an52 cd52 ct52), sl52⟩) (c52 : PySem.W.codeIn K cd52 "_law_size" = true) (k52 : PySem.W.keepIn K (.ref f52) = true)
    (a53 : PySem.W.nsIn K mainGlobals "_law_step" = some (some (.ref f53))) (l53 : K.lookup f53 = some ⟨oc53, od53, .func (PySem.W.fnOf "_law_step" "_law_step" (defArgs s_law_step) (defBody s_law_step) (defScope s_law_step) .none kV53 dc53 pm53 an53 cd53 ct53), sl53⟩) (c53 : PySem.W.codeIn K cd53 "_law_step" = true) (k53 : PySem.W.keepIn K (.ref f53) = true)
    (a54 : PySem.W.nsIn K mainGlobals "_law_is_short" = some (some (.ref f54))) (l54 : K.lookup f54 = some ⟨oc54, od54, .func (PySem.W.fnOf "_law_is_short" "_law_is_short" (defArgs s_law_is_short) (defBody s_law_is_short) (defScope s_law_is_short) .none kV54 dc54 pm54 an54 cd54 ct54), sl54⟩) (c54 : PySem.W.codeIn K cd54 "_law_is_short" = true) (k54 : PySem.W.keepIn K (.ref f54) = true)
    (a55 : PySem.W.nsIn K mainGlobals "_law_made" = some (some (.ref f55))) (l55 : K.lookup f55 = some ⟨oc55, od55, .func (PySem.W.fnOf "_law_made" "_law_made" (defArgs s_law_made) (defBody s_law_made) (defScope s_law_made) .none kV55 dc55 pm55 an55 cd55 ct55), sl55⟩) (c55 : PySem.W.codeIn K cd55 "_law_made" = true) (k55 : PySem.W.keepIn K (.ref f55) = true)
    (a56 : PySem.W.nsIn K mainGlobals "_law_aimed" = some (some (.ref f56))) (l56 : K.lookup f56 = some ⟨oc56, od56, .func (PySem.W.fnOf "_law_aimed" "_law_aimed" (defArgs s_law_aimed) (defBody s_law_aimed) (defScope s_law_aimed) .none kV56 dc56 pm56 an56 cd56 ct56), sl56⟩) (c56 : PySem.W.codeIn K cd56 "_law_aimed" = true) (k56 : PySem.W.keepIn K (.ref f56) = true)
    (a57 : PySem.W.nsIn K mainGlobals "_law_due" = some (some (.ref f57))) (l57 : K.lookup f57 = some ⟨oc57, od57, .func (PySem.W.fnOf "_law_due" "_law_due" (defArgs s_law_due) (defBody s_law_due) (defScope s_law_due) .none kV57 dc57 pm57 an57 cd57 ct57), sl57⟩) (c57 : PySem.W.codeIn K cd57 "_law_due" = true) (k57 : PySem.W.keepIn K (.ref f57) = true)
    (a58 : PySem.W.nsIn K mainGlobals "law" = some (some (.ref f58))) (l58 : K.lookup f58 = some ⟨oc58, od58, .func (PySem.W.fnOf "law" "law" (defArgs s_law) (defBody s_law) (defScope s_law) .none kV58 dc58 pm58 an58 cd58 ct58), sl58⟩) (c58 : PySem.W.codeIn K cd58 "law" = true) (k58 : PySem.W.keepIn K (.ref f58) = true)
    (z_sum : PySem.W.nsIn K mainGlobals "sum" = some none)
    (z_len : PySem.W.nsIn K mainGlobals "len" = some none)
    (z_all : PySem.W.nsIn K mainGlobals "all" = some none)
    (z_tuple : PySem.W.nsIn K mainGlobals "tuple" = some none)
    (z_min : PySem.W.nsIn K mainGlobals "min" = some none)
    (z_max : PySem.W.nsIn K mainGlobals "max" = some none)
    (z_list : PySem.W.nsIn K mainGlobals "list" = some none)
    (z_range : PySem.W.nsIn K mainGlobals "range" = some none)
    (z_isinstance : PySem.W.nsIn K mainGlobals "isinstance" = some none)
    (z_int : PySem.W.nsIn K mainGlobals "int" = some none)
    (z_bool : PySem.W.nsIn K mainGlobals "bool" = some none)
    (m_GREATEST_N : PySem.W.nsIn K mainGlobals "GREATEST_N" = some (some (.int 1000 tk_GREATEST_N)))
    (m_GREATEST_BASE : PySem.W.nsIn K mainGlobals "GREATEST_BASE" = some (some (.int 20000 tk_GREATEST_BASE)))
    (m_MOST_TERMS : PySem.W.nsIn K mainGlobals "MOST_TERMS" = some (some (.int 6 tk_MOST_TERMS)))
    (m_MOST_MONTHS : PySem.W.nsIn K mainGlobals "MOST_MONTHS" = some (some (.int 20 tk_MOST_MONTHS)))
    (m_LONGEST_MONTH : PySem.W.nsIn K mainGlobals "LONGEST_MONTH" = some (some (.int 1000 tk_LONGEST_MONTH)))
    (m_LONGEST : PySem.W.nsIn K mainGlobals "LONGEST" = some (some (.int 150000 tk_LONGEST)))
    (m_PIECE : PySem.W.nsIn K mainGlobals "PIECE" = some (some (.int 256 tk_PIECE)))
    : ∃ fd : FuncData, (∀ (s : Shared) (v : Value), BindsTo s fd ⟨[v], []⟩ [("_law_script", v)]) ∧ ∀ base : Heap, K.In base → base.Ns mainGlobals mg → FnOk l.prog w K mg base CX0 10 fa fd ["_law_script"] (spLaw K) := by
  have e := hfa.symm.trans (PySem.W.mg_of X G a58)
  cases e
  have F0 := fun_mk (st := s_TooLong___init__) l0 c0 k0
  have b0 := F0.binds (ps := ["self", "needed"]) fun _ _ _ _ _ _ us hl => by obtain ⟨_, _, rfl⟩ := len2 hl; rfl
  have F1 := fun_mk (st := s_NoDate___init__) l1 c1 k1
  have b1 := F1.binds (ps := ["self", "date"]) fun _ _ _ _ _ _ us hl => by obtain ⟨_, _, rfl⟩ := len2 hl; rfl
  have F2 := fun_mk (st := s_refuse_below_one) l2 c2 k2
  have b2 := F2.binds (ps := ["number"]) fun _ _ _ _ _ _ us hl => by obtain ⟨_, rfl⟩ := len1 hl; rfl
  have F3 := fun_mk (st := s_equation) l3 c3 k3
  have b3 := F3.binds (ps := ["one", "other"]) fun _ _ _ _ _ _ us hl => by obtain ⟨_, _, rfl⟩ := len2 hl; rfl
  have F4 := fun_mk (st := s_divisor) l4 c4 k4
  have b4 := F4.binds (ps := ["one", "other"]) fun _ _ _ _ _ _ us hl => by obtain ⟨_, _, rfl⟩ := len2 hl; rfl
  have F5 := fun_mk (st := s_common) l5 c5 k5
  have b5 := F5.binds (ps := ["one", "other"]) fun _ _ _ _ _ _ us hl => by obtain ⟨_, _, rfl⟩ := len2 hl; rfl
  have F6 := fun_mk (st := s_term_on) l6 c6 k6
  have b6 := F6.binds (ps := ["term", "k"]) fun _ _ _ _ _ _ us hl => by obtain ⟨_, _, rfl⟩ := len2 hl; rfl
  have F7 := fun_mk (st := s_signs_upto) l7 c7 k7
  have b7 := F7.binds (ps := ["terms", "k"]) fun _ _ _ _ _ _ us hl => by obtain ⟨_, _, rfl⟩ := len2 hl; rfl
  have F8 := fun_mk (st := s_is_term) l8 c8 k8
  have b8 := F8.binds (ps := ["term"]) fun _ _ _ _ _ _ us hl => by obtain ⟨_, rfl⟩ := len1 hl; rfl
  have F9 := fun_mk (st := s_least_length) l9 c9 k9
  have b9 := F9.binds (ps := ["base", "terms"]) fun _ _ _ _ _ _ us hl => by obtain ⟨_, _, rfl⟩ := len2 hl; rfl
  have F10 := fun_mk (st := s_refuse_measure) l10 c10 k10
  have b10 := F10.binds (ps := ["base", "terms"]) fun _ _ _ _ _ _ us hl => by obtain ⟨_, _, rfl⟩ := len2 hl; rfl
  have F11 := fun_mk (st := s_period_of) l11 c11 k11
  have b11 := F11.binds (ps := ["terms"]) fun _ _ _ _ _ _ us hl => by obtain ⟨_, rfl⟩ := len1 hl; rfl
  have F12 := fun_mk (st := s_Measure_upto) l12 c12 k12
  have b12 := F12.binds (ps := ["self", "k"]) fun _ _ _ _ _ _ us hl => by obtain ⟨_, _, rfl⟩ := len2 hl; rfl
  have F13 := fun_mkD (st := s_Measure___init__) l13 c13 k13 t13 rfl
  have b13 := FunD.bindsD (ps := ["self", "base", "terms"]) (dv := []) 3 rfl F13 fun _ _ _ _ _ _ _ us hl => by obtain ⟨_, _, _, rfl⟩ := len3 hl; exact ⟨_, rfl, rfl⟩
  have F14 := fun_mk (st := s_Measure_at) l14 c14 k14
  have b14 := F14.binds (ps := ["self", "k"]) fun _ _ _ _ _ _ us hl => by obtain ⟨_, _, rfl⟩ := len2 hl; rfl
  have F15 := fun_mk (st := s_Measure_period) l15 c15 k15
  have b15 := F15.binds (ps := ["self"]) fun _ _ _ _ _ _ us hl => by obtain ⟨_, rfl⟩ := len1 hl; rfl
  have F16 := fun_mk (st := s_Measure_seek) l16 c16 k16
  have b16 := F16.binds (ps := ["self", "total"]) fun _ _ _ _ _ _ us hl => by obtain ⟨_, _, rfl⟩ := len2 hl; rfl
  have F17 := fun_mk (st := s_refuse_months) l17 c17 k17
  have b17 := F17.binds (ps := ["lengths", "leap"]) fun _ _ _ _ _ _ us hl => by obtain ⟨_, _, rfl⟩ := len2 hl; rfl
  have F18 := fun_mkD (st := s_Sun___init__) l18 c18 k18 t18 rfl
  have b18 := FunD.bindsD (ps := ["self", "start", "lengths", "leap", "terms"]) (dv := []) 5 rfl F18 fun _ _ _ _ _ _ _ us hl => by obtain ⟨_, _, _, _, _, rfl⟩ := len5 hl; exact ⟨_, rfl, rfl⟩
  have b18_2 := FunD.bindsD (ps := ["self", "start", "lengths", "leap", "terms"]) (dv := [(.int 1 tkd_Sun___init___0), .none]) 3 rfl F18 fun _ _ _ _ _ _ _ us hl => by obtain ⟨_, _, _, rfl⟩ := len3 hl; exact ⟨_, rfl, rfl⟩
  have F19 := fun_mk (st := s_Sun_year_start) l19 c19 k19
  have b19 := F19.binds (ps := ["self", "year"]) fun _ _ _ _ _ _ us hl => by obtain ⟨_, _, rfl⟩ := len2 hl; rfl
  have F20 := fun_mk (st := s_Sun_year_at) l20 c20 k20
  have b20 := F20.binds (ps := ["self", "day"]) fun _ _ _ _ _ _ us hl => by obtain ⟨_, _, rfl⟩ := len2 hl; rfl
  have F21 := fun_mk (st := s_Sun_lengths) l21 c21 k21
  have b21 := F21.binds (ps := ["self", "year"]) fun _ _ _ _ _ _ us hl => by obtain ⟨_, _, rfl⟩ := len2 hl; rfl
  have F22 := fun_mk (st := s_Sun_cycle) l22 c22 k22
  have b22 := F22.binds (ps := ["self"]) fun _ _ _ _ _ _ us hl => by obtain ⟨_, rfl⟩ := len1 hl; rfl
  have F23 := fun_mk (st := s_refuse_part) l23 c23 k23
  have b23 := F23.binds (ps := ["measure", "greatest"]) fun _ _ _ _ _ _ us hl => by obtain ⟨_, _, rfl⟩ := len2 hl; rfl
  have F24 := fun_mk (st := s_Moon___init__) l24 c24 k24
  have b24 := F24.binds (ps := ["self", "start", "days", "many"]) fun _ _ _ _ _ _ us hl => by obtain ⟨_, _, _, _, rfl⟩ := len4 hl; rfl
  have F25 := fun_mk (st := s_Moon_year_start) l25 c25 k25
  have b25 := F25.binds (ps := ["self", "year"]) fun _ _ _ _ _ _ us hl => by obtain ⟨_, _, rfl⟩ := len2 hl; rfl
  have F26 := fun_mk (st := s_Moon_year_at) l26 c26 k26
  have b26 := F26.binds (ps := ["self", "day"]) fun _ _ _ _ _ _ us hl => by obtain ⟨_, _, rfl⟩ := len2 hl; rfl
  have F27 := fun_mk (st := s_Moon_lengths) l27 c27 k27
  have b27 := F27.binds (ps := ["self", "year"]) fun _ _ _ _ _ _ us hl => by obtain ⟨_, _, rfl⟩ := len2 hl; rfl
  have F28 := fun_mk (st := s_Moon_cycle) l28 c28 k28
  have b28 := F28.binds (ps := ["self"]) fun _ _ _ _ _ _ us hl => by obtain ⟨_, rfl⟩ := len1 hl; rfl
  have F29 := fun_mk (st := s_Sun_date_of) l29 c29 k29
  have b29 := F29.binds (ps := ["self", "day"]) fun _ _ _ _ _ _ us hl => by obtain ⟨_, _, rfl⟩ := len2 hl; rfl
  have F30 := fun_mk (st := s_Moon_date_of) l30 c30 k30
  have b30 := F30.binds (ps := ["self", "day"]) fun _ _ _ _ _ _ us hl => by obtain ⟨_, _, rfl⟩ := len2 hl; rfl
  have F31 := fun_mk (st := s_Sun_day_of) l31 c31 k31
  have b31 := F31.binds (ps := ["self", "date"]) fun _ _ _ _ _ _ us hl => by obtain ⟨_, _, rfl⟩ := len2 hl; rfl
  have F32 := fun_mk (st := s_Moon_day_of) l32 c32 k32
  have b32 := F32.binds (ps := ["self", "date"]) fun _ _ _ _ _ _ us hl => by obtain ⟨_, _, rfl⟩ := len2 hl; rfl
  have F33 := fun_mk (st := s_refuse_too_long) l33 c33 k33
  have b33 := F33.binds (ps := ["size"]) fun _ _ _ _ _ _ us hl => by obtain ⟨_, rfl⟩ := len1 hl; rfl
  have F34 := fun_mk (st := s_round_by) l34 c34 k34
  have b34 := F34.binds (ps := ["size", "days"]) fun _ _ _ _ _ _ us hl => by obtain ⟨_, _, rfl⟩ := len2 hl; rfl
  have F35 := fun_mk (st := s_refuse_wanted) l35 c35 k35
  have b35 := F35.binds (ps := ["month", "day", "step"]) fun _ _ _ _ _ _ us hl => by obtain ⟨_, _, _, rfl⟩ := len3 hl; rfl
  have F36 := fun_mk (st := s_days_of_month) l36 c36 k36
  have b36 := F36.binds (ps := ["first", "length", "day"]) fun _ _ _ _ _ _ us hl => by obtain ⟨_, _, _, rfl⟩ := len3 hl; rfl
  have F37 := fun_mk (st := s_days_of_year) l37 c37 k37
  have b37 := F37.binds (ps := ["calendar", "year", "month", "day"]) fun _ _ _ _ _ _ us hl => by obtain ⟨_, _, _, _, rfl⟩ := len4 hl; rfl
  have F38 := fun_mkD (st := s_dated) l38 c38 k38 t38 rfl
  have b38 := FunD.bindsD (ps := ["calendar", "month", "day", "step", "rest"]) (dv := []) 5 rfl F38 fun _ _ _ _ _ _ _ us hl => by obtain ⟨_, _, _, _, _, rfl⟩ := len5 hl; exact ⟨_, rfl, rfl⟩
  have b38_1 := FunD.bindsD (ps := ["calendar", "month", "day", "step", "rest"]) (dv := [.none, .none, (.int 1 tkd_dated_2), (.int 0 tkd_dated_3)]) 1 rfl F38 fun _ _ _ _ _ _ _ us hl => by obtain ⟨_, rfl⟩ := len1 hl; exact ⟨_, rfl, rfl⟩
  have b38_2 := FunD.bindsD (ps := ["calendar", "month", "day", "step", "rest"]) (dv := [.none, (.int 1 tkd_dated_2), (.int 0 tkd_dated_3)]) 2 rfl F38 fun _ _ _ _ _ _ _ us hl => by obtain ⟨_, _, rfl⟩ := len2 hl; exact ⟨_, rfl, rfl⟩
  have b38_3 := FunD.bindsD (ps := ["calendar", "month", "day", "step", "rest"]) (dv := [(.int 1 tkd_dated_2), (.int 0 tkd_dated_3)]) 3 rfl F38 fun _ _ _ _ _ _ _ us hl => by obtain ⟨_, _, _, rfl⟩ := len3 hl; exact ⟨_, rfl, rfl⟩
  have F39 := fun_mk (st := s_law_cell_at) l39 c39 k39
  have b39 := F39.binds (ps := ["_law_script", "_law_k"]) fun _ _ _ _ _ _ us hl => by obtain ⟨_, _, rfl⟩ := len2 hl; rfl
  have F40 := fun_mk (st := s_law_whole) l40 c40 k40
  have b40 := F40.binds (ps := ["_law_found"]) fun _ _ _ _ _ _ us hl => by obtain ⟨_, rfl⟩ := len1 hl; rfl
  have F41 := fun_mk (st := s_law_number) l41 c41 k41
  have b41 := F41.binds (ps := ["_law_cell"]) fun _ _ _ _ _ _ us hl => by obtain ⟨_, rfl⟩ := len1 hl; rfl
  have F42 := fun_mk (st := s_law_mixed) l42 c42 k42
  have b42 := F42.binds (ps := ["_law_cell", "_law_k"]) fun _ _ _ _ _ _ us hl => by obtain ⟨_, _, rfl⟩ := len2 hl; rfl
  have F43 := fun_mk (st := s_law_any_term) l43 c43 k43
  have b43 := F43.binds (ps := ["_law_cell", "_law_k", "_law_most"]) fun _ _ _ _ _ _ us hl => by obtain ⟨_, _, _, rfl⟩ := len3 hl; rfl
  have F44 := fun_mk (st := s_law_any_terms) l44 c44 k44
  have b44 := F44.binds (ps := ["_law_cell"]) fun _ _ _ _ _ _ us hl => by obtain ⟨_, rfl⟩ := len1 hl; rfl
  have F45 := fun_mk (st := s_law_any_measure) l45 c45 k45
  have b45 := F45.binds (ps := ["_law_cell", "_law_most"]) fun _ _ _ _ _ _ us hl => by obtain ⟨_, _, rfl⟩ := len2 hl; rfl
  have F46 := fun_mk (st := s_law_any) l46 c46 k46
  have b46 := F46.binds (ps := ["_law_script"]) fun _ _ _ _ _ _ us hl => by obtain ⟨_, rfl⟩ := len1 hl; rfl
  have F47 := fun_mk (st := s_law_term) l47 c47 k47
  have b47 := F47.binds (ps := ["_law_cell", "_law_most"]) fun _ _ _ _ _ _ us hl => by obtain ⟨_, _, rfl⟩ := len2 hl; rfl
  have F48 := fun_mk (st := s_law_sun) l48 c48 k48
  have b48 := F48.binds (ps := ["_law_script"]) fun _ _ _ _ _ _ us hl => by obtain ⟨_, rfl⟩ := len1 hl; rfl
  have F49 := fun_mk (st := s_law_moon) l49 c49 k49
  have b49 := F49.binds (ps := ["_law_script"]) fun _ _ _ _ _ _ us hl => by obtain ⟨_, rfl⟩ := len1 hl; rfl
  have F50 := fun_mk (st := s_law_wanted) l50 c50 k50
  have b50 := F50.binds (ps := ["_law_script"]) fun _ _ _ _ _ _ us hl => by obtain ⟨_, rfl⟩ := len1 hl; rfl
  have F51 := fun_mk (st := s_law_years) l51 c51 k51
  have b51 := F51.binds (ps := ["_law_calendar", "_law_step_here"]) fun _ _ _ _ _ _ us hl => by obtain ⟨_, _, rfl⟩ := len2 hl; rfl
  have F52 := fun_mk (st := s_law_size) l52 c52 k52
  have b52 := F52.binds (ps := ["_law_calendar", "_law_step_here"]) fun _ _ _ _ _ _ us hl => by obtain ⟨_, _, rfl⟩ := len2 hl; rfl
  have F53 := fun_mk (st := s_law_step) l53 c53 k53
  have b53 := F53.binds (ps := ["_law_calendar", "_law_wanted_here", "_law_cell"]) fun _ _ _ _ _ _ us hl => by obtain ⟨_, _, _, rfl⟩ := len3 hl; rfl
  have F54 := fun_mk (st := s_law_is_short) l54 c54 k54
  have b54 := F54.binds (ps := ["_law_calendar"]) fun _ _ _ _ _ _ us hl => by obtain ⟨_, rfl⟩ := len1 hl; rfl
  have F55 := fun_mk (st := s_law_made) l55 c55 k55
  have b55 := F55.binds (ps := ["_law_calendar", "_law_wanted_here", "_law_cell"]) fun _ _ _ _ _ _ us hl => by obtain ⟨_, _, _, rfl⟩ := len3 hl; rfl
  have F56 := fun_mk (st := s_law_aimed) l56 c56 k56
  have b56 := F56.binds (ps := ["_law_calendar", "_law_wanted_here", "_law_number_here"]) fun _ _ _ _ _ _ us hl => by obtain ⟨_, _, _, rfl⟩ := len3 hl; rfl
  have F57 := fun_mk (st := s_law_due) l57 c57 k57
  have b57 := F57.binds (ps := ["_law_calendar", "_law_wanted_here", "_law_day"]) fun _ _ _ _ _ _ us hl => by obtain ⟨_, _, _, rfl⟩ := len3 hl; rfl
  have F58 := fun_mk (st := s_law) l58 c58 k58
  have y_sum := PySem.W.mg_none_of X G z_sum
  have y_len := PySem.W.mg_none_of X G z_len
  have y_all := PySem.W.mg_none_of X G z_all
  have y_tuple := PySem.W.mg_none_of X G z_tuple
  have y_min := PySem.W.mg_none_of X G z_min
  have y_max := PySem.W.mg_none_of X G z_max
  have y_list := PySem.W.mg_none_of X G z_list
  have y_range := PySem.W.mg_none_of X G z_range
  have y_isinstance := PySem.W.mg_none_of X G z_isinstance
  have y_int := PySem.W.mg_none_of X G z_int
  have y_bool := PySem.W.mg_none_of X G z_bool
  have y_GREATEST_N := PySem.W.mg_of X G m_GREATEST_N
  have y_GREATEST_BASE := PySem.W.mg_of X G m_GREATEST_BASE
  have y_MOST_TERMS := PySem.W.mg_of X G m_MOST_TERMS
  have y_MOST_MONTHS := PySem.W.mg_of X G m_MOST_MONTHS
  have y_LONGEST_MONTH := PySem.W.mg_of X G m_LONGEST_MONTH
  have y_LONGEST := PySem.W.mg_of X G m_LONGEST
  have y_PIECE := PySem.W.mg_of X G m_PIECE
  refine ⟨PySem.W.fnOf "law" "law" (defArgs s_law) (defBody s_law) (defScope s_law) .none kV58 dc58 pm58 an58 cd58 ct58, fun s v => .of_eq rfl, fun base _ _ => ?_⟩
  have er : Errs K mg c_FeastError c_NoNumber c_TooLong c_NoMeasure c_NoDate c_Measure c_Calendar c_Sun c_Moon := ⟨⟨PySem.W.mg_of X G n_NoDate, t_NoDate, has_cls k_NoDate, b_NoDate⟩, ⟨⟨_, _, _, _, _, _, _, o_NoDate, om_NoDate, od_NoDate, oh_NoDate⟩, e_FeastError, sa_NoDate⟩, ⟨PySem.W.mg_of X G n_FeastError, fs_FeastError, fr_FeastError, ff_FeastError⟩, na_NoDate_date, r_NoDate_NoDate, ⟨PySem.W.mg_of X G n_NoNumber, e_NoNumber⟩, ⟨⟨_, _, _, _, _, _, _, o_TooLong, om_TooLong, od_TooLong, oh_TooLong⟩, e_FeastError, sa_TooLong⟩, na_TooLong_needed, ⟨pg_Measure, k_Measure, po_Measure, sa_Measure⟩, na_Measure_base, na_Measure_terms, na_Measure_full_count, na_Measure_full_sum, ⟨pg_Sun, k_Sun, po_Sun, sa_Sun⟩, na_Sun_start, na_Sun_months, na_Sun_leap, na_Sun_years, ⟨pg_Moon, k_Moon, po_Moon, sa_Moon⟩, na_Moon_start, na_Moon_days, na_Moon_many⟩
  have C_TooLong___init__ : CalX l.prog w K mg base 1 "TooLong" c_TooLong c_FeastError ["self", "needed"] (spInit1 c_TooLong "needed" okNum) := ⟨⟨f0, _, ok_TooLong___init__ F0 er, b0, ⟨er.o_TooLong, PySem.W.mg_of X G n_TooLong, kp_TooLong, a0, u0⟩⟩⟩
  have C_NoDate___init__ : CalX l.prog w K mg base 1 "NoDate" c_NoDate c_FeastError ["self", "date"] (spInitD K c_NoDate "date") := ⟨⟨f1, _, ok_NoDate___init__ F1 er, b1, ⟨er.o_NoDate, PySem.W.mg_of X G n_NoDate, kp_NoDate, a1, u1⟩⟩⟩
  have C_refuse_below_one : CalE l.prog w K mg base 1 "refuse_below_one" ["number"] (spRefuseE c_NoNumber) := ⟨⟨f2, _, ok_refuse_below_one F2 er, b2, k2, PySem.W.mg_of X G a2⟩⟩
  have C_equation : Cal l.prog w K mg base 1 "equation" ["one", "other"] spEq := ⟨⟨f3, _, ok_equation F3, b3, k3, PySem.W.mg_of X G a3⟩⟩
  have C_divisor : Cal l.prog w K mg base 2 "divisor" ["one", "other"] spDivisor := ⟨⟨f4, _, ok_divisor F4 C_equation, b4, k4, PySem.W.mg_of X G a4⟩⟩
  have C_common : Cal l.prog w K mg base 3 "common" ["one", "other"] spCommon := ⟨⟨f5, _, ok_common F5 C_refuse_below_one C_divisor, b5, k5, PySem.W.mg_of X G a5⟩⟩
  have C_term_on : Cal l.prog w K mg base 1 "term_on" ["term", "k"] spTermOn := ⟨⟨f6, _, ok_term_on F6, b6, k6, PySem.W.mg_of X G a6⟩⟩
  have C_signs_upto : Cal l.prog w K mg base 1 "signs_upto" ["terms", "k"] (spSigns K) := ⟨⟨f7, _, ok_signs_upto F7 y_sum, b7, k7, PySem.W.mg_of X G a7⟩⟩
  have C_is_term : Cal l.prog w K mg base 1 "is_term" ["term"] spIsTerm := ⟨⟨f8, _, ok_is_term F8 y_GREATEST_N, b8, k8, PySem.W.mg_of X G a8⟩⟩
  have C_least_length : Cal l.prog w K mg base 1 "least_length" ["base", "terms"] (spLeast K) := ⟨⟨f9, _, ok_least_length F9 y_len, b9, k9, PySem.W.mg_of X G a9⟩⟩
  have C_refuse_measure : Cal l.prog w K mg base 2 "refuse_measure" ["base", "terms"] (spRefuseM K) := ⟨⟨f10, _, ok_refuse_measure F10 C_is_term C_least_length y_len y_all y_GREATEST_BASE y_MOST_TERMS, b10, k10, PySem.W.mg_of X G a10⟩⟩
  have C_period_of : Cal l.prog w K mg base 4 "period_of" ["terms"] (spPeriod K) := ⟨⟨f11, _, ok_period_of F11 C_common, b11, k11, PySem.W.mg_of X G a11⟩⟩
  have C_Measure_upto : CalM l.prog w K mg base CX0 2 c_Measure "upto" ["self", "k"] (spUpto K c_Measure) := ⟨⟨f12, _, ok_Measure_upto F12 er C_signs_upto, b12, ⟨a12, beq_iff_eq.mpr u12, k12⟩⟩⟩
  have C_Measure___init__ : CalI l.prog w K mg base CX0 5 "Measure" c_Measure ["self", "base", "terms"] (spInitM K c_Measure) := ⟨⟨f13, _, ok_Measure___init__ F13 er C_refuse_measure C_period_of C_Measure_upto y_tuple, b13, ⟨mk_Measure, a13, beq_iff_eq.mpr u13, kp_Measure⟩, PySem.W.mg_of X G n_Measure⟩⟩
  have C_Measure_at : CalM l.prog w K mg base CX0 2 c_Measure "at" ["self", "k"] (spAt K c_Measure) := ⟨⟨f14, _, ok_Measure_at F14 er C_term_on y_sum, b14, ⟨a14, beq_iff_eq.mpr u14, k14⟩⟩⟩
  have C_Measure_period : CalM l.prog w K mg base CX0 1 c_Measure "period" ["self"] (spPer K c_Measure) := ⟨⟨f15, _, ok_Measure_period F15 er, b15, ⟨a15, beq_iff_eq.mpr u15, k15⟩⟩⟩
  have C_Measure_seek : CalM l.prog w K mg base CX0 3 c_Measure "seek" ["self", "total"] (spSeek K c_Measure) := ⟨⟨f16, _, ok_Measure_seek F16 er C_Measure_upto, b16, ⟨a16, beq_iff_eq.mpr u16, k16⟩⟩⟩
  have C_refuse_months : Cal l.prog w K mg base 1 "refuse_months" ["lengths", "leap"] (spRefMo K) := ⟨⟨f17, _, ok_refuse_months F17 y_len y_min y_max y_MOST_MONTHS y_LONGEST_MONTH, b17, k17, PySem.W.mg_of X G a17⟩⟩
  have C_Sun___init__ : CalI l.prog w K mg base CX0 7 "Sun" c_Sun ["self", "start", "lengths", "leap", "terms"] (spInitS K c_Sun c_Measure) := ⟨⟨f18, _, ok_Sun___init__ F18 er C_refuse_months C_Measure___init__ C_least_length y_tuple y_sum, b18, ⟨mk_Sun, a18, beq_iff_eq.mpr u18, kp_Sun⟩, PySem.W.mg_of X G n_Sun⟩⟩
  have C_Sun___init___d2 : CalID l.prog w K mg base CX0 7 "Sun" c_Sun ["self", "start", "lengths", "leap", "terms"] [(.int 1), .non] (spInitS K c_Sun c_Measure) := ⟨⟨f18, _, _, ok_Sun___init__ F18 er C_refuse_months C_Measure___init__ C_least_length y_tuple y_sum, b18_2, (.cons (by first | exact rfl | exact rel_int _ _ | trivial) (.cons (by first | exact rfl | exact rel_int _ _ | trivial) .nil)), ⟨mk_Sun, a18, beq_iff_eq.mpr u18, kp_Sun⟩, PySem.W.mg_of X G n_Sun⟩⟩
  have C_Sun_year_start : CalM l.prog w K mg base CX0 3 c_Sun "year_start" ["self", "year"] (spYS K c_Sun c_Measure) := ⟨⟨f19, _, ok_Sun_year_start F19 er C_Measure_upto, b19, ⟨a19, beq_iff_eq.mpr u19, k19⟩⟩⟩
  have C_Sun_year_at : CalM l.prog w K mg base CX0 4 c_Sun "year_at" ["self", "day"] (spYA K c_Sun c_Measure) := ⟨⟨f20, _, ok_Sun_year_at F20 er C_Measure_seek, b20, ⟨a20, beq_iff_eq.mpr u20, k20⟩⟩⟩
  have C_Sun_lengths : CalM l.prog w K mg base CX0 3 c_Sun "lengths" ["self", "year"] (spLens K c_Sun c_Measure) := ⟨⟨f21, _, ok_Sun_lengths F21 er C_Measure_at y_list, b21, ⟨a21, beq_iff_eq.mpr u21, k21⟩⟩⟩
  have C_Sun_cycle : CalM l.prog w K mg base CX0 3 c_Sun "cycle" ["self"] (spCyc K c_Sun c_Measure) := ⟨⟨f22, _, ok_Sun_cycle F22 er C_Measure_period C_Measure_upto, b22, ⟨a22, beq_iff_eq.mpr u22, k22⟩⟩⟩
  have C_refuse_part : Cal l.prog w K mg base 2 "refuse_part" ["measure", "greatest"] (spRefPt K c_Measure) := ⟨⟨f23, _, ok_refuse_part F23 er C_least_length, b23, k23, PySem.W.mg_of X G a23⟩⟩
  have C_Moon___init__ : CalI l.prog w K mg base CX0 3 "Moon" c_Moon ["self", "start", "days", "many"] (spInitMo K c_Moon c_Measure) := ⟨⟨f24, _, ok_Moon___init__ F24 er C_refuse_part y_LONGEST_MONTH y_MOST_MONTHS, b24, ⟨mk_Moon, a24, beq_iff_eq.mpr u24, kp_Moon⟩, PySem.W.mg_of X G n_Moon⟩⟩
  have C_Moon_year_start : CalM l.prog w K mg base CX0 3 c_Moon "year_start" ["self", "year"] (spMYS K c_Moon c_Measure) := ⟨⟨f25, _, ok_Moon_year_start F25 er C_Measure_upto, b25, ⟨a25, beq_iff_eq.mpr u25, k25⟩⟩⟩
  have C_Moon_year_at : CalM l.prog w K mg base CX0 4 c_Moon "year_at" ["self", "day"] (spMYA K c_Moon c_Measure) := ⟨⟨f26, _, ok_Moon_year_at F26 er C_Measure_seek, b26, ⟨a26, beq_iff_eq.mpr u26, k26⟩⟩⟩
  have C_Moon_lengths : CalM l.prog w K mg base CX0 3 c_Moon "lengths" ["self", "year"] (spMLens K c_Moon c_Measure) := ⟨⟨f27, _, ok_Moon_lengths F27 er C_Measure_upto C_Measure_at y_range, b27, ⟨a27, beq_iff_eq.mpr u27, k27⟩⟩⟩
  have C_Moon_cycle : CalM l.prog w K mg base CX0 3 c_Moon "cycle" ["self"] (spMCyc K c_Moon c_Measure) := ⟨⟨f28, _, ok_Moon_cycle F28 er C_Measure_period C_Measure_upto C_divisor, b28, ⟨a28, beq_iff_eq.mpr u28, k28⟩⟩⟩
  have C_Sun_date_of : CalM l.prog w K mg base CX0 5 c_Sun "date_of" ["self", "day"] (spDate K c_Sun c_Moon c_Measure true) := ⟨⟨f29, _, ok_Sun_date_of F29 er C_Sun_year_at C_Sun_year_start C_Sun_lengths, b29, ⟨a29, beq_iff_eq.mpr u29, k29⟩⟩⟩
  have C_Moon_date_of : CalM l.prog w K mg base CX0 5 c_Moon "date_of" ["self", "day"] (spDate K c_Sun c_Moon c_Measure false) := ⟨⟨f30, _, ok_Moon_date_of F30 er C_Moon_year_at C_Moon_year_start C_Moon_lengths, b30, ⟨a30, beq_iff_eq.mpr u30, k30⟩⟩⟩
  have C_Sun_day_of : CalM l.prog w K mg base (CX1 l.prog w) 4 c_Sun "day_of" ["self", "date"] (spDayE K c_Sun c_Moon c_Measure c_NoDate true) := ⟨⟨f31, _, ok_Sun_day_of F31 er C_Sun_lengths C_NoDate___init__ C_Sun_year_start y_len y_sum, b31, ⟨a31, beq_iff_eq.mpr u31, k31⟩⟩⟩
  have C_Moon_day_of : CalM l.prog w K mg base (CX1 l.prog w) 4 c_Moon "day_of" ["self", "date"] (spDayE K c_Sun c_Moon c_Measure c_NoDate false) := ⟨⟨f32, _, ok_Moon_day_of F32 er C_Moon_lengths C_NoDate___init__ C_Moon_year_start y_len y_sum, b32, ⟨a32, beq_iff_eq.mpr u32, k32⟩⟩⟩
  have C_refuse_too_long : CalE l.prog w K mg base 3 "refuse_too_long" ["size"] (spTooLongE c_TooLong) := ⟨⟨f33, _, ok_refuse_too_long F33 er C_TooLong___init__ y_LONGEST, b33, k33, PySem.W.mg_of X G a33⟩⟩
  have C_round_by : CalE l.prog w K mg base 4 "round_by" ["size", "days"] (spRoundByE K c_NoNumber c_TooLong) := ⟨⟨f34, _, ok_round_by F34 C_refuse_below_one C_refuse_too_long y_range y_len y_PIECE, b34, k34, PySem.W.mg_of X G a34⟩⟩
  have C_refuse_wanted : CalE l.prog w K mg base 2 "refuse_wanted" ["month", "day", "step"] (spWantE c_NoNumber) := ⟨⟨f35, _, ok_refuse_wanted F35 er C_refuse_below_one, b35, k35, PySem.W.mg_of X G a35⟩⟩
  have C_days_of_month : Cal l.prog w K mg base 1 "days_of_month" ["first", "length", "day"] spDoM40 := ⟨⟨f36, _, ok_days_of_month F36 y_list y_range, b36, k36, PySem.W.mg_of X G a36⟩⟩
  have C_days_of_year : Cal l.prog w K mg base 4 "days_of_year" ["calendar", "year", "month", "day"] (spDoY40 K c_Sun c_Moon c_Measure) := ⟨⟨f37, _, ok_days_of_year F37 er C_Sun_year_start C_Moon_year_start C_Sun_lengths C_Moon_lengths C_days_of_month, b37, k37, PySem.W.mg_of X G a37⟩⟩
  have C_dated : CalE l.prog w K mg base 5 "dated" ["calendar", "month", "day", "step", "rest"] (spDated40 K c_Sun c_Moon c_Measure c_NoNumber c_TooLong) := ⟨⟨f38, _, ok_dated F38 er C_refuse_wanted C_Sun_cycle C_Moon_cycle C_common C_refuse_too_long C_days_of_year C_round_by y_range, b38, k38, PySem.W.mg_of X G a38⟩⟩
  have C_dated_d1 : L2.CalD l.prog w K mg base (CX1 l.prog w) 5 "dated" ["calendar", "month", "day", "step", "rest"] [.non, .non, (.int 1), (.int 0)] (spDated40 K c_Sun c_Moon c_Measure c_NoNumber c_TooLong) := ⟨⟨f38, _, _, ok_dated F38 er C_refuse_wanted C_Sun_cycle C_Moon_cycle C_common C_refuse_too_long C_days_of_year C_round_by y_range, b38_1, (.cons (by first | exact rfl | exact rel_int _ _ | trivial) (.cons (by first | exact rfl | exact rel_int _ _ | trivial) (.cons (by first | exact rfl | exact rel_int _ _ | trivial) (.cons (by first | exact rfl | exact rel_int _ _ | trivial) .nil)))), k38, PySem.W.mg_of X G a38⟩⟩
  have C_dated_d2 : L2.CalD l.prog w K mg base (CX1 l.prog w) 5 "dated" ["calendar", "month", "day", "step", "rest"] [.non, (.int 1), (.int 0)] (spDated40 K c_Sun c_Moon c_Measure c_NoNumber c_TooLong) := ⟨⟨f38, _, _, ok_dated F38 er C_refuse_wanted C_Sun_cycle C_Moon_cycle C_common C_refuse_too_long C_days_of_year C_round_by y_range, b38_2, (.cons (by first | exact rfl | exact rel_int _ _ | trivial) (.cons (by first | exact rfl | exact rel_int _ _ | trivial) (.cons (by first | exact rfl | exact rel_int _ _ | trivial) .nil))), k38, PySem.W.mg_of X G a38⟩⟩
  have C_dated_d3 : L2.CalD l.prog w K mg base (CX1 l.prog w) 5 "dated" ["calendar", "month", "day", "step", "rest"] [(.int 1), (.int 0)] (spDated40 K c_Sun c_Moon c_Measure c_NoNumber c_TooLong) := ⟨⟨f38, _, _, ok_dated F38 er C_refuse_wanted C_Sun_cycle C_Moon_cycle C_common C_refuse_too_long C_days_of_year C_round_by y_range, b38_3, (.cons (by first | exact rfl | exact rel_int _ _ | trivial) (.cons (by first | exact rfl | exact rel_int _ _ | trivial) .nil)), k38, PySem.W.mg_of X G a38⟩⟩
  have C_law_cell_at : Cal l.prog w K mg base 1 "_law_cell_at" ["_law_script", "_law_k"] (spCell K) := ⟨⟨f39, _, ok_law_cell_at F39 y_len, b39, k39, PySem.W.mg_of X G a39⟩⟩
  have C_law_whole : Cal l.prog w K mg base 1 "_law_whole" ["_law_found"] spWhole := ⟨⟨f40, _, ok_law_whole F40 y_isinstance y_int y_bool, b40, k40, PySem.W.mg_of X G a40⟩⟩
  have C_law_number : Cal l.prog w K mg base 1 "_law_number" ["_law_cell"] spNumB := ⟨⟨f41, _, ok_law_number F41, b41, k41, PySem.W.mg_of X G a41⟩⟩
  have C_law_mixed : Cal l.prog w K mg base 1 "_law_mixed" ["_law_cell", "_law_k"] spMixedD := ⟨⟨f42, _, ok_law_mixed F42, b42, k42, PySem.W.mg_of X G a42⟩⟩
  have C_law_any_term : Cal l.prog w K mg base 2 "_law_any_term" ["_law_cell", "_law_k", "_law_most"] spAnyT := ⟨⟨f43, _, ok_law_any_term F43 C_law_mixed, b43, k43, PySem.W.mg_of X G a43⟩⟩
  have C_law_any_terms : Cal l.prog w K mg base 3 "_law_any_terms" ["_law_cell"] (spAnyTs K) := ⟨⟨f44, _, ok_law_any_terms F44 C_law_any_term y_range, b44, k44, PySem.W.mg_of X G a44⟩⟩
  have C_law_any_measure : Cal l.prog w K mg base 7 "_law_any_measure" ["_law_cell", "_law_most"] (spAnyMe K c_Measure) := ⟨⟨f45, _, ok_law_any_measure F45 er C_law_any_terms C_law_mixed C_Measure___init__ y_len y_min, b45, k45, PySem.W.mg_of X G a45⟩⟩
  have C_law_any : Cal l.prog w K mg base 9 "_law_any" ["_law_script"] (spAny40 K c_Sun c_Moon c_Measure) := ⟨⟨f46, _, ok_law_any F46 er C_law_number C_law_cell_at C_Moon___init__ C_law_any_measure C_law_any_terms C_law_mixed C_Sun___init__ y_len y_range y_max, b46, k46, PySem.W.mg_of X G a46⟩⟩
  have C_law_term : Cal l.prog w K mg base 1 "_law_term" ["_law_cell", "_law_most"] spTerm40 := ⟨⟨f47, _, ok_law_term F47, b47, k47, PySem.W.mg_of X G a47⟩⟩
  have C_law_sun : Cal l.prog w K mg base 9 "_law_sun" ["_law_script"] (spCal40 K c_Sun c_Moon c_Measure) := ⟨⟨f48, _, ok_law_sun F48 er C_law_number C_law_cell_at C_Sun___init__ C_Sun___init___d2 C_law_term y_range, b48, k48, PySem.W.mg_of X G a48⟩⟩
  have C_law_moon : Cal l.prog w K mg base 7 "_law_moon" ["_law_script"] (spCal40 K c_Sun c_Moon c_Measure) := ⟨⟨f49, _, ok_law_moon F49 er C_law_number C_law_cell_at C_Moon___init__ C_Measure___init__ C_law_term, b49, k49, PySem.W.mg_of X G a49⟩⟩
  have C_law_wanted : Cal l.prog w K mg base 2 "_law_wanted" ["_law_script"] (spWanted40 K) := ⟨⟨f50, _, ok_law_wanted F50 C_law_cell_at C_law_number, b50, k50, PySem.W.mg_of X G a50⟩⟩
  have C_law_years : Cal l.prog w K mg base 4 "_law_years" ["_law_calendar", "_law_step_here"] (spYears40 K c_Sun c_Moon c_Measure) := ⟨⟨f51, _, ok_law_years F51 er C_Sun_cycle C_Moon_cycle, b51, k51, PySem.W.mg_of X G a51⟩⟩
  have C_law_size : Cal l.prog w K mg base 5 "_law_size" ["_law_calendar", "_law_step_here"] (spSize40 K c_Sun c_Moon c_Measure) := ⟨⟨f52, _, ok_law_size F52 er C_Sun_cycle C_Moon_cycle C_law_years, b52, k52, PySem.W.mg_of X G a52⟩⟩
  have C_law_step : Cal l.prog w K mg base 6 "_law_step" ["_law_calendar", "_law_wanted_here", "_law_cell"] (spStep40 K c_Sun c_Moon c_Measure) := ⟨⟨f53, _, ok_law_step F53 C_law_size C_law_years, b53, k53, PySem.W.mg_of X G a53⟩⟩
  have C_law_is_short : Cal l.prog w K mg base 4 "_law_is_short" ["_law_calendar"] (spShort40 K c_Sun c_Moon c_Measure) := ⟨⟨f54, _, ok_law_is_short F54 er C_Sun_cycle C_Moon_cycle, b54, k54, PySem.W.mg_of X G a54⟩⟩
  have C_law_made : Cal l.prog w K mg base 6 "_law_made" ["_law_calendar", "_law_wanted_here", "_law_cell"] (spMade40 K c_Sun c_Moon c_Measure) := ⟨⟨f55, _, ok_law_made F55 C_dated_d1 C_dated_d2 C_dated_d3 C_dated, b55, k55, PySem.W.mg_of X G a55⟩⟩
  have C_law_aimed : Cal l.prog w K mg base 5 "_law_aimed" ["_law_calendar", "_law_wanted_here", "_law_number_here"] (spAimed40 K c_Sun c_Moon c_Measure) := ⟨⟨f56, _, ok_law_aimed F56 er C_Sun_lengths C_Moon_lengths C_Sun_day_of C_Moon_day_of y_len, b56, k56, PySem.W.mg_of X G a56⟩⟩
  have C_law_due : Cal l.prog w K mg base 6 "_law_due" ["_law_calendar", "_law_wanted_here", "_law_day"] (spDue40 K c_Sun c_Moon c_Measure) := ⟨⟨f57, _, ok_law_due F57 er C_Sun_date_of C_Moon_date_of C_Sun_lengths C_Moon_lengths, b57, k57, PySem.W.mg_of X G a57⟩⟩
  exact ok_law F58 C_law_sun C_law_cell_at C_law_moon C_law_wanted C_law_is_short C_law_any C_law_step C_law_made C_law_whole C_law_size C_law_number C_law_aimed C_law_due y_isinstance y_tuple y_len
end Fw
def PySem.W.Fast.tw1584030729015149619 : Unit := ()
def PySem.W.Fast.tw524002766487586427 : Unit := ()
def PySem.W.Fast.tw2325736334156938393 : Unit := ()
def PySem.W.Fast.tw2351737800059341291 : Unit := ()
def PySem.W.Fast.tw2483135983725450763 : Unit := ()
def PySem.W.Fast.tw7006916813202765223 : Unit := ()
def PySem.W.Fast.tw10855049051736746144 : Unit := ()
def PySem.W.Fast.tw11101164488150615924 : Unit := ()
def PySem.W.Fast.tw7272961459692251156 : Unit := ()
def PySem.W.Fast.tw11966546826293081095 : Unit := ()
def PySem.W.Fast.tw17517668367202883577 : Unit := ()
def PySem.W.Fast.tw1192997632876373695 : Unit := ()
def PySem.W.Fast.tw9047201897921078321 : Unit := ()
def PySem.W.Fast.tw5789808668317112602 : Unit := ()
open PySem PySem.W PyProof.Rows
set_option maxRecDepth 100000 in
set_option maxHeartbeats 0 in
theorem PySem.Challenge.cw_feastwheel_k40_days_by_date_holds : PySem.Challenge.rw_feastwheel_k40_days_by_date.Holds := by
  w_on; o_law; k_head; (case hw => w_witness2)
  k_fill
  refine L2.walk_ofB (l := PySem.Challenge.rw_feastwheel_k40_days_by_date) (k := 10) rfl rfl ⟨rfl, by decide, by decide, rfl⟩ (fun w h Y => PySem.W.kIn_of Y) ?F
  case F =>
    intro w mg fa h KX G hmg
    refine' Fw.all_mk KX G hmg ?n_FeastError ?n_NoNumber ?n_TooLong ?n_NoMeasure ?n_NoDate ?t_NoDate ?k_NoDate ?b_NoDate ?o_NoDate ?om_NoDate ?od_NoDate ?oh_NoDate ?sa_NoDate ?kp_NoDate ?e_FeastError ?fs_FeastError ?fr_FeastError ?ff_FeastError ?na_NoDate_date ?r_NoDate_NoDate ?e_NoNumber ?o_TooLong ?om_TooLong ?od_TooLong ?oh_TooLong ?sa_TooLong ?kp_TooLong ?na_TooLong_needed ?n_Measure ?pg_Measure ?k_Measure ?po_Measure ?sa_Measure ?mk_Measure ?kp_Measure ?na_Measure_base ?na_Measure_terms ?na_Measure_full_count ?na_Measure_full_sum ?n_Sun ?pg_Sun ?k_Sun ?po_Sun ?sa_Sun ?mk_Sun ?kp_Sun ?na_Sun_start ?na_Sun_months ?na_Sun_leap ?na_Sun_years ?n_Moon ?pg_Moon ?k_Moon ?po_Moon ?sa_Moon ?mk_Moon ?kp_Moon ?na_Moon_start ?na_Moon_days ?na_Moon_many ?n_Calendar ?a0 ?l0 ?c0 ?k0 ?u0 ?a1 ?l1 ?c1 ?k1 ?u1 ?a2 ?l2 ?c2 ?k2 ?a3 ?l3 ?c3 ?k3 ?a4 ?l4 ?c4 ?k4 ?a5 ?l5 ?c5 ?k5 ?a6 ?l6 ?c6 ?k6 ?a7 ?l7 ?c7 ?k7 ?a8 ?l8 ?c8 ?k8 ?a9 ?l9 ?c9 ?k9 ?a10 ?l10 ?c10 ?k10 ?a11 ?l11 ?c11 ?k11 ?a12 ?l12 ?c12 ?k12 ?u12 ?a13 ?l13 ?c13 ?k13 ?t13 ?u13 ?a14 ?l14 ?c14 ?k14 ?u14 ?a15 ?l15 ?c15 ?k15 ?u15 ?a16 ?l16 ?c16 ?k16 ?u16 ?a17 ?l17 ?c17 ?k17 ?a18 ?l18 ?c18 ?k18 ?t18 ?u18 ?a19 ?l19 ?c19 ?k19 ?u19 ?a20 ?l20 ?c20 ?k20 ?u20 ?a21 ?l21 ?c21 ?k21 ?u21 ?a22 ?l22 ?c22 ?k22 ?u22 ?a23 ?l23 ?c23 ?k23 ?a24 ?l24 ?c24 ?k24 ?u24 ?a25 ?l25 ?c25 ?k25 ?u25 ?a26 ?l26 ?c26 ?k26 ?u26 ?a27 ?l27 ?c27 ?k27 ?u27 ?a28 ?l28 ?c28 ?k28 ?u28 ?a29 ?l29 ?c29 ?k29 ?u29 ?a30 ?l30 ?c30 ?k30 ?u30 ?a31 ?l31 ?c31 ?k31 ?u31 ?a32 ?l32 ?c32 ?k32 ?u32 ?a33 ?l33 ?c33 ?k33 ?a34 ?l34 ?c34 ?k34 ?a35 ?l35 ?c35 ?k35 ?a36 ?l36 ?c36 ?k36 ?a37 ?l37 ?c37 ?k37 ?a38 ?l38 ?c38 ?k38 ?t38 ?a39 ?l39 ?c39 ?k39 ?a40 ?l40 ?c40 ?k40 ?a41 ?l41 ?c41 ?k41 ?a42 ?l42 ?c42 ?k42 ?a43 ?l43 ?c43 ?k43 ?a44 ?l44 ?c44 ?k44 ?a45 ?l45 ?c45 ?k45 ?a46 ?l46 ?c46 ?k46 ?a47 ?l47 ?c47 ?k47 ?a48 ?l48 ?c48 ?k48 ?a49 ?l49 ?c49 ?k49 ?a50 ?l50 ?c50 ?k50 ?a51 ?l51 ?c51 ?k51 ?a52 ?l52 ?c52 ?k52 ?a53 ?l53 ?c53 ?k53 ?a54 ?l54 ?c54 ?k54 ?a55 ?l55 ?c55 ?k55 ?a56 ?l56 ?c56 ?k56 ?a57 ?l57 ?c57 ?k57 ?a58 ?l58 ?c58 ?k58 ?z_sum ?z_len ?z_all ?z_tuple ?z_min ?z_max ?z_list ?z_range ?z_isinstance ?z_int ?z_bool ?m_GREATEST_N ?m_GREATEST_BASE ?m_MOST_TERMS ?m_MOST_MONTHS ?m_LONGEST_MONTH ?m_LONGEST ?m_PIECE
    (case n_FeastError => k_is)
    (case n_NoNumber => k_is)
    (case n_TooLong => k_is)
    (case n_NoMeasure => k_is)
    (case n_NoDate => k_is)
    (case t_NoDate => k_is)
    (case k_NoDate => k_is)
    (case b_NoDate => k_is)
    (case o_NoDate => k_is)
    (case om_NoDate => rfl)
    (case od_NoDate => rfl)
    (case oh_NoDate => rfl)
    (case sa_NoDate => k_is)
    (case kp_NoDate => k_is)
    (case e_FeastError => k_exc)
    (case fs_FeastError => k_is)
    (case fr_FeastError => k_is)
    (case ff_FeastError => k_is)
    (case na_NoDate_date => k_is)
    (case r_NoDate_NoDate => k_is)
    (case e_NoNumber => k_exc)
    (case o_TooLong => k_is)
    (case om_TooLong => rfl)
    (case od_TooLong => rfl)
    (case oh_TooLong => rfl)
    (case sa_TooLong => k_is)
    (case kp_TooLong => k_is)
    (case na_TooLong_needed => k_is)
    (case n_Measure => k_is)
    (case pg_Measure => k_is)
    (case k_Measure => k_is)
    (case po_Measure => k_is)
    (case sa_Measure => k_is)
    (case mk_Measure => k_is)
    (case kp_Measure => k_is)
    (case na_Measure_base => k_is)
    (case na_Measure_terms => k_is)
    (case na_Measure_full_count => k_is)
    (case na_Measure_full_sum => k_is)
    (case n_Sun => k_is)
    (case pg_Sun => k_is)
    (case k_Sun => k_is)
    (case po_Sun => k_is)
    (case sa_Sun => k_is)
    (case mk_Sun => k_is)
    (case kp_Sun => k_is)
    (case na_Sun_start => k_is)
    (case na_Sun_months => k_is)
    (case na_Sun_leap => k_is)
    (case na_Sun_years => k_is)
    (case n_Moon => k_is)
    (case pg_Moon => k_is)
    (case k_Moon => k_is)
    (case po_Moon => k_is)
    (case sa_Moon => k_is)
    (case mk_Moon => k_is)
    (case kp_Moon => k_is)
    (case na_Moon_start => k_is)
    (case na_Moon_days => k_is)
    (case na_Moon_many => k_is)
    (case n_Calendar => k_is)
    (case a0 => k_is)
    (case l0 => k_is)
    (case c0 => k_is)
    (case k0 => k_is)
    (case u0 => k_is)
    (case a1 => k_is)
    (case l1 => k_is)
    (case c1 => k_is)
    (case k1 => k_is)
    (case u1 => k_is)
    (case a2 => k_is)
    (case l2 => k_is)
    (case c2 => k_is)
    (case k2 => k_is)
    (case a3 => k_is)
    (case l3 => k_is)
    (case c3 => k_is)
    (case k3 => k_is)
    (case a4 => k_is)
    (case l4 => k_is)
    (case c4 => k_is)
    (case k4 => k_is)
    (case a5 => k_is)
    (case l5 => k_is)
    (case c5 => k_is)
    (case k5 => k_is)
    (case a6 => k_is)
    (case l6 => k_is)
    (case c6 => k_is)
    (case k6 => k_is)
    (case a7 => k_is)
    (case l7 => k_is)
    (case c7 => k_is)
    (case k7 => k_is)
    (case a8 => k_is)
    (case l8 => k_is)
    (case c8 => k_is)
    (case k8 => k_is)
    (case a9 => k_is)
    (case l9 => k_is)
    (case c9 => k_is)
    (case k9 => k_is)
    (case a10 => k_is)
    (case l10 => k_is)
    (case c10 => k_is)
    (case k10 => k_is)
    (case a11 => k_is)
    (case l11 => k_is)
    (case c11 => k_is)
    (case k11 => k_is)
    (case a12 => k_is)
    (case l12 => k_is)
    (case c12 => k_is)
    (case k12 => k_is)
    (case u12 => k_is)
    (case a13 => k_is)
    (case l13 => k_is)
    (case c13 => k_is)
    (case k13 => k_is)
    (case t13 => k_is)
    (case u13 => k_is)
    (case a14 => k_is)
    (case l14 => k_is)
    (case c14 => k_is)
    (case k14 => k_is)
    (case u14 => k_is)
    (case a15 => k_is)
    (case l15 => k_is)
    (case c15 => k_is)
    (case k15 => k_is)
    (case u15 => k_is)
    (case a16 => k_is)
    (case l16 => k_is)
    (case c16 => k_is)
    (case k16 => k_is)
    (case u16 => k_is)
    (case a17 => k_is)
    (case l17 => k_is)
    (case c17 => k_is)
    (case k17 => k_is)
    (case a18 => k_is)
    (case l18 => k_is)
    (case c18 => k_is)
    (case k18 => k_is)
    (case t18 => k_is)
    (case u18 => k_is)
    (case a19 => k_is)
    (case l19 => k_is)
    (case c19 => k_is)
    (case k19 => k_is)
    (case u19 => k_is)
    (case a20 => k_is)
    (case l20 => k_is)
    (case c20 => k_is)
    (case k20 => k_is)
    (case u20 => k_is)
    (case a21 => k_is)
    (case l21 => k_is)
    (case c21 => k_is)
    (case k21 => k_is)
    (case u21 => k_is)
    (case a22 => k_is)
    (case l22 => k_is)
    (case c22 => k_is)
    (case k22 => k_is)
    (case u22 => k_is)
    (case a23 => k_is)
    (case l23 => k_is)
    (case c23 => k_is)
    (case k23 => k_is)
    (case a24 => k_is)
    (case l24 => k_is)
    (case c24 => k_is)
    (case k24 => k_is)
    (case u24 => k_is)
    (case a25 => k_is)
    (case l25 => k_is)
    (case c25 => k_is)
    (case k25 => k_is)
    (case u25 => k_is)
    (case a26 => k_is)
    (case l26 => k_is)
    (case c26 => k_is)
    (case k26 => k_is)
    (case u26 => k_is)
    (case a27 => k_is)
    (case l27 => k_is)
    (case c27 => k_is)
    (case k27 => k_is)
    (case u27 => k_is)
    (case a28 => k_is)
    (case l28 => k_is)
    (case c28 => k_is)
    (case k28 => k_is)
    (case u28 => k_is)
    (case a29 => k_is)
    (case l29 => k_is)
    (case c29 => k_is)
    (case k29 => k_is)
    (case u29 => k_is)
    (case a30 => k_is)
    (case l30 => k_is)
    (case c30 => k_is)
    (case k30 => k_is)
    (case u30 => k_is)
    (case a31 => k_is)
    (case l31 => k_is)
    (case c31 => k_is)
    (case k31 => k_is)
    (case u31 => k_is)
    (case a32 => k_is)
    (case l32 => k_is)
    (case c32 => k_is)
    (case k32 => k_is)
    (case u32 => k_is)
    (case a33 => k_is)
    (case l33 => k_is)
    (case c33 => k_is)
    (case k33 => k_is)
    (case a34 => k_is)
    (case l34 => k_is)
    (case c34 => k_is)
    (case k34 => k_is)
    (case a35 => k_is)
    (case l35 => k_is)
    (case c35 => k_is)
    (case k35 => k_is)
    (case a36 => k_is)
    (case l36 => k_is)
    (case c36 => k_is)
    (case k36 => k_is)
    (case a37 => k_is)
    (case l37 => k_is)
    (case c37 => k_is)
    (case k37 => k_is)
    (case a38 => k_is)
    (case l38 => k_is)
    (case c38 => k_is)
    (case k38 => k_is)
    (case t38 => k_is)
    (case a39 => k_is)
    (case l39 => k_is)
    (case c39 => k_is)
    (case k39 => k_is)
    (case a40 => k_is)
    (case l40 => k_is)
    (case c40 => k_is)
    (case k40 => k_is)
    (case a41 => k_is)
    (case l41 => k_is)
    (case c41 => k_is)
    (case k41 => k_is)
    (case a42 => k_is)
    (case l42 => k_is)
    (case c42 => k_is)
    (case k42 => k_is)
    (case a43 => k_is)
    (case l43 => k_is)
    (case c43 => k_is)
    (case k43 => k_is)
    (case a44 => k_is)
    (case l44 => k_is)
    (case c44 => k_is)
    (case k44 => k_is)
    (case a45 => k_is)
    (case l45 => k_is)
    (case c45 => k_is)
    (case k45 => k_is)
    (case a46 => k_is)
    (case l46 => k_is)
    (case c46 => k_is)
    (case k46 => k_is)
    (case a47 => k_is)
    (case l47 => k_is)
    (case c47 => k_is)
    (case k47 => k_is)
    (case a48 => k_is)
    (case l48 => k_is)
    (case c48 => k_is)
    (case k48 => k_is)
    (case a49 => k_is)
    (case l49 => k_is)
    (case c49 => k_is)
    (case k49 => k_is)
    (case a50 => k_is)
    (case l50 => k_is)
    (case c50 => k_is)
    (case k50 => k_is)
    (case a51 => k_is)
    (case l51 => k_is)
    (case c51 => k_is)
    (case k51 => k_is)
    (case a52 => k_is)
    (case l52 => k_is)
    (case c52 => k_is)
    (case k52 => k_is)
    (case a53 => k_is)
    (case l53 => k_is)
    (case c53 => k_is)
    (case k53 => k_is)
    (case a54 => k_is)
    (case l54 => k_is)
    (case c54 => k_is)
    (case k54 => k_is)
    (case a55 => k_is)
    (case l55 => k_is)
    (case c55 => k_is)
    (case k55 => k_is)
    (case a56 => k_is)
    (case l56 => k_is)
    (case c56 => k_is)
    (case k56 => k_is)
    (case a57 => k_is)
    (case l57 => k_is)
    (case c57 => k_is)
    (case k57 => k_is)
    (case a58 => k_is)
    (case l58 => k_is)
    (case c58 => k_is)
    (case k58 => k_is)
    (case z_sum => k_is)
    (case z_len => k_is)
    (case z_all => k_is)
    (case z_tuple => k_is)
    (case z_min => k_is)
    (case z_max => k_is)
    (case z_list => k_is)
    (case z_range => k_is)
    (case z_isinstance => k_is)
    (case z_int => k_is)
    (case z_bool => k_is)
    (case m_GREATEST_N => k_is)
    (case m_GREATEST_BASE => k_is)
    (case m_MOST_TERMS => k_is)
    (case m_MOST_MONTHS => k_is)
    (case m_LONGEST_MONTH => k_is)
    (case m_LONGEST => k_is)
    (case m_PIECE => k_is)
#print axioms PySem.Challenge.cw_feastwheel_k40_days_by_date_holds


