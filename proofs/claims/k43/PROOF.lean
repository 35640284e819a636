import PyProof.Rows.All
import Wide.All
import OpenK.AllK
import Wide.FinOn
import Lean
import PyProof.EqAt
import PyProof.EqKinds
import PyProof.TupleCall
import PySem.Challenge.RW_feastwheel_k43_whole_changes_in_order
set_option Elab.async false
set_option linter.all false
set_option maxRecDepth 100000
namespace L2
open PySem PySem.Spec PyProof.Rows

/-- a key: an int or a str -/
abbrev Key := Sum Int Str
def keyIs : Key → Value → Bool
  | .inl k, v => Value.isInt k v
  | .inr x, v => Value.isStrOf x v
def keyH (w : World) : Key → Int
  | .inl k => hashInt k
  | .inr x => hashStr w x
theorem keyIs_shape : ∀ {k : Key} {v : Value}, keyIs k v = true → (∃ i t, k = Sum.inl i ∧ v = Value.int i t) ∨ (∃ x t, k = Sum.inr x ∧ v = Value.str x t)
  | .inl i, v, h => by
    obtain ⟨t, e⟩ := Value.isInt_shape (k := i) (v := v) h
    exact .inl ⟨i, t, rfl, e⟩
  | .inr x, v, h => by
    obtain ⟨t, e⟩ := Value.isStrOf_shape (x := x) (v := v) h
    exact .inr ⟨x, t, rfl, e⟩
theorem key_ll (a b : Int) : decide ((Sum.inl a : Key) = Sum.inl b) = (a == b) := by
  by_cases e : a = b
  · subst e; simp
  · have h : ¬ (Sum.inl a : Key) = Sum.inl b := fun q => e (Sum.inl.inj q)
    rw [decide_eq_false h]
    exact (beq_eq_false_iff_ne.mpr e).symm
theorem key_rr (a b : Str) : decide ((Sum.inr a : Key) = Sum.inr b) = decide (a = b) := by
  by_cases e : a = b
  · subst e; simp
  · have h : ¬ (Sum.inr a : Key) = Sum.inr b := fun q => e (Sum.inr.inj q)
    rw [decide_eq_false h, decide_eq_false e]
theorem key_lr (a : Int) (b : Str) : decide ((Sum.inl a : Key) = Sum.inr b) = false := decide_eq_false (fun q => nomatch q)
theorem key_rl (a : Str) (b : Int) : decide ((Sum.inr a : Key) = Sum.inl b) = false := decide_eq_false (fun q => nomatch q)

def mixKind (prog : Program) (w : World) : PySem.KeyKind prog w Key where
  is := keyIs
  hash := keyH w
  inj := fun v a b ha hb => by
    rcases keyIs_shape ha with ⟨i, t, rfl, rfl⟩ | ⟨x, t, rfl, rfl⟩
    · rcases keyIs_shape hb with ⟨j, u, rfl, e⟩ | ⟨y, u, rfl, e⟩
      · injection e with e1 _; rw [e1]
      · exact nomatch e
    · rcases keyIs_shape hb with ⟨j, u, rfl, e⟩ | ⟨y, u, rfl, e⟩
      · exact nomatch e
      · injection e with e1 _; rw [e1]
  byValue := fun k v h => by
    rcases keyIs_shape h with ⟨i, t, rfl, rfl⟩ | ⟨x, t, rfl, rfl⟩ <;> rfl
  pyHash := fun hv h => by
    rcases keyIs_shape hv with ⟨i, t, rfl, rfl⟩ | ⟨x, t, rfl, rfl⟩
    · exact wpAny_pyHash_int h
    · exact wpAny_pyHash_str h
  eqBool := fun hu hv h => by
    rcases keyIs_shape hu with ⟨i, t, rfl, rfl⟩ | ⟨x, t, rfl, rfl⟩
    · rcases keyIs_shape hv with ⟨j, u, rfl, rfl⟩ | ⟨y, u, rfl, rfl⟩
      · rw [key_ll] at h; exact wpAny_eqBool_int h
      · rw [key_lr] at h; exact SeqAt.EqAt.int_str i t y u _ _ _ _ h
    · rcases keyIs_shape hv with ⟨j, u, rfl, rfl⟩ | ⟨y, u, rfl, rfl⟩
      · rw [key_rl] at h; exact SeqAt.EqAt.str_int x t j u _ _ _ _ h
      · rw [key_rr] at h; exact wpAny_eqBool_str h
  «strs» := fun k x t v h => by
    rcases keyIs_shape h with ⟨i, u, rfl, e⟩ | ⟨y, u, rfl, e⟩
    · exact nomatch e
    · injection e with e1 _
      subst e1
      cases v <;> rfl

end L2

namespace L2
open PySem PySem.Spec PyProof.Rows

/-- a value, without the heap -/
inductive V where
  | non | bl (b : Bool) | int (i : Int) | str (x : Str) | byt (b : Array UInt8) | flt (b : UInt64) | ref (a : Addr) | ty (n : String)
  deriving DecidableEq

def RelV : V → Value → Prop
  | .non, u => u = Value.none
  | .bl b, u => u = Value.bool b
  | .int i, u => ∃ t, u = Value.int i t
  | .str x, u => ∃ t, u = Value.str x t
  | .byt b, u => ∃ t, u = Value.bytes b t
  | .flt b, u => ∃ t, u = Value.float b t
  | .ref a, u => u = Value.ref a
  | .ty n, u => u = Value.type n

abbrev Vals : List V → List Value → Prop := Paired RelV
theorem Vals.length {xs : List V} {us : List Value} (r : Vals xs us) : xs.length = us.length := Paired.length r
theorem Vals.get : ∀ {xs : List V} {us : List Value} {i : Nat} {x : V}, Vals xs us → xs[i]? = some x → ∃ u, us[i]? = some u ∧ RelV x u
  | _, _, _, _, .nil, e => by simp at e
  | _, _, 0, _, .cons r _, e => by simp at e; subst e; exact ⟨_, rfl, r⟩
  | _, _, i + 1, x, .cons _ t, e => by
    obtain ⟨u, h1, h2⟩ := Vals.get (i := i) (x := x) t (by simpa using e)
    exact ⟨u, by simpa using h1, h2⟩
theorem Vals.set {x : V} {u : Value} (r : RelV x u) : ∀ {xs : List V} {us : List Value} (i : Nat), Vals xs us → Vals (xs.set i x) (us.set i u)
  | _, _, _, .nil => .nil
  | _, _, 0, .cons _ t => .cons r t
  | _, _, i + 1, .cons q t => .cons q (Vals.set r i t)
theorem Vals.append : ∀ {xs ys : List V} {us ws : List Value}, Vals xs us → Vals ys ws → Vals (xs ++ ys) (us ++ ws)
  | _, _, _, _, .nil, s => s
  | _, _, _, _, .cons r t, s => .cons r (Vals.append t s)
theorem Vals.take : ∀ {xs : List V} {us : List Value} (n : Nat), Vals xs us → Vals (xs.take n) (us.take n)
  | _, _, 0, _ => .nil
  | _, _, _ + 1, .nil => .nil
  | _, _, n + 1, .cons r t => .cons r (Vals.take n t)
theorem Vals.drop : ∀ {xs : List V} {us : List Value} (n : Nat), Vals xs us → Vals (xs.drop n) (us.drop n)
  | _, _, 0, r => r
  | _, _, _ + 1, .nil => .nil
  | _, _, n + 1, .cons _ t => Vals.drop n t
theorem Vals.none_of : ∀ {xs : List V} {us : List Value} {i : Nat}, Vals xs us → xs[i]? = none → us[i]? = none := fun {xs us i} r e => by
  have h1 := r.length
  have h2 : xs.length ≤ i := List.getElem?_eq_none_iff.mp e
  exact List.getElem?_eq_none_iff.mpr (by omega)

def RelO : Option V → Option Value → Prop
  | some v, some u => RelV v u
  | none, none => True
  | _, _ => False
def KV {κ : Type} : List (κ × V) → List (κ × Value) → Prop := Paired fun (p : κ × V) (q : κ × Value) => p.1 = q.1 ∧ RelV p.2 q.2

/-- a key of a dict (00_mix): an int or a text -/
def kV : Key → V
  | .inl i => .int i
  | .inr x => .str x

/-- what stands at a tracked address -/
inductive HO where
  /-- a list -/
  | lst (xs : List V)
  /-- a tuple (never changes) -/
  | tup (xs : List V)
  /-- a dict whose keys are ints and texts; one whose keys are tuples of ints and texts (the empty one is both) -/
  | dK (kvs : List (Key × V)) | dT (kvs : List (List Key × V))
  /-- a set of ints: its members, its size -/
  | set (S : Int → Bool) (n : Nat)
  /-- an instance of the class at C, its dict at dx, its attributes -/
  | ins (C dx : Addr) (fs : List (Str × V))
  /-- the dict of the instance at x -/
  | own (x : Addr)
  /-- the dict of an exception -/
  | xd (fs : List (Str × V))
  /-- a bound method, f of x -/
  | met (f x : Addr)
  /-- a range object lo, lo + 1, .. below hi -/
  | rng (lo hi : Int)
  /-- a thing that is known to the object (the script; a dict while a loop walks it): read, never written while it is so -/
  | frz (o : Obj) (u : HO)
  /-- a code object's table -/
  | tbl (ps : Array Value)
  /-- any other thing, by what is true of its one object (a def of one's own: SetO a S n := HO.ext fun h => ..) -/
  | ext (φ : Heap → Prop)

abbrev Hp := Addr → Option HO
def upd (H : Hp) (a : Addr) (o : HO) : Hp := fun b => if b = a then some o else H b
theorem upd_same {H : Hp} {a : Addr} {o : HO} : upd H a o a = some o := by unfold upd; rw [if_pos rfl]
theorem upd_ne {H : Hp} {a b : Addr} {o : HO} (h : b ≠ a) : upd H a o b = H b := by unfold upd; rw [if_neg h]
theorem upd_upd {H : Hp} {a : Addr} {o u : HO} : upd (upd H a o) a u = upd H a u := by
  funext b; unfold upd; split <;> rfl
/-- two objects of different content stand apart -/
theorem ne_of {H : Hp} {a b : Addr} {o u : HO} (h : H a = some o) (h' : H b = some u) (d : o ≠ u) : a ≠ b := by
  intro e; subst e; rw [h] at h'; exact d (Option.some.inj h')
theorem ne_of_none {H : Hp} {a b : Addr} {o : HO} (h : H a = some o) (h' : H b = none) : a ≠ b := by
  intro e; subst e; rw [h] at h'; cases h'

section
variable (P : Program) (w : World)
def ObjOk (H : Hp) (h : Heap) (a : Addr) : HO → Prop
  | .lst xs => xs.length ≤ sizeLine ∧ ∃ (its : List Value) (n : Nat), Vals xs its ∧ h.get? a = some { cls := .type "list", data := .seq its.toArray n }
  | .tup xs => xs.length ≤ sizeLine ∧ ∃ its : List Value, Vals xs its ∧ IsTup h a its.toArray
  | .dK kvs => kvs.length ≤ sizeLine ∧ (a == sysModules) = false ∧ ∃ vs, KV kvs vs ∧ h.DictOf (mixKind P w) a vs
  | .dT kvs => kvs.length ≤ sizeLine ∧ (a == sysModules) = false ∧ ∃ xs : List (List Key × Addr × Value),
      Paired (fun (p : List Key × V) (q : List Key × Addr × Value) => p.1 = q.1 ∧ H q.2.1 = some (.tup (p.1.map kV)) ∧ RelV p.2 q.2.2) kvs xs ∧
      ∃ o es ep, h.get? a = some o ∧ o.ExactDict ∧ o.data = .dict es ep ∧ es.toList = xs.map (entryOfKey (tupleKind (mixKind P w))) ∧ (xs.map (·.1)).Nodup
  | .set S n => h.SetOf (intKind P w) a S n
  | .ins C dx fs => H dx = some (.own a) ∧ fs.length ≤ 1000 ∧ dx ≠ a ∧ h.get? a = some (PySem.W.instObj C dx) ∧
      ∃ mA, h.Ns1 dx mA ∧ (∀ f, RelO (fs.lookup f) (mA f)) ∧ PySem.Within mA (fs.map (·.1))
  | .own _ => ∃ o, h.get? a = some o
  | .xd fs => ∃ mA, h.Ns1 a mA ∧ ∀ f, RelO (fs.lookup f) (mA f)
  | .rng lo hi => ∃ t u v, h.get? a = some { cls := .type "range", data := .fields #[.int lo t, .int hi u, .int 1 v] }
  | .frz o u => h.get? a = some o ∧ ObjOk H h a u
  | .tbl ps => h.get? a = some { cls := .none, data := .fields ps }
  | .met f x => h.get? a = some (PySem.W.methodObj (.ref f) (.ref x))
  | .ext φ => φ h ∧ (∃ o, h.get? a = some o) ∧ ∀ h1 h2 : Heap, φ h1 → (∀ o, h1.get? a = some o → h2.get? a = some o) → φ h2
/-- the abstract heap is held -/
def HOk (H : Hp) (h : Heap) : Prop := ∀ a o, H a = some o → ObjOk P w H h a o
end

section
variable {P : Program} {w : World} {H H' : Hp} {h h' : Heap} {a : Addr} {o : HO}
theorem ObjOk.lt (x : ObjOk P w H h a o) : a < h.objs.size := by
  cases o with
  | lst xs => obtain ⟨_, _, _, _, e⟩ := x; exact Heap.lt_size e
  | tup xs => obtain ⟨_, _, _, p⟩ := x; exact p.lt
  | dK kvs => obtain ⟨_, _, _, _, o, _, _, e, _⟩ := x; exact Heap.lt_size e
  | dT kvs => obtain ⟨_, _, _, _, o, _, _, e, _⟩ := x; exact Heap.lt_size e
  | set S n => obtain ⟨o, _, _, _, e, _⟩ := x; exact Heap.lt_size e
  | ins C dx fs => obtain ⟨_, _, _, e, _⟩ := x; exact Heap.lt_size e
  | own y => obtain ⟨_, e⟩ := x; exact Heap.lt_size e
  | xd fs => obtain ⟨_, ⟨_, _, _, e, _⟩, _⟩ := x; exact Heap.lt_size e
  | rng lo hi => obtain ⟨_, _, _, e⟩ := x; exact Heap.lt_size e
  | frz ob u => obtain ⟨e, _⟩ := x; exact Heap.lt_size e
  | tbl ps => exact Heap.lt_size (show h.get? a = some _ from x)
  | met f y => exact Heap.lt_size (show h.get? a = some _ from x)
  | ext φ => obtain ⟨_, ⟨_, e⟩, _⟩ := x; exact Heap.lt_size e
theorem Paired.mapP {α β : Type} {F G : α → β → Prop} : ∀ {l₁ : List α} {l₂ : List β}, Paired F l₁ l₂ → (∀ a b, F a b → G a b) → Paired G l₁ l₂
  | _, _, .nil, _ => .nil
  | _, _, .cons r t, f => .cons (f _ _ r) (Paired.mapP t f)
/-- what an object's description leans on: its own object, its own dict, the tuples -/
theorem ObjOk.stay (x : ObjOk P w H h a o) (k : ∀ b u, (b = a ∨ H b = some (.own a)) → h.get? b = some u → h'.get? b = some u)
    (ho : ∀ b, H b = some (.own a) → H' b = some (.own a)) (ht : ∀ b xs, H b = some (.tup xs) → H' b = some (.tup xs)) : ObjOk P w H' h' a o := by
  induction o with
  | lst xs => obtain ⟨z, its, n, r, e⟩ := x; exact ⟨z, its, n, r, k _ _ (.inl rfl) e⟩
  | tup xs => obtain ⟨z, its, r, ob, e, c⟩ := x; exact ⟨z, its, r, ob, k _ _ (.inl rfl) e, c⟩
  | dK kvs => obtain ⟨z, y, vs, r, ob, es, ep, e, c⟩ := x; exact ⟨z, y, vs, r, ob, es, ep, k _ _ (.inl rfl) e, c⟩
  | dT kvs =>
    obtain ⟨z, y, xs, r, ob, es, ep, e, c⟩ := x
    exact ⟨z, y, xs, Paired.mapP r fun p q z => ⟨z.1, ht _ _ z.2.1, z.2.2⟩, ob, es, ep, k _ _ (.inl rfl) e, c⟩
  | set S n => obtain ⟨ob, es, ep, t, e, c⟩ := x; exact ⟨ob, es, ep, t, k _ _ (.inl rfl) e, c⟩
  | ins C dx fs =>
    obtain ⟨d, z, ne, e, mA, ⟨od, es, ep, e2, c⟩, r⟩ := x
    exact ⟨ho _ d, z, ne, k _ _ (.inl rfl) e, mA, ⟨od, es, ep, k _ _ (.inr d) e2, c⟩, r⟩
  | own y => obtain ⟨ob, e⟩ := x; exact ⟨ob, k _ _ (.inl rfl) e⟩
  | xd fs => obtain ⟨mA, ⟨od, es, ep, e, c⟩, r⟩ := x; exact ⟨mA, ⟨od, es, ep, k _ _ (.inl rfl) e, c⟩, r⟩
  | rng lo hi => obtain ⟨t, u, v, e⟩ := x; exact ⟨t, u, v, k _ _ (.inl rfl) e⟩
  | frz ob u ih => obtain ⟨e, q⟩ := x; exact ⟨k _ _ (.inl rfl) e, ih q⟩
  | tbl ps =>
    have e : h.get? a = some { cls := .none, data := .fields ps } := x
    show h'.get? a = some { cls := .none, data := .fields ps }
    exact k a _ (.inl rfl) e
  | met f y =>
    have e : h.get? a = some (PySem.W.methodObj (.ref f) (.ref y)) := x
    show h'.get? a = some (PySem.W.methodObj (.ref f) (.ref y))
    exact k a _ (.inl rfl) e
  | ext φ => obtain ⟨p, ⟨o, e⟩, st⟩ := x; exact ⟨st _ _ p fun o q => k _ _ (.inl rfl) q, ⟨o, k _ _ (.inl rfl) e⟩, st⟩
theorem HOk.lt (x : HOk P w H h) (e : H a = some o) : a < h.objs.size := (x a o e).lt
theorem HOk.fresh (x : HOk P w H h) (e : h.objs.size ≤ a) : H a = none := by
  cases q : H a with
  | none => rfl
  | some u => exact absurd (Nat.lt_of_lt_of_le (x.lt q) e) (Nat.lt_irrefl _)
/-- every object of the heap is kept -/
theorem HOk.kept (x : HOk P w H h) (k : ∀ b u, h.get? b = some u → h'.get? b = some u) : HOk P w H h' := fun a o e =>
  (x a o e).stay (fun b u _ q => k b u q) (fun _ q => q) fun _ _ q => q
/-- a new object is laid and tracked -/
theorem HOk.laid (x : HOk P w H h) (k : ∀ b u, h.get? b = some u → h'.get? b = some u) (hp : h.objs.size ≤ a) (new : ObjOk P w (upd H a o) h' a o) : HOk P w (upd H a o) h' := fun b u e => by
  have hn := x.fresh hp
  by_cases hb : b = a
  · subst hb; rw [upd_same] at e; cases e; exact new
  · rw [upd_ne hb] at e
    exact (x b u e).stay (fun c v _ q => k c v q) (fun c q => by rw [upd_ne (ne_of_none q hn)]; exact q) fun c xs q => by rw [upd_ne (ne_of_none q hn)]; exact q
end

/-- what may be read as u: it is u, or a known u -/
def Rd (H : Hp) (a : Addr) (u : HO) : Prop := H a = some u ∨ ∃ o, H a = some (.frz o u)
theorem Rd.of {H : Hp} {a : Addr} {u : HO} (h : H a = some u) : Rd H a u := .inl h
theorem Rd.ok {P : Program} {w : World} {H : Hp} {h : Heap} {a : Addr} {u : HO} (r : Rd H a u) (x : HOk P w H h) : ObjOk P w H h a u := by
  rcases r with r | ⟨o, r⟩
  · exact x a u r
  · obtain ⟨_, q⟩ := x a _ r
    exact q
/-- what may be written -/
def Mut : Option HO → Prop
  | some (.lst _) => True
  | some (.dK _) => True
  | some (.dT _) => True
  | some (.set _ _) => True
  | some (.ins _ _ _) => True
  | some (.ext _) => True
  | _ => False
section
variable {P : Program} {w : World} {H : Hp} {h h' : Heap} {x e : Addr} {o' : HO}
/-- the object at e is changed: x itself, or the dict of the instance x -/
theorem HOk.write (ok : HOk P w H h) (mu : Mut (H x)) (he : e = x ∨ H e = some (.own x)) (k : ∀ b u, b ≠ e → h.get? b = some u → h'.get? b = some u) (heo : ∃ u, h'.get? e = some u)
    (new : ObjOk P w (upd H x o') h' x o') : HOk P w (upd H x o') h' := fun b u q => by
  have nown : ∀ c y, H c = some (.own y) → c ≠ x := fun c y r z => by subst z; rw [r] at mu; exact mu
  have ntup : ∀ c xs, H c = some (.tup xs) → c ≠ x := fun c xs r z => by subst z; rw [r] at mu; exact mu
  by_cases hb : b = x
  · subst hb; rw [upd_same] at q; cases q; exact new
  · rw [upd_ne hb] at q
    by_cases hbe : b = e
    · have q' : H b = some (.own x) := by
        rcases he with z | z
        · exact absurd (hbe.trans z) hb
        · rw [hbe]; exact z
      rw [q] at q'; cases q'
      obtain ⟨v, hv⟩ := heo
      exact ⟨v, by rw [hbe]; exact hv⟩
    · refine (ok b u q).stay (fun c v hc r => k c v ?_ r) (fun c r => by rw [upd_ne (nown c b r)]; exact r) fun c xs r => by rw [upd_ne (ntup c xs r)]; exact r
      rcases hc with rfl | hc
      · exact hbe
      · rintro rfl
        rcases he with z | z
        · exact nown c b hc z
        · rw [hc] at z; cases z; exact hb rfl
end

structure Un (fs ex : List Addr) (H H' : Hp) (h h' : Heap) : Prop where
  keep : ∀ b o, h.get? b = some o → H b = none → b ∉ fs → b ∉ ex → h'.get? b = some o
  slot : ∀ b o, h.get? b = some o → H b = none → b ∈ fs → b ∉ ex → ∃ sl, h'.get? b = some { o with slots := sl }
  free : ∀ b o, h.get? b = some o → H b = none → b ∉ ex → H' b = none
  there : ∀ b o, h.get? b = some o → b ∉ ex → ∃ o', h'.get? b = some o'
  tups : ∀ b xs, H b = some (.tup xs) → H' b = some (.tup xs)
  frzs : ∀ b o u, H b = some (.frz o u) → H' b = some (.frz o u)
  tbls : ∀ b ps, H b = some (.tbl ps) → ∃ more, H' b = some (.tbl (ps ++ more))
section
variable {fs fs' ex ex' : List Addr} {H H1 H2 : Hp} {h h1 h2 h' : Heap} {a x e : Addr} {o : HO}
theorem Un.any (u : Un fs ex H H1 h h1) {b : Addr} {ob : Obj} (q : h.get? b = some ob) (n : H b = none) (hx : b ∉ ex) : ∃ sl, h1.get? b = some { ob with slots := sl } := by
  by_cases hb : b ∈ fs
  · exact u.slot b ob q n hb hx
  · exact ⟨ob.slots, u.keep b ob q n hb hx⟩
theorem Un.trans (a : Un fs ex H H1 h h1) (b : Un fs ex H1 H2 h1 h2) : Un fs ex H H2 h h2 where
  keep := fun c ob q n hc hx => b.keep c ob (a.keep c ob q n hc hx) (a.free c ob q n hx) hc hx
  slot := fun c ob q n hc hx => by
    obtain ⟨sl, e1⟩ := a.slot c ob q n hc hx
    obtain ⟨sl', e2⟩ := b.slot c _ e1 (a.free c ob q n hx) hc hx
    exact ⟨sl', e2⟩
  free := fun c ob q n hx => by
    obtain ⟨o', e1⟩ := a.there c ob q hx
    exact b.free c o' e1 (a.free c ob q n hx) hx
  there := fun c ob q hx => by
    obtain ⟨o', e1⟩ := a.there c ob q hx
    exact b.there c o' e1 hx
  tups := fun c xs q => b.tups c xs (a.tups c xs q)
  frzs := fun c ob xs q => b.frzs c ob xs (a.frzs c ob xs q)
  tbls := fun c ps q => by
    obtain ⟨m1, e1⟩ := a.tbls c ps q
    obtain ⟨m2, e2⟩ := b.tbls c _ e1
    exact ⟨m1 ++ m2, by rw [e2, Array.append_assoc]⟩
theorem Un.kept (k : ∀ b u, h.get? b = some u → h'.get? b = some u) : Un fs ex H H h h' :=
  ⟨fun b ob q _ _ _ => k b ob q, fun b ob q _ _ _ => ⟨ob.slots, k b ob q⟩, fun _ _ _ n _ => n, fun b ob q _ => ⟨ob, k b ob q⟩, fun _ _ q => q, fun _ _ _ q => q, fun _ ps q => ⟨#[], by rw [q]; simp⟩⟩
theorem Un.refl : Un fs ex H H h h := Un.kept fun _ _ q => q
theorem Un.laid (k : ∀ b u, h.get? b = some u → h'.get? b = some u) (hp : h.objs.size ≤ a) (hn : H a = none) : Un fs ex H (upd H a o) h h' where
  keep := fun b u q _ _ _ => k b u q
  slot := fun b u q _ _ _ => ⟨u.slots, k b u q⟩
  free := fun b u q n _ => by rw [upd_ne (Nat.ne_of_lt (Nat.lt_of_lt_of_le (Heap.lt_size q) hp))]; exact n
  there := fun b u q _ => ⟨u, k b u q⟩
  tups := fun b xs q => by rw [upd_ne (ne_of_none q hn)]; exact q
  frzs := fun b u xs q => by rw [upd_ne (ne_of_none q hn)]; exact q
  tbls := fun b ps q => ⟨#[], by rw [upd_ne (ne_of_none q hn), q]; simp⟩
theorem Un.write (mu : Mut (H x)) (he : e = x ∨ H e = some (.own x)) (k : ∀ b u, b ≠ e → h.get? b = some u → h'.get? b = some u) (heo : ∃ u, h'.get? e = some u) : Un fs ex H (upd H x o) h h' := by
  have hx : ∀ b, H b = none → b ≠ x := fun b n z => by subst z; rw [n] at mu; exact mu
  have hb : ∀ b, H b = none → b ≠ e := fun b n z => by
    subst z
    rcases he with r | r
    · exact hx b n r
    · rw [n] at r; cases r
  have hm : ∀ b u, H b = some u → ¬ Mut (some u) → b ≠ x := fun b u q nm z => by subst z; rw [q] at mu; exact nm mu
  refine ⟨fun b u q n _ _ => k b u (hb b n) q, fun b u q n _ _ => ⟨u.slots, k b u (hb b n) q⟩, fun b u q n _ => by rw [upd_ne (hx b n)]; exact n, fun b u q _ => ?_,
    fun b xs q => by rw [upd_ne (hm b _ q fun z => z)]; exact q, fun b u xs q => by rw [upd_ne (hm b _ q fun z => z)]; exact q, fun b ps q => ⟨#[], by rw [upd_ne (hm b _ q fun z => z), q]; simp⟩⟩
  by_cases hbe : b = e
  · subst hbe; exact heo
  · exact ⟨u, k b u hbe q⟩
theorem Un.mono (u : Un fs ex H H1 h h1) (hs : ∀ b ∈ fs, b ∈ fs') (hx : ∀ b ∈ ex, b ∈ ex') : Un fs' ex' H H1 h h1 :=
  ⟨fun b ob q n hb he => u.keep b ob q n (fun z => hb (hs b z)) fun z => he (hx b z), fun _ _ q n _ he => u.any q n fun z => he (hx _ z), fun b ob q n he => u.free b ob q n fun z => he (hx b z), fun b ob q he => u.there b ob q fun z => he (hx b z), u.tups, u.frzs, u.tbls⟩
end

def trk (h : Heap) (H : Hp) : List Addr := (List.range h.objs.size).filter fun a => (H a).isSome
def hidT (h : Heap) (H : Hp) : Heap := PySem.W.hideAll h (trk h H)
theorem hidT_size (h : Heap) (H : Hp) : (hidT h H).objs.size = h.objs.size := PySem.W.hideAll_size _ _
theorem hidT_get {h : Heap} {H : Hp} {b : Addr} {o : Obj} (e : h.get? b = some o) (n : H b = none) : (hidT h H).get? b = some o :=
  PySem.W.hideAll_get _ e fun hm => by
    have q : (H b).isSome = true := (List.mem_filter.mp hm).2
    rw [n] at q; simp at q
theorem of_hidT {h : Heap} {H : Hp} {b : Addr} {o : Obj} (e : (hidT h H).get? b = some o) : h.get? b = some o ∧ H b = none := by
  have e' : h.get? b = some o := PySem.W.of_hideAll (trk h H) e
  refine ⟨e', ?_⟩
  cases q : H b with
  | none => rfl
  | some x =>
    have hm : b ∈ trk h H := List.mem_filter.mpr ⟨List.mem_range.mpr (Heap.lt_size e'), by simp [q]⟩
    have z : (hidT h H).get? b = none := PySem.W.hideAll_none (trk h H) hm
    rw [z] at e; cases e

def allNews (g h : Heap) (L : Addr) : List (Addr × Obj) := (List.range h.objs.size).filterMap fun a => if a = L ∨ (g.get? a).isSome = true then none else (h.get? a).map fun o => (a, o)
def rest (g h : Heap) (L d : Addr) : List (Addr × Obj) := (allNews g h L).filter fun p => decide (p.1 ≠ d)
end L2

namespace L2
open PySem PySem.Spec PyProof.Rows

/-- the module's facts, over the base: the heap at the law's entry without what is tracked there -/
structure Mod (K : PySem.W.Frag) (mg : Str → Option Value) (base : Heap) : Prop where
  kin : K.In base
  glob : base.Ns mainGlobals mg
  blt : ∃ mb, base.Ns builtinsNs mb ∧ ∀ x : Str, x ≠ "__name__" → mb x = bootBuiltins x
  nolimit : base.NoLimit

/-- the context: a def's body (or a comprehension's block) running. base: fixed through the whole law; s₀, H₀: the entry; outer: the frames whose slots others may change (a def's callers); stack: all frames that run;
   ex: iterators that were made ahead of the entry and are walked here (a comprehension's); fn: the names whose cells were made at the entry (a def: all; a comprehension's block: its own); calm: not within an except suite; pn: pins that every state bears; xe: what is wanted of an exception that leaves the code -/
structure Cx where
  prog : Program
  w : World
  K : PySem.W.Frag
  mg : Str → Option Value
  base : Heap
  A : Around
  N : List Str
  s₀ : Shared
  H₀ : Hp
  env : Env
  outer : List Env
  stack : List Env
  ex : List Addr
  fn : Str → Bool
  calm : Bool
  pn : List (Addr × Obj)
  xe : Value → Shared → Prop
/-- the callers' frames -/
def frs (l : List Env) : List Addr := l.filterMap (·.frame)
abbrev Cx.fs (X : Cx) : List Addr := frs X.outer

def Vis (sc : Scope) (x : Str) : Prop := sc.names.lookup x = some .local ∨ sc.names.lookup x = some .cell ∨ sc.names.lookup x = some .free
def Loc (sc : Scope) (x : Str) : Prop := sc.names.lookup x = some .local ∨ sc.names.lookup x = some .cell
def Look (env : Env) (h : Heap) (m : Str → Option Value) (x : Str) (u : Value) : Prop :=
  (env.kindOf x = some .local ∧ m x = some u) ∨ ((env.kindOf x = some .cell ∨ env.kindOf x = some .free) ∧ ∃ c, env.cells.lookup x = some c ∧ h.IsCell c (some u))

structure Cx.Ok (X : Cx) : Prop where
  mod : Mod X.K X.mg X.base
  kind : X.env.scope.kind = .function
  glob : X.env.globals = mainGlobals
  blt : X.env.builtins = builtinsNs
  above : X.s₀.heap.objs.size ≤ X.env.locals
  inj : ∀ x y c, X.env.cells.lookup x = some c → X.env.cells.lookup y = some c → x = y
  has : ∀ x, (X.env.kindOf x = some .cell ∨ X.env.kindOf x = some .free) → ∃ c, X.env.cells.lookup x = some c
  cab : ∀ x c, X.fn x = true → X.env.cells.lookup x = some c → X.s₀.heap.objs.size ≤ c
  hd : X.calm = true → X.A.handled = none
  frames : X.A.frames = some X.stack
  stk : X.stack = X.outer ∨ (X.stack = X.env :: X.outer ∧ X.env.frame = some X.env.locals)
  exf : ∀ b ∈ X.ex, b ≠ X.env.locals ∧ ∀ x c, X.env.cells.lookup x = some c → c ≠ b
  bs : ∀ b o, X.base.get? b = some o → X.s₀.heap.get? b = some o ∧ X.H₀ b = none
  bsz : X.base.objs.size ≤ X.s₀.heap.objs.size
  noex : ∀ b o, X.base.get? b = some o → b ∉ X.ex
  exfs : ∀ b ∈ X.ex, b ∉ X.fs
  funs : X.s₀.heap.FunFrames X.base X.outer
  frf : ∀ b ∈ X.fs, X.H₀ b = none

structure Inv (X : Cx) (pins : List (Addr × Obj)) (σ : List (Option V)) (H : Hp) (s : Shared) : Prop where
  ok : X.Ok
  os : s.os = X.s₀.os
  bare : AllBare s.gens
  base : Un X.fs X.ex X.H₀ H X.s₀.heap s.heap
  loc : ∃ m, s.heap.Ns X.env.locals m ∧ ∀ (i : Nat) (x : Str) (v : V), X.N[i]? = some x → σ[i]? = some (some v) → Vis X.env.scope x → ∃ u, RelV v u ∧ Look X.env s.heap m x u
  cell : ∀ x c, X.env.cells.lookup x = some c → ∃ v, s.heap.IsCell c v
  free : H X.env.locals = none
  freeC : ∀ x c, X.env.cells.lookup x = some c → H c = none
  pin : ∀ p ∈ X.pn ++ pins, s.heap.get? p.1 = some p.2 ∧ H p.1 = none ∧ p.1 ≠ X.env.locals ∧ p.1 ∉ X.fs ∧ ∀ v, p.2.data ≠ .cell v
  hok : HOk X.prog X.w H s.heap
  len : σ.length = X.N.length

section
variable {X : Cx} {pins : List (Addr × Obj)} {σ : List (Option V)} {H H' : Hp} {s : Shared} {h' : Heap}

theorem Cx.Ok.nofr (ok : X.Ok) {b : Addr} {o : Obj} (e : X.base.get? b = some o) : b ∉ X.fs := fun hb => by
  have := (ok.funs.mem hb).1
  rw [e] at this; cases this
theorem Inv.bs (I : Inv X pins σ H s) : ∀ b o, X.base.get? b = some o → s.heap.get? b = some o ∧ H b = none := fun b o e =>
  ⟨I.base.keep b o (I.ok.bs b o e).1 (I.ok.bs b o e).2 (I.ok.nofr e) (I.ok.noex b o e), I.base.free b o (I.ok.bs b o e).1 (I.ok.bs b o e).2 (I.ok.noex b o e)⟩
theorem Inv.bk (I : Inv X pins σ H s) : ∀ b o, X.base.get? b = some o → s.heap.get? b = some o := fun b o e => (I.bs b o e).1
theorem Inv.mod (I : Inv X pins σ H s) : Mod X.K X.mg X.base := I.ok.mod
theorem Inv.kIn (I : Inv X pins σ H s) : X.K.In s.heap := I.ok.mod.kin.keeps I.bk
theorem Inv.nolimit (I : Inv X pins σ H s) : s.heap.NoLimit := I.ok.mod.nolimit.keeps I.bk
/-- the frame over the base: for OpenK's rules (K.In X.base is I.mod.kin) -/
theorem Inv.fr (I : Inv X pins σ H s) : ∃ m, Fr X.base X.env.locals s.heap m :=
  let ⟨m, hn, _⟩ := I.loc
  ⟨m, hn, I.bk, Nat.le_trans I.ok.bsz I.ok.above⟩
theorem Inv.lt (I : Inv X pins σ H s) : X.env.locals < s.heap.objs.size := let ⟨_, hn, _⟩ := I.loc; hn.lt
theorem Inv.sz (I : Inv X pins σ H s) : X.s₀.heap.objs.size ≤ s.heap.objs.size := Nat.le_trans I.ok.above (Nat.le_of_lt I.lt)
theorem Inv.nofs (I : Inv X pins σ H s) {a : Addr} (h : s.heap.objs.size ≤ a) : a ∉ X.fs := fun hb => by
  obtain ⟨_, o, ho, _⟩ := I.ok.funs.mem hb
  exact absurd (Nat.lt_of_lt_of_le (Heap.lt_size ho) (Nat.le_trans I.sz h)) (Nat.lt_irrefl _)
theorem Inv.cne (I : Inv X pins σ H s) : ∀ x c, X.env.cells.lookup x = some c → c ≠ X.env.locals := fun x c e z => by
  obtain ⟨v, o, ho, hd⟩ := I.cell x c e
  obtain ⟨m, ⟨o', es, ep, ho', hd', _⟩, _⟩ := I.loc
  rw [z, ho'] at ho; cases ho; rw [hd'] at hd; cases hd
theorem Inv.funs (I : Inv X pins σ H s) : s.heap.FunFrames X.base X.outer := by
  have all : ∀ (l : List Env), (∀ b ∈ frs l, b ∈ X.fs) → X.s₀.heap.FunFrames X.base l → s.heap.FunFrames X.base l := by
    intro l
    induction l with
    | nil => intro _ _; trivial
    | cons env r ih =>
      intro hs hl
      obtain ⟨hk, ⟨L, o, hf, hn, ho, hd⟩, hr⟩ := hl
      have hL : L ∈ X.fs := hs L (by unfold frs; rw [List.filterMap_cons, hf]; exact List.mem_cons_self)
      obtain ⟨sl, e⟩ := I.base.slot L o ho (I.ok.frf L hL) hL fun z => I.ok.exfs L z hL
      exact ⟨hk, ⟨L, _, hf, hn, e, hd⟩, ih (fun b hb => hs b (by unfold frs; rw [List.filterMap_cons, hf]; exact List.mem_cons_of_mem _ hb)) hr⟩
  exact all X.outer (fun _ hb => hb) I.ok.funs

/-- the frames that run, for a call -/
theorem Inv.stack (I : Inv X pins σ H s) : s.heap.FunFrames X.base X.stack := by
  rcases I.ok.stk with e | ⟨e, hf⟩
  · rw [e]; exact I.funs
  · rw [e]
    obtain ⟨m, hn, _⟩ := I.loc
    refine .cons (by rw [I.ok.kind]; decide) hf hn ?_ I.funs
    exact Heap.get?_none_of_le (Nat.le_trans I.ok.bsz I.ok.above)
theorem Inv.stkSub (I : Inv X pins σ H s) : ∀ b ∈ frs X.stack, b ∈ X.env.locals :: X.fs := fun b hb => by
  rcases I.ok.stk with e | ⟨e, hf⟩
  · rw [e] at hb; exact List.mem_cons_of_mem _ hb
  · rw [e] at hb
    unfold frs at hb
    rw [List.filterMap_cons, hf] at hb
    exact hb
theorem Inv.stkFree (I : Inv X pins σ H s) : ∀ b ∈ frs X.stack, H b = none := fun b hb => by
  rcases List.mem_cons.mp (I.stkSub b hb) with e | hb
  · rw [e]; exact I.free
  · obtain ⟨_, o, ho, _⟩ := I.ok.funs.mem hb
    exact I.base.free b o ho (I.ok.frf b hb) fun z => I.ok.exfs b z hb

/-- THE STEP: the untracked objects but the frame and the records at ch are kept (the callers' frames up to slots), the frame's map is kept, the new abstract heap is held -/
theorem Inv.step {g' : Array GenState} {t' : Nat} {d' : Drawn} {ch : List Addr} (I : Inv X pins σ H s)
    (hch : ∀ b ∈ ch, (b ∈ X.ex ∨ X.s₀.heap.objs.size ≤ b) ∧ b ≠ X.env.locals ∧ (∀ x c, X.env.cells.lookup x = some c → c ≠ b) ∧ ∀ p ∈ X.pn ++ pins, p.1 ≠ b)
    (keep : ∀ b o, b ≠ X.env.locals → b ∉ X.fs → b ∉ ch → s.heap.get? b = some o → H b = none → h'.get? b = some o)
    (slot : ∀ b o, b ≠ X.env.locals → b ∈ X.fs → b ∉ ch → s.heap.get? b = some o → H b = none → ∃ sl, h'.get? b = some { o with slots := sl }) (free : ∀ b o, b ∉ ch → s.heap.get? b = some o → H b = none → H' b = none)
    (there : ∀ b o, b ∉ ch → s.heap.get? b = some o → ∃ o', h'.get? b = some o')
    (tups : ∀ b xs, H b = some (.tup xs) → H' b = some (.tup xs)) (frzs : ∀ b o u, H b = some (.frz o u) → H' b = some (.frz o u)) (tbls : ∀ b ps, H b = some (.tbl ps) → ∃ more, H' b = some (.tbl (ps ++ more)))
    (ns : ∀ m, s.heap.Ns X.env.locals m → h'.Ns X.env.locals m) (hok : HOk X.prog X.w H' h') (hg : AllBare g') :
    Inv X pins σ H' { s with heap := h', gens := g', drawn := d', toks := t' } := by
  have neL : ∀ b o, X.s₀.heap.get? b = some o → b ≠ X.env.locals := fun b o e => Nat.ne_of_lt (Nat.lt_of_lt_of_le (Heap.lt_size e) I.ok.above)
  have neC : ∀ b o, X.s₀.heap.get? b = some o → b ∉ X.ex → b ∉ ch := fun b o e hx hb => by
    rcases (hch b hb).1 with z | z
    · exact hx z
    · exact absurd (Nat.lt_of_lt_of_le (Heap.lt_size e) z) (Nat.lt_irrefl _)
  have cellK : ∀ x c, X.env.cells.lookup x = some c → ∀ v, s.heap.IsCell c v → h'.IsCell c v := fun x c e v ⟨o, ho, hd⟩ => by
    have nch : c ∉ ch := fun z => (hch c z).2.2.1 x c e rfl
    by_cases hc : c ∈ X.fs
    · obtain ⟨sl, q⟩ := slot c o (I.cne x c e) hc nch ho (I.freeC x c e)
      exact ⟨_, q, hd⟩
    · exact ⟨o, keep c o (I.cne x c e) hc nch ho (I.freeC x c e), hd⟩
  refine ⟨I.ok, I.os, hg, ⟨fun b o e n hb hx => ?_, fun b o e n hb hx => ?_, fun b o e n hx => ?_, fun b o e hx => ?_, fun b xs e => tups b xs (I.base.tups b xs e), fun b o xs e => frzs b o xs (I.base.frzs b o xs e), fun b ps e => ?_⟩, ?_, fun x c e => ?_, ?_, fun x c e => ?_, fun p hp => ?_, hok, I.len⟩
  · exact keep b o (neL b o e) hb (neC b o e hx) (I.base.keep b o e n hb hx) (I.base.free b o e n hx)
  · obtain ⟨sl, e1⟩ := I.base.slot b o e n hb hx
    obtain ⟨sl', e2⟩ := slot b _ (neL b o e) hb (neC b o e hx) e1 (I.base.free b o e n hx)
    exact ⟨sl', e2⟩
  · obtain ⟨o', e1⟩ := I.base.there b o e hx
    exact free b o' (neC b o e hx) e1 (I.base.free b o e n hx)
  · obtain ⟨o', e1⟩ := I.base.there b o e hx
    exact there b o' (neC b o e hx) e1
  · obtain ⟨m1, e1⟩ := I.base.tbls b ps e
    obtain ⟨m2, e2⟩ := tbls b _ e1
    exact ⟨m1 ++ m2, by rw [e2, Array.append_assoc]⟩
  · obtain ⟨m, hn, hl⟩ := I.loc
    refine ⟨m, ns m hn, fun i x v e1 e2 e3 => ?_⟩
    obtain ⟨u, r, l⟩ := hl i x v e1 e2 e3
    refine ⟨u, r, ?_⟩
    rcases l with l | ⟨k, c, e, z⟩
    · exact .inl l
    · exact .inr ⟨k, c, e, cellK x c e _ z⟩
  · obtain ⟨v, z⟩ := I.cell x c e
    exact ⟨v, cellK x c e v z⟩
  · obtain ⟨m, ⟨o, _, _, ho, _⟩, _⟩ := I.loc
    exact free _ o (fun z => (hch _ z).2.1 rfl) ho I.free
  · obtain ⟨v, o, ho, hd⟩ := I.cell x c e
    exact free c o (fun z => (hch c z).2.2.1 x c e rfl) ho (I.freeC x c e)
  · obtain ⟨e, n, ne, nf, d⟩ := I.pin p hp
    have nch : p.1 ∉ ch := fun z => (hch p.1 z).2.2.2 p hp rfl
    exact ⟨keep p.1 p.2 ne nf nch e n, free p.1 p.2 nch e n, ne, nf, d⟩
/-- .. where the frame's own object is kept too -/
theorem Inv.un {t' : Nat} (I : Inv X pins σ H s) (u : Un X.fs [] H H' s.heap h') (hok : HOk X.prog X.w H' h') : Inv X pins σ H' { s with heap := h', toks := t' } := by
  obtain ⟨m, ⟨o, es, ep, ho, r⟩, _⟩ := id I.loc
  obtain ⟨sl, hL⟩ := u.any ho I.free (by simp)
  exact I.step (g' := s.gens) (d' := s.drawn) (ch := []) (fun _ z => nomatch z) (fun b o _ hb _ e n => u.keep b o e n hb (by simp)) (fun b o _ hb _ e n => u.slot b o e n hb (by simp)) (fun b o _ e n => u.free b o e n (by simp)) (fun b o _ e => u.there b o e (by simp)) u.tups u.frzs u.tbls (fun m' hm => by
    obtain ⟨o', es', ep', ho', r'⟩ := hm
    rw [ho] at ho'; cases ho'
    exact ⟨_, es', ep', hL, r'⟩) hok I.bare
/-- behind a call (or a comprehension's block): the slots of this frame may have changed too, the records at ch may have turned -/
theorem Inv.call {g' : Array GenState} {t' : Nat} {d' : Drawn} {ch : List Addr} (I : Inv X pins σ H s) (u : Un (frs X.stack) ch H H' s.heap h') (hok : HOk X.prog X.w H' h') (hg : AllBare g')
    (hch : ∀ b ∈ ch, (b ∈ X.ex ∨ X.s₀.heap.objs.size ≤ b) ∧ b ≠ X.env.locals ∧ (∀ x c, X.env.cells.lookup x = some c → c ≠ b) ∧ ∀ p ∈ X.pn ++ pins, p.1 ≠ b) :
    Inv X pins σ H' { s with heap := h', gens := g', drawn := d', toks := t' } := by
  obtain ⟨m, ⟨o, es, ep, ho, r⟩, _⟩ := id I.loc
  obtain ⟨sl, hL⟩ := u.any ho I.free fun z => (hch _ z).2.1 rfl
  exact I.step (ch := ch) hch (fun b o hL hb hc e n => u.keep b o e n (fun z => (List.mem_cons.mp (I.stkSub b z)).elim hL hb) hc) (fun b o _ _ hc e n => u.any e n hc) (fun b o hc e n => u.free b o e n hc) (fun b o hc e => u.there b o e hc) u.tups u.frzs u.tbls (fun m' hm => by
    obtain ⟨o', es', ep', ho', r'⟩ := hm
    rw [ho] at ho'; cases ho'
    exact ⟨_, es', ep', hL, r'⟩) hok hg
/-- an untracked record of ours (an iterator) has turned -/
theorem Inv.turned {t' : Nat} {it : Addr} (I : Inv X pins σ H s) (k : ∀ b o, b ≠ it → s.heap.get? b = some o → h'.get? b = some o) (hn : H it = none) (hL : it ≠ X.env.locals)
    (h1 : it ∈ X.ex ∨ X.s₀.heap.objs.size ≤ it) (h2 : ∀ x c, X.env.cells.lookup x = some c → c ≠ it) (h3 : ∀ p ∈ X.pn ++ pins, p.1 ≠ it) : Inv X pins σ H { s with heap := h', toks := t' } := by
  have nit : ∀ b u, H b = some u → b ≠ it := fun b u e z => by rw [z, hn] at e; cases e
  refine I.step (g' := s.gens) (d' := s.drawn) (ch := [it]) (fun b hb => ?_) (fun b o _ _ hc e _ => k b o (fun z => hc (by simp [z])) e) (fun b o _ _ hc e _ => ⟨o.slots, k b o (fun z => hc (by simp [z])) e⟩) (fun _ _ _ _ n => n)
    (fun b o hc e => ⟨o, k b o (fun z => hc (by simp [z])) e⟩) (fun _ _ e => e) (fun _ _ _ e => e) (fun b ps e => ⟨#[], by rw [e]; simp⟩) (fun m hm => ?_) (fun b u e => ?_) I.bare
  · have e : b = it := by simpa using hb
    subst e
    exact ⟨h1, hL, h2, h3⟩
  · obtain ⟨o, es, ep, ho, r⟩ := hm
    exact ⟨o, es, ep, k _ o (Ne.symm hL) ho, r⟩
  · refine (I.hok b u e).stay (fun c v hc q => k c v ?_ q) (fun _ q => q) fun _ _ q => q
    rcases hc with z | z
    · rw [z]; exact nit b u e
    · exact nit c _ z
theorem Inv.tok (I : Inv X pins σ H s) (t : Nat) : Inv X pins σ H { s with toks := t } := I.un (h' := s.heap) (t' := t) Un.refl I.hok
/-- all objects kept -/
theorem Inv.kept {t' : Nat} (I : Inv X pins σ H s) (k : ∀ b u, s.heap.get? b = some u → h'.get? b = some u) : Inv X pins σ H { s with heap := h', toks := t' } := I.un (Un.kept k) (I.hok.kept k)
/-- a new object laid and tracked -/
theorem Inv.laid {a : Addr} {o : HO} {t' : Nat} (I : Inv X pins σ H s) (k : ∀ b u, s.heap.get? b = some u → h'.get? b = some u) (hp : s.heap.objs.size ≤ a) (new : ObjOk X.prog X.w (upd H a o) h' a o) :
    Inv X pins σ (upd H a o) { s with heap := h', toks := t' } := I.un (Un.laid k hp (I.hok.fresh hp)) (I.hok.laid k hp new)
/-- an object written -/
theorem Inv.write {x e : Addr} {o : HO} {t' : Nat} (I : Inv X pins σ H s) (mu : Mut (H x)) (he : e = x ∨ H e = some (.own x)) (k : ∀ b u, b ≠ e → s.heap.get? b = some u → h'.get? b = some u) (heo : ∃ u, h'.get? e = some u)
    (new : ObjOk X.prog X.w (upd H x o) h' x o) : Inv X pins σ (upd H x o) { s with heap := h', toks := t' } := I.un (Un.write mu he k heo) (I.hok.write mu he k heo new)
theorem Inv.pins_of {pins' : List (Addr × Obj)} (I : Inv X pins σ H s) (h : ∀ p ∈ pins', s.heap.get? p.1 = some p.2 ∧ H p.1 = none ∧ p.1 ≠ X.env.locals ∧ p.1 ∉ X.fs ∧ ∀ v, p.2.data ≠ .cell v) : Inv X pins' σ H s :=
  ⟨I.ok, I.os, I.bare, I.base, I.loc, I.cell, I.free, I.freeC, fun p hp => (List.mem_append.mp hp).elim (fun z => I.pin p (List.mem_append_left _ z)) (h p), I.hok, I.len⟩

theorem nodup_ix {N : List Str} (hN : N.Nodup) {i j : Nat} {x : Str} (a : N[i]? = some x) (b : N[j]? = some x) : i = j := by
  obtain ⟨h1, e1⟩ := List.getElem?_eq_some_iff.mp a
  obtain ⟨h2, e2⟩ := List.getElem?_eq_some_iff.mp b
  exact (List.getElem_inj hN).mp (e1.trans e2.symm)

/-- a name is stored; what changed -/
theorem store_ok2 {M : Model} {A : Around} {E : Value → Shared → Prop} {i : Nat} {x : Str} {v : V} {u : Value} {Q : Unit → Shared → Prop} (I : Inv X pins σ H s) (hN : X.N.Nodup) (hi : X.N[i]? = some x) (hx : Loc X.env.scope x) (r : RelV v u)
    (h : ∀ s', Inv X pins (σ.set i (some v)) H s' → (∃ a, Heap.SameBut a s.heap s'.heap ∧ (a = X.env.locals ∨ X.env.cells.lookup x = some a)) → Q () s') (hf : X.fn x = true ∨ X.env.scope.names.lookup x = some .local := by first | exact .inl rfl | exact .inr rfl | assumption) : wpAny M A (storeName X.env x u) Q E s := by
  obtain ⟨m, hn, hl⟩ := id I.loc
  have hcls : (X.env.scope.kind == .class || (X.env.scope.kind == .module && X.env.locals != X.env.globals)) = false := by rw [I.ok.kind]; rfl
  have hiσ : i < σ.length := by rw [I.len]; exact (List.getElem?_eq_some_iff.mp hi).1
  have cne := I.cne
  have tracked : ∀ {a : Addr} {h' : Heap}, (∃ o, s.heap.get? a = some o ∧ H a = none) → Heap.SameBut a s.heap h' → HOk X.prog X.w H h' := fun {a h'} ha hs b ob e => by
    obtain ⟨_, _, hfree⟩ := ha
    refine (I.hok b ob e).stay (fun c w' hc q => (hs.2 c ?_).trans q) (fun _ q => q) fun _ _ q => q
    rintro rfl
    rcases hc with rfl | hc
    · rw [hfree] at e; cases e
    · rw [hfree] at hc; cases hc
  rcases hx with hk | hk
  · refine wpAny_storeName_local hk hn (fun h' hn' hs => ?_) hcls
    obtain ⟨oL, _, _, hoL, _⟩ := id hn
    refine h _ ⟨I.ok, I.os, I.bare, ⟨fun b o e n hb hx => ?_, fun b o e n hb hx => ?_, I.base.free, fun b o e hx => ?_, I.base.tups, I.base.frzs, I.base.tbls⟩, ⟨_, hn', fun j y v' e1 e2 e3 => ?_⟩, fun y c e => ?_, I.free, I.freeC, fun p hp => ?_, tracked ⟨oL, hoL, I.free⟩ hs, by simpa using I.len⟩ ⟨_, hs, .inl rfl⟩
    · exact (hs.2 b (Nat.ne_of_lt (Nat.lt_of_lt_of_le (Heap.lt_size e) I.ok.above))).trans (I.base.keep b o e n hb hx)
    · obtain ⟨sl, e1⟩ := I.base.slot b o e n hb hx
      exact ⟨sl, (hs.2 b (Nat.ne_of_lt (Nat.lt_of_lt_of_le (Heap.lt_size e) I.ok.above))).trans e1⟩
    · obtain ⟨o', e1⟩ := I.base.there b o e hx
      exact ⟨o', (hs.2 b (Nat.ne_of_lt (Nat.lt_of_lt_of_le (Heap.lt_size e) I.ok.above))).trans e1⟩
    · by_cases hj : j = i
      · subst hj
        rw [hi] at e1; cases e1
        rw [List.getElem?_set_self hiσ] at e2
        cases e2
        exact ⟨u, r, .inl ⟨hk, by simp⟩⟩
      · rw [List.getElem?_set_ne (Ne.symm hj)] at e2
        obtain ⟨u', r', q⟩ := hl j y v' e1 e2 e3
        refine ⟨u', r', ?_⟩
        rcases q with ⟨k, e⟩ | ⟨k, c, e, z⟩
        · refine .inl ⟨k, ?_⟩
          have : y ≠ x := fun e => hj (nodup_ix hN e1 (e ▸ hi))
          simp [this, e]
        · exact .inr ⟨k, c, e, z.sameBut hs (cne y c e)⟩
    · obtain ⟨w', z⟩ := I.cell y c e
      exact ⟨w', z.sameBut hs (cne y c e)⟩
    · obtain ⟨e, n, ne, nf, d⟩ := I.pin p hp
      exact ⟨(hs.2 p.1 ne).trans e, n, ne, nf, d⟩
  · have hfn : X.fn x = true := by
      rcases hf with z | z
      · exact z
      · rw [z] at hk; cases hk
    obtain ⟨c, hc⟩ := I.ok.has x (.inl hk)
    obtain ⟨w', z⟩ := I.cell x c hc
    refine wpAny_storeName_cell I.ok.kind hk hc z (fun h' hc' hs => ?_)
    obtain ⟨oc, hoc, hocd⟩ := id z
    refine h { s with heap := h' } ⟨I.ok, I.os, I.bare, ⟨fun b o e n hb hx => ?_, fun b o e n hb hx => ?_, I.base.free, fun b o e hx => ?_, I.base.tups, I.base.frzs, I.base.tbls⟩, ⟨m, hn.sameBut hs (Ne.symm (cne x c hc)), fun j y v' e1 e2 e3 => ?_⟩, fun y c' e => ?_, I.free, I.freeC, fun p hp => ?_, tracked ⟨oc, hoc, I.freeC x c hc⟩ hs, by simpa using I.len⟩ ⟨c, hs, .inr hc⟩
    · exact (hs.2 b (Nat.ne_of_lt (Nat.lt_of_lt_of_le (Heap.lt_size e) (I.ok.cab x c hfn hc)))).trans (I.base.keep b o e n hb hx)
    · obtain ⟨sl, e1⟩ := I.base.slot b o e n hb hx
      exact ⟨sl, (hs.2 b (Nat.ne_of_lt (Nat.lt_of_lt_of_le (Heap.lt_size e) (I.ok.cab x c hfn hc)))).trans e1⟩
    · obtain ⟨o', e1⟩ := I.base.there b o e hx
      exact ⟨o', (hs.2 b (Nat.ne_of_lt (Nat.lt_of_lt_of_le (Heap.lt_size e) (I.ok.cab x c hfn hc)))).trans e1⟩
    · by_cases hj : j = i
      · subst hj
        rw [hi] at e1; cases e1
        rw [List.getElem?_set_self hiσ] at e2
        cases e2
        exact ⟨u, r, .inr ⟨.inl hk, c, hc, hc'⟩⟩
      · rw [List.getElem?_set_ne (Ne.symm hj)] at e2
        obtain ⟨u', r', q⟩ := hl j y v' e1 e2 e3
        refine ⟨u', r', ?_⟩
        rcases q with q | ⟨k, c', e, z'⟩
        · exact .inl q
        · refine .inr ⟨k, c', e, z'.sameBut hs ?_⟩
          rintro rfl
          exact hj (nodup_ix hN e1 (I.ok.inj _ _ _ e hc ▸ hi))
    · by_cases hcc : c' = c
      · subst hcc; exact ⟨_, hc'⟩
      · obtain ⟨w2, z2⟩ := I.cell y c' e
        exact ⟨w2, z2.sameBut hs hcc⟩
    · obtain ⟨e, n, ne, nf, d⟩ := I.pin p hp
      refine ⟨(hs.2 p.1 ?_).trans e, n, ne, nf, d⟩
      intro q
      rw [q, hoc] at e
      have q' : oc = p.2 := Option.some.inj e
      exact d w' (by rw [← q']; exact hocd)
theorem store_ok {M : Model} {A : Around} {E : Value → Shared → Prop} {i : Nat} {x : Str} {v : V} {u : Value} {Q : Unit → Shared → Prop} (I : Inv X pins σ H s) (hN : X.N.Nodup) (hi : X.N[i]? = some x) (hx : Loc X.env.scope x) (r : RelV v u)
    (h : ∀ s', Inv X pins (σ.set i (some v)) H s' → Q () s') (hf : X.fn x = true ∨ X.env.scope.names.lookup x = some .local := by first | exact .inl rfl | exact .inr rfl | assumption) : wpAny M A (storeName X.env x u) Q E s :=
  store_ok2 I hN hi hx r (fun s' I' _ => h s' I') hf
/-- behind a call or a block, the state as it is -/
theorem Inv.call' {s' : Shared} {ch : List Addr} (I : Inv X pins σ H s) (ho : s'.os = s.os) (u : Un (frs X.stack) ch H H' s.heap s'.heap) (hok : HOk X.prog X.w H' s'.heap) (hg : AllBare s'.gens)
    (hch : ∀ b ∈ ch, (b ∈ X.ex ∨ X.s₀.heap.objs.size ≤ b) ∧ b ≠ X.env.locals ∧ (∀ x c, X.env.cells.lookup x = some c → c ≠ b) ∧ ∀ p ∈ X.pn ++ pins, p.1 ≠ b) : Inv X pins σ H' s' := by
  obtain ⟨h', g', d', t', o'⟩ := s'
  have e : o' = s.os := ho
  subst e
  exact I.call (g' := g') (t' := t') (d' := d') u hok hg hch
end

/-- an exception: its class, its own dict's address (where it has one), the abstract heap behind it -/
abbrev XK := Value → Option Addr → Hp → Prop
abbrev St := List (Option V)
abbrev VK := V → Hp → Prop
/-- an expression's reading; a test's; an argument list's -/
abbrev TE := St → Hp → VK → Prop
abbrev TT := St → Hp → (Bool → Hp → Prop) → Prop
abbrev TA := St → Hp → (List V → Hp → Prop) → Prop
/-- what is wanted behind a statement -/
structure Ends where
  nx : St → Hp → Prop
  rt : VK
  bk : St → Hp → Prop := fun _ _ => False
  ct : St → Hp → Prop := fun _ _ => False
abbrev TS := Ends → St → Hp → Prop

def EP (X : Cx) (pins : List (Addr × Obj)) (σ : St) (Q : VK) (u : Value) (s' : Shared) : Prop := ∃ v H', Inv X pins σ H' s' ∧ RelV v u ∧ Q v H'
def TP (X : Cx) (pins : List (Addr × Obj)) (σ : St) (Q : Bool → Hp → Prop) (b : Bool) (s' : Shared) : Prop := ∃ H', Inv X pins σ H' s' ∧ Q b H'
def AP (X : Cx) (pins : List (Addr × Obj)) (σ : St) (Q : List V → Hp → Prop) (us : List Value) (s' : Shared) : Prop := ∃ vs H', Inv X pins σ H' s' ∧ Vals vs us ∧ Q vs H'
def SP (X : Cx) (pins : List (Addr × Obj)) (D : Ends) (f : Flow) (s' : Shared) : Prop :=
  match f with
  | .next => ∃ σ' H', Inv X pins σ' H' s' ∧ D.nx σ' H'
  | .brk => ∃ σ' H', Inv X pins σ' H' s' ∧ D.bk σ' H'
  | .cont => ∃ σ' H', Inv X pins σ' H' s' ∧ D.ct σ' H'
  | .ret u => ∃ v σ' H', Inv X pins σ' H' s' ∧ RelV v u ∧ D.rt v H'

def PE (X : Cx) (e : Expr) (t : TE) : Prop :=
  ∀ (pins : List (Addr × Obj)) (s : Shared) (σ : St) (H : Hp) (Q : VK), Inv X pins σ H s → t σ H Q → wpAny (model X.prog X.w) X.A (eval e X.env) (EP X pins σ Q) X.xe s
def PT (X : Cx) (e : Expr) (t : TT) : Prop :=
  ∀ (pins : List (Addr × Obj)) (s : Shared) (σ : St) (H : Hp) (Q : Bool → Hp → Prop), Inv X pins σ H s → t σ H Q → wpAny (model X.prog X.w) X.A (isTrue e X.env (eval e X.env)) (TP X pins σ Q) X.xe s
/-- a test whatever its 'whole' is (and, or) -/
def PW (X : Cx) (e : Expr) (t : TT) : Prop :=
  ∀ (whole : Sem Value) (pins : List (Addr × Obj)) (s : Shared) (σ : St) (H : Hp) (Q : Bool → Hp → Prop), Inv X pins σ H s → t σ H Q → wpAny (model X.prog X.w) X.A (isTrue e X.env whole) (TP X pins σ Q) X.xe s
theorem PW.pt {X : Cx} {e : Expr} {t : TT} (h : PW X e t) : PT X e t := h _
/-- an argument list (no star), from the left -/
def PA (X : Cx) (es : List Expr) (t : TA) : Prop :=
  ∀ (pos : Pos) (pins : List (Addr × Obj)) (s : Shared) (σ : St) (H : Hp) (Q : List V → Hp → Prop), Inv X pins σ H s → t σ H Q → wpAny (model X.prog X.w) X.A (spliced (backTo pos (starEach es X.env))) (AP X pins σ Q) X.xe s
def PS (X : Cx) (st : Stmt) (t : TS) : Prop :=
  ∀ (pins : List (Addr × Obj)) (s : Shared) (σ : St) (H : Hp) (D : Ends), Inv X pins σ H s → t D σ H → wpAny (model X.prog X.w) X.A (exec st X.env) (SP X pins D) X.xe s
def PSs (X : Cx) (st : List Stmt) (t : TS) : Prop :=
  ∀ (pins : List (Addr × Obj)) (s : Shared) (σ : St) (H : Hp) (D : Ends), Inv X pins σ H s → t D σ H → wpAny (model X.prog X.w) X.A (execs st X.env) (SP X pins D) X.xe s
/-- weaken the end -/
theorem thn {α : Type} {t : Sem α} {Q Q' : α → Shared → Prop} {M : Model} {A : Around} {E : Value → Shared → Prop} {s : Shared} (h : wpAny M A t Q E s) (hQ : ∀ a s, Q a s → Q' a s) : wpAny M A t Q' E s := wpAny_mono h hQ fun _ _ x => x
end L2

namespace L2
open PySem PySem.Spec PyProof.Rows
section
variable {X : Cx}

def tVar (i : Nat) : TE := fun σ H Q => ∃ v, σ[i]? = some (some v) ∧ Q v H
def tC (v : V) : TE := fun _ H Q => Q v H
theorem pe_var {i : Nat} {x : Str} {pos : Pos} (hN : X.N[i]? = some x) (hv : Vis X.env.scope x) (hd : (x == ("__debug__" : Str)) = false := by decide) (hcd : (x == ("__classdict__" : Str)) = false := by decide) : PE X (.Name x pos) (tVar i) := by
  intro pins s σ H Q I h
  obtain ⟨v, e, h⟩ := h
  obtain ⟨m, hn, hl⟩ := I.loc
  obtain ⟨u, r, l⟩ := hl i x v hN e hv
  have fin : EP X pins σ Q u s := ⟨v, H, I, r, h⟩
  rcases l with ⟨hk, hm⟩ | ⟨hk, c, hc, hcell⟩
  · exact wpAny_Name (wpAny_loadName_local I.ok.kind hk hn hm fin) hd
  · rcases hk with hk | hk
    · exact wpAny_Name (wpAny_loadName_cell I.ok.kind hk hc hcell fin) hd
    · exact wpAny_Name (wpAny_loadName_free I.ok.kind hk hc hcell fin hcd) hd
theorem pe_int {i j pos} : PE X (.Constant (.int i) j pos) (tC (.int i)) := fun _ _ _ H _ I h => wpAny_Constant_int ⟨.int i, H, I.tok _, ⟨_, rfl⟩, h⟩
theorem pe_bl {b j pos} : PE X (.Constant (.bool b) j pos) (tC (.bl b)) := fun _ _ _ H _ I h => Constant_bool ⟨.bl b, H, I, rfl, h⟩
theorem pe_non {j pos} : PE X (.Constant .none j pos) (tC .non) := fun _ _ _ H _ I h => Constant_none ⟨.non, H, I, rfl, h⟩
theorem pe_str {x j pos} : PE X (.Constant (.str x) j pos) (tC (.str x)) := fun _ _ _ H _ I h => Calls.Constant_str ⟨.str x, H, I.tok _, ⟨_, rfl⟩, h⟩

/-- a global name of the def -/
def Gl (X : Cx) (x : Str) : Prop := X.env.kindOf x = some .globalImplicit
theorem ld_glob {E : Value → Shared → Prop} {pins : List (Addr × Obj)} {s : Shared} {σ : St} {H : Hp} {x : Str} {u : Value} {pos : Pos} {Q : Value → Shared → Prop} (I : Inv X pins σ H s) (hg : Gl X x) (hm : X.mg x = some u) (h : Q u s)
    (hd : (x == ("__debug__" : Str)) = false := by decide) : wpAny (model X.prog X.w) X.A (eval (.Name x pos) X.env) Q E s :=
  Calls.Name_function_global I.ok.kind hg (Calls.loadGlobal_global (by rw [I.ok.glob]; exact I.mod.glob.keeps I.bk) hm h) hd
theorem ld_blt {E : Value → Shared → Prop} {pins : List (Addr × Obj)} {s : Shared} {σ : St} {H : Hp} {x : Str} {u : Value} {pos : Pos} {Q : Value → Shared → Prop} (I : Inv X pins σ H s) (hg : Gl X x) (hm : X.mg x = none) (hv : bootBuiltins x = some u) (h : Q u s)
    (hn : x ≠ "__name__" := by decide) (hd : (x == ("__debug__" : Str)) = false := by decide) : wpAny (model X.prog X.w) X.A (eval (.Name x pos) X.env) Q E s := by
  obtain ⟨mb, h1, h2⟩ := I.mod.blt
  exact Calls.Name_function_global I.ok.kind hg (Calls.loadGlobal_builtin (by rw [I.ok.glob]; exact I.mod.glob.keeps I.bk) hm (by rw [I.ok.blt]; exact h1.keeps I.bk) ((h2 x hn).trans hv) h) hd
/-- a module's constant, a class, a function, as a value -/
theorem pe_glob {x : Str} {v : V} {u : Value} {pos : Pos} (hg : Gl X x) (hm : X.mg x = some u) (r : RelV v u) (hd : (x == ("__debug__" : Str)) = false := by decide) : PE X (.Name x pos) (tC v) :=
  fun _ _ _ H _ I h => ld_glob I hg hm ⟨v, H, I, r, h⟩ hd
theorem pe_bltn {x : Str} {v : V} {u : Value} {pos : Pos} (hg : Gl X x) (hm : X.mg x = none) (hv : bootBuiltins x = some u) (r : RelV v u) (hn : x ≠ "__name__" := by decide) (hd : (x == ("__debug__" : Str)) = false := by decide) : PE X (.Name x pos) (tC v) :=
  fun _ _ _ H _ I h => ld_blt I hg hm hv ⟨v, H, I, r, h⟩ hn hd

variable {a b : Expr} {ta tb : TE} {pos : Pos}
/-- a comparison as a value, as a test -/
def tB (t : TE) : TT := fun σ H Q => t σ H fun x H1 => ∃ c, x = .bl c ∧ Q c H1
/-- an expression whose value is a bool, as a test -/
theorem pt_val {e : Expr} {t : TE} (h : PE X e t) (he : ∀ whole, isTrue e X.env whole = (do let v ← whole; standAt e.pos; holding [v] (truthy v)) := by intro _; rfl) : PT X e (tB t) := by
  intro pins s σ H Q I hw
  refine isTrue_plain (thn (h pins s σ H _ I hw) fun v s1 ⟨x, H1, I1, r1, q1⟩ => ?_) (he _)
  obtain ⟨d, rfl, q⟩ := q1
  cases r1
  exact wpAny_truthy_bool ⟨H1, I1, q⟩

variable {tA tB' : TT} {rest : List Expr}
def tAnd (t u : TT) : TT := fun σ H Q => t σ H fun c H1 => if c = true then u σ H1 Q else Q false H1
def tOr (t u : TT) : TT := fun σ H Q => t σ H fun c H1 => if c = true then Q true H1 else u σ H1 Q
def tNot (t : TT) : TT := fun σ H Q => t σ H fun c H1 => Q (!c) H1
theorem pw_and1 (ha : PT X a tA) : PW X (.BoolOp .And [a] pos) tA := by
  intro wh pins s σ H Q I h
  refine isTrue_and (thn (ha pins s σ H Q I h) fun c s1 e => ?_)
  cases c with
  | true => exact isTrue_and_nil e
  | false => exact e
theorem pw_or1 (ha : PT X a tA) : PW X (.BoolOp .Or [a] pos) tA := by
  intro wh pins s σ H Q I h
  refine isTrue_or (thn (ha pins s σ H Q I h) fun c s1 e => ?_)
  cases c with
  | false => exact isTrue_or_nil e
  | true => exact e
theorem pw_and (ha : PT X a tA) (hb : PW X (.BoolOp .And (b :: rest) pos) tB') : PW X (.BoolOp .And (a :: b :: rest) pos) (tAnd tA tB') := by
  intro wh pins s σ H Q I h
  refine isTrue_and (thn (ha pins s σ H _ I h) fun c s1 ⟨H1, I1, q1⟩ => ?_)
  cases c with
  | true => exact hb wh pins s1 σ H1 Q I1 q1
  | false => exact ⟨H1, I1, q1⟩
theorem pw_or (ha : PT X a tA) (hb : PW X (.BoolOp .Or (b :: rest) pos) tB') : PW X (.BoolOp .Or (a :: b :: rest) pos) (tOr tA tB') := by
  intro wh pins s σ H Q I h
  refine isTrue_or (thn (ha pins s σ H _ I h) fun c s1 ⟨H1, I1, q1⟩ => ?_)
  cases c with
  | true => exact ⟨H1, I1, q1⟩
  | false => exact hb wh pins s1 σ H1 Q I1 q1
theorem pt_not (ha : PT X a tA) : PT X (.UnaryOp .Not a pos) (tNot tA) := by
  intro pins s σ H Q I h
  exact isTrue_not (ha pins s σ H (fun c H1 => Q (!c) H1) I h)
/-- .. as values (bools) -/
def tAndV (ta tb : TE) : TE := fun σ H Q => ta σ H fun x H1 => ∃ c, x = .bl c ∧ if c = true then tb σ H1 Q else Q (.bl false) H1
def tOrV (ta tb : TE) : TE := fun σ H Q => ta σ H fun x H1 => ∃ c, x = .bl c ∧ if c = true then Q (.bl true) H1 else tb σ H1 Q
def tNotV (ta : TE) : TE := fun σ H Q => ta σ H fun x H1 => ∃ c, x = .bl c ∧ Q (.bl (!c)) H1
theorem pe_one {op} {t : TE} (h : PE X a t) : PE X (.BoolOp op [a] pos) t := fun pins s σ H Q I hw => BoolOp_one (h pins s σ H Q I hw)
theorem pe_and (ha : PE X a ta) (hb : PE X (.BoolOp .And (b :: rest) pos) tb) : PE X (.BoolOp .And (a :: b :: rest) pos) (tAndV ta tb) := by
  intro pins s σ H Q I h
  refine BoolOp_and (thn (ha pins s σ H _ I h) fun v s1 ⟨x, H1, I1, r1, q1⟩ => ?_)
  obtain ⟨c, rfl, q1⟩ := q1
  cases r1
  refine wpAny_truthy_bool ?_
  cases c with
  | true => exact hb pins s1 σ H1 Q I1 q1
  | false => exact ⟨.bl false, H1, I1, rfl, q1⟩
theorem pe_not (ha : PE X a ta) : PE X (.UnaryOp .Not a pos) (tNotV ta) := by
  intro pins s σ H Q I h
  refine UnaryOp_ (thn (ha pins s σ H _ I h) fun v s1 ⟨x, H1, I1, r1, q1⟩ => ?_)
  obtain ⟨c, rfl, q1⟩ := q1
  cases r1
  exact not_of (wpAny_truthy_bool ⟨.bl (!c), H1, I1, rfl, q1⟩)
/-- a if t else b -/
def tIf (t : TT) (ta tb : TE) : TE := fun σ H Q => t σ H fun c H1 => if c = true then ta σ H1 Q else tb σ H1 Q
theorem pe_ifExp {c : Expr} (hc : PT X c tA) (ha : PE X a ta) (hb : PE X b tb) : PE X (.IfExp c a b pos) (tIf tA ta tb) := by
  intro pins s σ H Q I h
  refine wpAny_IfExp (thn (hc pins s σ H _ I h) fun d s1 ⟨H1, I1, q1⟩ => ?_)
  cases d with
  | true => exact ha pins s1 σ H1 Q I1 q1
  | false => exact hb pins s1 σ H1 Q I1 q1
end
end L2

namespace L2
open PySem PySem.Spec PyProof.Rows

def SqL (K : PySem.W.Frag) (H : Hp) (a : Addr) (xs : List V) : Prop :=
  Rd H a (.lst xs) ∨
    ∃ (o : Obj) (its : Array Value) (n : Nat), K.lookup a = some o ∧ o.cls = .type "list" ∧ o.dict = none ∧ o.data = .seq its n ∧ its.size ≤ sizeLine ∧ Vals xs its.toList
def SqT (K : PySem.W.Frag) (H : Hp) (a : Addr) (xs : List V) : Prop :=
  Rd H a (.tup xs) ∨
    ∃ (o : Obj) (its : Array Value) (n : Nat), K.lookup a = some o ∧ o.cls = .type "tuple" ∧ o.data = .seq its n ∧ its.size ≤ sizeLine ∧ Vals xs its.toList
def absV : Value → Option V
  | .none => some .non
  | .bool b => some (.bl b)
  | .int i _ => some (.int i)
  | .str x _ => some (.str x)
  | .bytes b _ => some (.byt b)
  | .float b _ => some (.flt b)
  | .ref a => some (.ref a)
  | .type n => some (.ty n)
  | _ => none
theorem RelV.abs {x : V} {u : Value} (r : RelV x u) : absV u = some x := by
  cases x with
  | non => cases r; rfl
  | bl _ => cases r; rfl
  | int _ => obtain ⟨t, rfl⟩ := r; rfl
  | str _ => obtain ⟨t, rfl⟩ := r; rfl
  | byt _ => obtain ⟨t, rfl⟩ := r; rfl
  | flt _ => obtain ⟨t, rfl⟩ := r; rfl
  | ref _ => cases r; rfl
  | ty _ => cases r; rfl
theorem RelV.inj {x y : V} {u : Value} (r : RelV x u) (q : RelV y u) : x = y := Option.some.inj (r.abs.symm.trans q.abs)
theorem Vals.inj : ∀ {xs ys : List V} {us : List Value}, Vals xs us → Vals ys us → xs = ys
  | _, _, _, .nil, .nil => rfl
  | _, _, _, .cons r t, .cons r' t' => by rw [r.inj r', Vals.inj t t']
section
variable {X : Cx} {pins : List (Addr × Obj)} {σ : St} {H : Hp} {s : Shared} {a : Addr} {xs ys : List V}
theorem SqL.of {K : PySem.W.Frag} (h : H a = some (.lst xs)) : SqL K H a xs := .inl (.inl h)
theorem SqT.of {K : PySem.W.Frag} (h : H a = some (.tup xs)) : SqT K H a xs := .inl (.inl h)
theorem Inv.list (I : Inv X pins σ H s) (h : SqL X.K H a xs) : ∃ its : List Value, Vals xs its ∧ PlainL s.heap a its.toArray ∧ xs.length ≤ sizeLine := by
  rcases h with h | ⟨o, its, n, hk, hc, hd, hs, hz, r⟩
  · obtain ⟨z, its, n, r, e⟩ := h.ok I.hok
    exact ⟨its, r, ⟨_, n, e, rfl, rfl, rfl⟩, z⟩
  · refine ⟨its.toList, r, ⟨o, n, I.kIn a o hk, hc, hd, by simpa using hs⟩, ?_⟩
    have e := r.length
    simp only [Array.length_toList] at e
    omega
theorem Inv.tuple (I : Inv X pins σ H s) (h : SqT X.K H a xs) : ∃ its : List Value, Vals xs its ∧ IsTup s.heap a its.toArray ∧ xs.length ≤ sizeLine := by
  rcases h with h | ⟨o, its, n, hk, hc, hs, hz, r⟩
  · obtain ⟨z, its, r, p⟩ := h.ok I.hok
    exact ⟨its, r, p, z⟩
  · refine ⟨its.toList, r, ⟨o, I.kIn a o hk, hc, n, by simpa using hs⟩, ?_⟩
    have e := r.length
    simp only [Array.length_toList] at e
    omega
theorem Inv.list_inj (I : Inv X pins σ H s) (h : SqL X.K H a xs) (h' : SqL X.K H a ys) : xs = ys := by
  obtain ⟨its, r, ⟨o, n, e, _, _, d⟩, _⟩ := I.list h
  obtain ⟨its', r', ⟨o', n', e', _, _, d'⟩, _⟩ := I.list h'
  rw [e] at e'; cases e'
  rw [d] at d'
  injection d' with d1 _
  have : its = its' := by simpa using congrArg Array.toList d1
  subst this
  exact r.inj r'
theorem Inv.tuple_inj (I : Inv X pins σ H s) (h : SqT X.K H a xs) (h' : SqT X.K H a ys) : xs = ys := by
  obtain ⟨its, r, ⟨o, e, _, n, d⟩, _⟩ := I.tuple h
  obtain ⟨its', r', ⟨o', e', _, n', d'⟩, _⟩ := I.tuple h'
  rw [e] at e'; cases e'
  rw [d] at d'
  injection d' with d1 _
  have : its = its' := by simpa using congrArg Array.toList d1
  subst this
  exact r.inj r'
end

abbrev Cx.wish (X : Cx) (E : Value → Shared → Prop) : Cx := { X with xe := E }
/-- no exception leaves -/
abbrev Cx.nox (X : Cx) : Cx := X.wish fun _ _ => False
theorem Cx.Ok.wish {X : Cx} (ok : X.Ok) (E : Value → Shared → Prop) : (X.wish E).Ok :=
  ⟨ok.mod, ok.kind, ok.glob, ok.blt, ok.above, ok.inj, ok.has, ok.cab, ok.hd, ok.frames, ok.stk, ok.exf, ok.bs, ok.bsz, ok.noex, ok.exfs, ok.funs, ok.frf⟩
theorem Cx.Ok.unwish {X : Cx} {E : Value → Shared → Prop} (ok : (X.wish E).Ok) : X.Ok :=
  ⟨ok.mod, ok.kind, ok.glob, ok.blt, ok.above, ok.inj, ok.has, ok.cab, ok.hd, ok.frames, ok.stk, ok.exf, ok.bs, ok.bsz, ok.noex, ok.exfs, ok.funs, ok.frf⟩
section
variable {X : Cx} {pins : List (Addr × Obj)} {σ : St} {H : Hp} {s : Shared} {E : Value → Shared → Prop}
theorem Inv.wish (I : Inv X pins σ H s) (E : Value → Shared → Prop) : Inv (X.wish E) pins σ H s := ⟨I.ok.wish E, I.os, I.bare, I.base, I.loc, I.cell, I.free, I.freeC, I.pin, I.hok, I.len⟩
theorem Inv.unwish (I : Inv (X.wish E) pins σ H s) : Inv X pins σ H s := ⟨I.ok.unwish, I.os, I.bare, I.base, I.loc, I.cell, I.free, I.freeC, I.pin, I.hok, I.len⟩
theorem SP.unwish {D : Ends} {f : Flow} {s' : Shared} (h : SP (X.wish E) pins D f s') : SP X pins D f s' := by
  cases f with
  | next => obtain ⟨σ', H', I, q⟩ := h; exact ⟨σ', H', I.unwish, q⟩
  | brk => obtain ⟨σ', H', I, q⟩ := h; exact ⟨σ', H', I.unwish, q⟩
  | cont => obtain ⟨σ', H', I, q⟩ := h; exact ⟨σ', H', I.unwish, q⟩
  | ret u => obtain ⟨v, σ', H', I, r, q⟩ := h; exact ⟨v, σ', H', I.unwish, r, q⟩
theorem PE.nox {e : Expr} {t : TE} (h : PE X.nox e t) : PE X e t := fun pins s σ H Q I hw =>
  wpAny_mono (h pins s σ H Q (I.wish _) hw) (fun _ _ ⟨v, H', I', r, q⟩ => ⟨v, H', I'.unwish, r, q⟩) fun _ _ z => False.elim z
theorem PT.nox {e : Expr} {t : TT} (h : PT X.nox e t) : PT X e t := fun pins s σ H Q I hw =>
  wpAny_mono (h pins s σ H Q (I.wish _) hw) (fun _ _ ⟨H', I', q⟩ => ⟨H', I'.unwish, q⟩) fun _ _ z => False.elim z
theorem PSs.nox {st : List Stmt} {t : TS} (h : PSs X.nox st t) : PSs X st t := fun pins s σ H D I hw =>
  wpAny_mono (h pins s σ H D (I.wish _) hw) (fun _ _ q => q.unwish) fun _ _ z => False.elim z
end

section
variable {X : Cx} {st : Stmt} {rest : List Stmt} {t u : TS} {e : Expr} {te : TE} {pos : Pos}
def tNext : TS := fun D σ H => D.nx σ H
def tSeq (t u : TS) : TS := fun D σ H => t { D with nx := u D } σ H
theorem pss_nil : PSs X [] tNext := fun _ _ σ H _ I h => wpAny_execs_nil ⟨σ, H, I, h⟩
theorem pss_cons (h1 : PS X st t) (h2 : PSs X rest u) : PSs X (st :: rest) (tSeq t u) := by
  intro pins s σ H D I h
  refine wpAny_execs_cons (thn (h1 pins s σ H { D with nx := u D } I h) fun f s1 q => ?_)
  cases f with
  | next =>
    obtain ⟨σ', H', I', q⟩ := q
    exact h2 pins s1 σ' H' D I' q
  | ret v => exact q
  | brk => exact q
  | cont => exact q
theorem pss_one (h1 : PS X st t) : PSs X [st] t := by
  intro pins s σ H D I h
  refine wpAny_execs_cons (thn (h1 pins s σ H D I h) fun f s1 q => ?_)
  cases f with
  | next => exact wpAny_execs_nil q
  | ret v => exact q
  | brk => exact q
  | cont => exact q
def tBreak : TS := fun D σ H => D.bk σ H
theorem ps_break : PS X (.Break pos) tBreak := fun _ _ σ H _ I h => wpAny_Break ⟨σ, H, I, h⟩
/-- in a def's body nothing is shown -/
theorem Inv.quiet {pins : List (Addr × Obj)} {σ : St} {H : Hp} {s : Shared} (I : Inv X pins σ H s) : interactive X.env = false := by simp [interactive, I.ok.kind]
/-- an expression whose value is dropped -/
def tDrop (te : TE) : TS := fun D σ H => te σ H fun _ H1 => D.nx σ H1
theorem ps_expr (he : PE X e te) (hs : swapsWith e none pos.line X.env = pure false := by rfl) : PS X (.Expr e pos) (tDrop te) := by
  intro pins s σ H D I h
  exact wpAny_Expr_any (thn (he pins s σ H _ I h) fun v s1 ⟨x, H1, I1, r1, q1⟩ => ⟨σ, H1, I1, q1⟩) I.quiet hs
def tRet (te : TE) : TS := fun D σ H => te σ H D.rt
theorem ps_ret (he : PE X e te) : PS X (.Return (some e) pos) (tRet te) := by
  intro pins s σ H D I h
  exact wpAny_Return_some (thn (he pins s σ H _ I h) fun v s1 ⟨x, H1, I1, r1, q1⟩ => ⟨x, σ, H1, I1, r1, q1⟩)
def tIfS (c : TT) (t u : TS) : TS := fun D σ H => c σ H fun b H1 => if b = true then t D σ H1 else u D σ H1
theorem ps_if {c : Expr} {a b : List Stmt} {tc : TT} (hc : PT X c tc) (ha : PSs X a t) (hb : PSs X b u) : PS X (.If c a b pos) (tIfS tc t u) := by
  intro pins s σ H D I h
  refine wpAny_If (thn (hc pins s σ H _ I h) fun d s1 ⟨H1, I1, q1⟩ => ?_)
  cases d with
  | true => exact ha pins s1 σ H1 D I1 q1
  | false => exact hb pins s1 σ H1 D I1 q1
/-- code that the proof never comes to -/
def tNever : TS := fun _ _ _ => False
theorem ps_never : PS X st tNever := fun _ _ _ _ _ _ h => h.elim
end

abbrev TG := V → St → Hp → (St → Hp → Prop) → Prop
abbrev TGs := List V → St → Hp → (St → Hp → Prop) → Prop
def PG (X : Cx) (target : Expr) (t : TG) : Prop :=
  ∀ (pins : List (Addr × Obj)) (s : Shared) (σ : St) (H : Hp) (v : V) (u : Value) (Q : St → Hp → Prop), Inv X pins σ H s → RelV v u → t v σ H Q →
    wpAny (model X.prog X.w) X.A (assign target X.env u) (fun _ s' => ∃ σ' H', Inv X pins σ' H' s' ∧ Q σ' H') X.xe s
/-- several targets, one after another -/
def PGs (X : Cx) (ts : List Expr) (t : TGs) : Prop :=
  ∀ (pins : List (Addr × Obj)) (s : Shared) (σ : St) (H : Hp) (vs : List V) (us : List Value) (Q : St → Hp → Prop), Inv X pins σ H s → Vals vs us → t vs σ H Q →
    wpAny (model X.prog X.w) X.A (assignInOrder ((assignEach ts X.env).map (·.2)) us) (fun _ s' => ∃ σ' H', Inv X pins σ' H' s' ∧ Q σ' H') X.xe s
/-- o[i] = v, by values -/
abbrev TSet := V → V → V → Hp → (Hp → Prop) → Prop
def PSet (X : Cx) (t : TSet) : Prop :=
  ∀ (pins : List (Addr × Obj)) (s : Shared) (σ : St) (H : Hp) (o i v : V) (ov iv u : Value) (Q : Hp → Prop), Inv X pins σ H s → RelV o ov → RelV i iv → RelV v u → t o i v H Q →
    wpAny (model X.prog X.w) X.A (setItem ov iv u) (fun _ s' => ∃ H', Inv X pins σ H' s' ∧ Q H') X.xe s
section
variable {X : Cx} {pos : Pos}
def gName (i : Nat) : TG := fun v σ H Q => Q (σ.set i (some v)) H
theorem pg_name {i : Nat} {x : Str} (hN : X.N.Nodup) (hi : X.N[i]? = some x) (hx : Loc X.env.scope x) (hf : X.fn x = true ∨ X.env.scope.names.lookup x = some .local := by first | exact .inl rfl | exact .inr rfl | assumption) : PG X (.Name x pos) (gName i) := by
  intro pins s σ H v u Q I r h
  exact wpAny_assign_Name (store_ok I hN hi hx r (fun s' I' => ⟨_, H, I', h⟩) hf)
def gNil : TGs := fun vs σ H Q => vs = [] ∧ Q σ H
def gCons (t : TG) (u : TGs) : TGs := fun vs σ H Q => ∃ v r, vs = v :: r ∧ t v σ H fun σ' H' => u r σ' H' Q
theorem pgs_nil : PGs X [] gNil := by
  intro pins s σ H vs us Q I r h
  obtain ⟨e, h⟩ := h
  subst e
  cases r
  exact assignInOrder_nil ⟨σ, H, I, h⟩
theorem pgs_cons {e : Expr} {es : List Expr} {t : TG} {u : TGs} (h1 : PG X e t) (h2 : PGs X es u)
    (hs : (assignEach (e :: es) X.env).map (·.2) = assign e X.env :: (assignEach es X.env).map (·.2) := by rfl) : PGs X (e :: es) (gCons t u) := by
  intro pins s σ H vs us Q I r h
  obtain ⟨v, vr, e1, h⟩ := h
  subst e1
  cases r with
  | cons r rr =>
    rw [hs]
    refine assignInOrder_cons (thn (h1 pins s σ H _ _ _ I r h) fun _ s1 ⟨σ1, H1, I1, q1⟩ => ?_)
    exact h2 pins s1 σ1 H1 _ _ Q I1 rr q1
/-- (a, b, ..) = a tuple of that length -/
def gTup (K : PySem.W.Frag) (n : Nat) (t : TGs) : TG := fun v σ H Q => ∃ a xs, v = .ref a ∧ SqT K H a xs ∧ xs.length = n ∧ t xs σ H Q
theorem pg_tup {es : List Expr} {k : Nat} {t : TGs} {n : Nat} (hc : X.calm = true) (h : PGs X es t)
    (hn : (assignEach es X.env).length = n := by rfl) (hst : (assignEach es X.env).findIdx? (·.1) = none := by rfl) : PG X (.Tuple es k pos) (gTup X.K n t) := by
  intro pins s σ H v u Q I r hw
  obtain ⟨a, xs, e1, hq, hl, hw⟩ := hw
  subst e1
  cases r
  obtain ⟨its, rv, ht, hz⟩ := I.tuple hq
  refine assign_Tuple_tuple (I.ok.hd hc) ht (by simp [hn, ← hl, rv.length]) hst fun h' hx => ?_
  have I1 : Inv X pins σ H { s with heap := h' } := I.kept (t' := s.toks) fun b o e => hx b o (Nat.ne_of_lt (Heap.lt_size e)) e
  exact h pins _ σ H xs _ Q I1 (by simpa using rv) hw
/-- o[i] = .. -/
def gSub (to ti : TE) (t : TSet) : TG := fun v σ H Q => to σ H fun o H1 => ti σ H1 fun i H2 => t o i v H2 fun H3 => Q σ H3
theorem pg_sub {o i : Expr} {to ti : TE} {t : TSet} (ho : PE X o to) (hi : PE X i ti) (hs : PSet X t)
    (ha : ∀ v, assign (.Subscript o i pos) X.env v = (do
      let ov ← holding [v] (eval o X.env)
      let iv ← holding [v, ov] (eval i X.env)
      standAt pos
      holding [v, ov, iv] (setItem ov iv v)
      release [v, ov, iv] []) := by intro _; rfl) : PG X (.Subscript o i pos) (gSub to ti t) := by
  intro pins s σ H v u Q I r h
  rw [ha]
  refine wpAny_bind (wpAny_holding (thn (ho pins s σ H _ I h) fun ov s1 ⟨x, H1, I1, r1, q1⟩ => ?_))
  refine wpAny_bind (wpAny_holding (thn (hi pins s1 σ H1 _ I1 q1) fun iv s2 ⟨y, H2, I2, r2, q2⟩ => ?_))
  refine wpAny_bind (wpAny_standAt (wpAny_bind (wpAny_holding (thn (hs pins s2 σ H2 x y v ov iv u _ I2 r1 r2 r q2) fun _ s3 ⟨H3, I3, q3⟩ => ?_))))
  exact wpAny_release ⟨σ, H3, I3, q3⟩
/-- target = value -/
def tAsg (te : TE) (g : TG) : TS := fun D σ H => te σ H fun x H1 => g x σ H1 D.nx
theorem ps_asg {tg e : Expr} {te : TE} {g : TG} (he : PE X e te) (hg : PG X tg g) (hs : swapsWithSole [tg] e pos.line X.env = pure false := by rfl) (hw : swappedStores [tg] e X.env = pure none := by rfl)
    (h1 : (assignEach [tg] X.env).map (·.2) = [assign tg X.env] := by rfl) : PS X (.Assign [tg] e pos) (tAsg te g) := by
  intro pins s σ H D I h
  refine wpAny_Assign_stores (thn (he pins s σ H _ I h) fun v s1 ⟨x, H1, I1, r1, q1⟩ => ?_) hs hw
  rw [h1]
  exact thn (hg pins s1 σ H1 x v _ I1 r1 q1) fun _ s2 q => q
/-- name = value -/
theorem ps_set {i : Nat} {x : Str} {e : Expr} {te : TE} {pos' : Pos} (hN : X.N.Nodup) (hi : X.N[i]? = some x) (hx : Loc X.env.scope x) (he : PE X e te) (hs : swapsWith e (some (.Name x pos')) pos.line X.env = pure false := by rfl) (hf : X.fn x = true ∨ X.env.scope.names.lookup x = some .local := by first | exact .inl rfl | exact .inr rfl | assumption) :
    PS X (.Assign [.Name x pos'] e pos) (tAsg te (gName i)) := by
  intro pins s σ H D I h
  refine wpAny_Assign_Name (thn (he pins s σ H _ I h) fun v s1 ⟨y, H1, I1, r1, q1⟩ => ?_) hs
  exact store_ok I1 hN hi hx r1 (fun s2 I2 => ⟨_, H1, I2, q1⟩) hf
/-- a, b = x, y with plain local names: stored from the right; the pair itself is not tracked (the opening rows as in PyProof/Rows/TupAssign.lean:23) -/
def tPar (i j : Nat) (ta : TA) : TS := fun D σ H => ta σ H fun vs H1 => ∃ v w, vs = [v, w] ∧ D.nx ((σ.set i (some v)).set j (some w)) H1
end

section
variable {X : Cx} {pos : Pos}
/-- the invariant W with its measure -/
def tWhile (c : TT) (tb : TS) : TS := fun D σ H => ∃ W : Nat → St → Hp → Prop, (∃ m, W m σ H) ∧ ∀ m σ H, W m σ H →
  c σ H fun b H1 => if b = true then ∃ N : St → Hp → Prop, (∀ σ' H', N σ' H' → ∃ m', m' < m ∧ W m' σ' H') ∧ tb { D with nx := N, ct := N, bk := D.nx } σ H1 else D.nx σ H1
theorem ps_while {c : Expr} {body : List Stmt} {tc : TT} {tb : TS} (hp : PassesOwn (model X.prog X.w) X.A X.env X.xe) (hc : PT X c tc) (hb : PSs X body tb) : PS X (.While c body [] pos) (tWhile tc tb) := by
  intro pins s σ H D I h
  obtain ⟨W, ⟨m0, w0⟩, turn⟩ := h
  refine wpAny_While (codeAny_whileLoop (fun n s' => ∃ σ' H', Inv X pins σ' H' s' ∧ W n σ' H') ?_ m0 ⟨σ, H, I, w0⟩)
  rintro n s1 ⟨σ1, H1, I1, w1⟩
  refine wpAny_passesOwn hp (thn (hc pins s1 σ1 H1 _ I1 (turn n σ1 H1 w1)) fun b s2 ⟨H2, I2, q2⟩ => ?_)
  cases b with
  | true =>
    obtain ⟨N, hN, q2⟩ := q2
    rw [if_pos rfl]
    refine wpAny_passesOwn hp (thn (hb pins s2 σ1 H2 _ I2 q2) fun f s3 q3 => ?_)
    cases f with
    | next =>
      obtain ⟨σ3, H3, I3, n3⟩ := q3
      obtain ⟨m', hm, w3⟩ := hN σ3 H3 n3
      exact ⟨m', hm, σ3, H3, I3, w3⟩
    | cont =>
      obtain ⟨σ3, H3, I3, n3⟩ := q3
      obtain ⟨m', hm, w3⟩ := hN σ3 H3 n3
      exact ⟨m', hm, σ3, H3, I3, w3⟩
    | brk => exact q3
    | ret v => exact q3
  | false =>
    rw [if_neg Bool.false_ne_true]
    exact wpAny_execs_nil ⟨σ1, H2, I2, q2⟩
end

/-- at turn i: it yields x (the heap may grow), or it stops -/
structure It where
  go : Nat → Hp → Prop
  yld : Nat → Hp → V → Hp → Prop
  stop : Nat → Hp → Prop
/-- the iterator's own objects may turn: they are not the frame's, not pinned, younger than the entry (or a comprehension's own) -/
def FpOk (X : Cx) (pins : List (Addr × Obj)) (H : Hp) (b : Addr) : Prop :=
  H b = none ∧ b ≠ X.env.locals ∧ b ∉ X.fs ∧ (b ∈ X.ex ∨ X.s₀.heap.objs.size ≤ b) ∧ (∀ x c, X.env.cells.lookup x = some c → c ≠ b) ∧ ∀ p ∈ X.pn ++ pins, p.1 ≠ b
theorem Inv.fpOk {X : Cx} {pins : List (Addr × Obj)} {σ : St} {H H' : Hp} {s : Shared} {b : Addr} (I : Inv X pins σ H s) (hb : s.heap.objs.size ≤ b) (hn : H' b = none) : FpOk X pins H' b := by
  refine ⟨hn, Nat.ne_of_gt (Nat.lt_of_lt_of_le I.lt hb), I.nofs hb, .inr (Nat.le_trans I.sz hb), fun x c e z => ?_, fun p hp z => ?_⟩
  · obtain ⟨v, q⟩ := I.cell x c e
    exact absurd (Nat.lt_of_lt_of_le q.lt (by rw [z]; exact hb)) (Nat.lt_irrefl _)
  · exact absurd (Nat.lt_of_lt_of_le (Heap.lt_size (I.pin p hp).1) (by rw [z]; exact hb)) (Nat.lt_irrefl _)
structure Turn (P : Program) (w : World) (K : PySem.W.Frag) (tg : Expr) (J : It) (fp : List Addr) (it : Addr) (tn : Nat → Heap → Prop) : Prop where
  mem : it ∈ fp
  obj : ∀ i h, tn i h → ∀ b ∈ fp, ∃ o, h.get? b = some o ∧ ∀ v, o.data ≠ .cell v
  keep : ∀ i h h', tn i h → (∀ b ∈ fp, ∀ o, h.get? b = some o → h'.get? b = some o) → tn i h'
  item : ∀ (X : Cx), X.prog = P → X.w = w → X.K = K → X.calm = true → ∀ (i : Nat) (pins : List (Addr × Obj)) (s : Shared) (σ : St) (H : Hp) (E : Value → Shared → Prop), Inv X pins σ H s → (∀ b ∈ fp, FpOk X pins H b) → tn i s.heap → J.go i H →
    wpAny (model P w) X.A (pyNext (.ref it)) (fun r s1 => ∃ u, r = some u ∧
      wpAny (model P w) X.A (letOwnedTupleGo tg (.ref it) u) (fun _ s2 => ∃ x H', Inv X pins σ H' s2 ∧ RelV x u ∧ J.yld i H x H' ∧ tn (i + 1) s2.heap ∧ ∀ b ∈ fp, H' b = none) E s1) E s
  done : ∀ (X : Cx), X.prog = P → X.w = w → X.K = K → X.calm = true → ∀ (i : Nat) (pins : List (Addr × Obj)) (s : Shared) (σ : St) (H : Hp) (E : Value → Shared → Prop), Inv X pins σ H s → (∀ b ∈ fp, FpOk X pins H b) → tn i s.heap → J.stop i H →
    wpAny (model P w) X.A (pyNext (.ref it)) (fun r s1 => r = none ∧ Inv X pins σ H s1) E s
  self : ∀ (A : Around) (i : Nat) (s : Shared) (Q : Value → Shared → Prop) (E : Value → Shared → Prop), tn i s.heap → Q (.ref it) s → wpAny (model P w) A (pyIter (.ref it)) Q E s
abbrev TI := St → Hp → (It → Hp → Prop) → Prop
/-- an iterator has come -/
def PIE (X : Cx) (pins : List (Addr × Obj)) (σ : St) (tg : Expr) (R : It → Hp → Prop) (itv : Value) (s2 : Shared) : Prop :=
  ∃ (it : Addr) (fp : List Addr) (tn : Nat → Heap → Prop) (J : It) (H' : Hp), itv = .ref it ∧ Inv X pins σ H' s2 ∧ Turn X.prog X.w X.K tg J fp it tn ∧ tn 0 s2.heap ∧ (∀ b ∈ fp, FpOk X pins H' b) ∧ R J H'
def PI (X : Cx) (tg iter : Expr) (wi : TI) : Prop :=
  ∀ (pins : List (Addr × Obj)) (s : Shared) (σ : St) (H : Hp) (R : It → Hp → Prop), Inv X pins σ H s → wi σ H R →
    wpAny (model X.prog X.w) X.A (eval iter X.env) (fun v s1 => wpAny (model X.prog X.w) X.A (pyIter v) (PIE X pins σ tg R) X.xe s1) X.xe s

/-- the step ahead of the store is nothing for an iterator that keeps no tuple -/
theorem go_of {M : Model} {A : Around} {E : Value → Shared → Prop} {s : Shared} {tg : Expr} {it : Addr} {u : Value} {o : Obj} {n : String} {vs : Array Value} {Q : Unit → Shared → Prop} (ho : s.heap.get? it = some o) (hc : o.cls = .type n) (hd : o.data = .fields vs)
    (hn : ["enumerate", "zip", "dict_itemiterator", "dict_reverseitemiterator", "odict_iterator", "itertools.zip_longest", "itertools.pairwise"].contains n = false) (hQ : Q () s) : wpAny M A (letOwnedTupleGo tg (.ref it) u) Q E s := by
  unfold letOwnedTupleGo
  cases tg <;> first
    | exact wpAny_pure hQ
    | (cases u <;> first
        | exact wpAny_pure hQ
        | (refine wpAny_bind (wpAny_load ho ?_)
           rw [hc, hd]
           show wpAny M A (if (["enumerate", "zip", "dict_itemiterator", "dict_reverseitemiterator", "odict_iterator", "itertools.zip_longest", "itertools.pairwise"].contains n && vs[0]? == some (rawInt _)) = true then _ else _) Q E s
           rw [if_neg (by intro h; rw [hn, Bool.false_and] at h; cases h)]
           exact wpAny_pure hQ))

/-- the list at a, as it stands at each turn (a loop may append to it) -/
def Itl (K : PySem.W.Frag) (a : Addr) : It :=
  ⟨fun i H => ∃ xs x, SqL K H a xs ∧ xs[i]? = some x, fun i H x H' => H' = H ∧ ∀ xs, SqL K H a xs → xs[i]? = some x, fun i H => ∃ xs, SqL K H a xs ∧ xs.length ≤ i⟩
def Itt (K : PySem.W.Frag) (a : Addr) : It :=
  ⟨fun i H => ∃ xs x, SqT K H a xs ∧ xs[i]? = some x, fun i H x H' => H' = H ∧ ∀ xs, SqT K H a xs → xs[i]? = some x, fun i H => ∃ xs, SqT K H a xs ∧ xs.length ≤ i⟩
/-- lo, lo + 1, .. (n of them) -/
def Itr (lo : Int) (n : Nat) : It := ⟨fun i _ => i < n, fun i H x H' => H' = H ∧ x = .int (lo + i), fun i _ => n ≤ i⟩
theorem turn_list {P : Program} {w : World} {K : PySem.W.Frag} {tg : Expr} (a it : Addr) : Turn P w K tg (Itl K a) [it] it (fun i h => h.IsListIter it a i) where
  mem := by simp
  obj := fun i h st b hb => by
    have e : b = it := by simpa using hb
    subst e
    obtain ⟨o, e, c, d⟩ := st
    exact ⟨o, e, fun v z => by rw [d] at z; cases z⟩
  keep := fun i h h' st k => st.at fun o e => k it (by simp) o e
  item := by
    intro X hP hw hK hc i pins s σ H E I hf st hg
    subst hP hw hK
    obtain ⟨xs, x, hq, hx⟩ := hg
    obtain ⟨its, rv, p, hz⟩ := I.list hq
    obtain ⟨u, hu, ru⟩ := rv.get hx
    obtain ⟨f0, f1, f2, f3, f4, f5⟩ := hf it (by simp)
    refine wpAny_pyNext_list_item st p.isList (x := u) (by simpa using hu) fun h' st' sb => ?_
    have I1 : Inv X pins σ H { s with heap := h' } := I.turned (t' := s.toks) (fun b o hb e => (sb.2 b hb).trans e) f0 f1 f3 f4 f5
    obtain ⟨o, e, c, d⟩ := id st'
    exact ⟨u, rfl, go_of (s := { s with heap := h' }) e c d (by decide) ⟨x, H, I1, ru, ⟨rfl, fun ys hy => by rw [I.list_inj hy hq]; exact hx⟩, st', fun b hb => (hf b hb).1⟩⟩
  done := by
    intro X hP hw hK hc i pins s σ H E I hf st hg
    subst hP hw hK
    obtain ⟨xs, hq, hx⟩ := hg
    obtain ⟨its, rv, p, hz⟩ := I.list hq
    obtain ⟨f0, f1, f2, f3, f4, f5⟩ := hf it (by simp)
    have hl := rv.length
    exact wpAny_pyNext_list_end (I.ok.hd hc) st p.isList (by simp; omega) fun h' eb => ⟨rfl, I.turned (t' := s.toks) (fun b o hb e => eb b o hb e) f0 f1 f3 f4 f5⟩
  self := fun _ _ _ _ _ st h => wpAny_pyIter_listiter st h
theorem turn_tuple {P : Program} {w : World} {K : PySem.W.Frag} {tg : Expr} (a it : Addr) : Turn P w K tg (Itt K a) [it] it (fun i h => h.IsTupleIter it a i) where
  mem := by simp
  obj := fun i h st b hb => by
    have e : b = it := by simpa using hb
    subst e
    obtain ⟨o, e, c, d⟩ := st
    exact ⟨o, e, fun v z => by rw [d] at z; cases z⟩
  keep := fun i h h' st k => st.at fun o e => k it (by simp) o e
  item := by
    intro X hP hw hK hc i pins s σ H E I hf st hg
    subst hP hw hK
    obtain ⟨xs, x, hq, hx⟩ := hg
    obtain ⟨its, rv, p, hz⟩ := I.tuple hq
    obtain ⟨u, hu, ru⟩ := rv.get hx
    obtain ⟨f0, f1, f2, f3, f4, f5⟩ := hf it (by simp)
    refine wpAny_pyNext_tuple_item st (show s.heap.IsTuple a its.toArray from p) (x := u) (by simpa using hu) fun h' st' sb => ?_
    have I1 : Inv X pins σ H { s with heap := h' } := I.turned (t' := s.toks) (fun b o hb e => (sb.2 b hb).trans e) f0 f1 f3 f4 f5
    obtain ⟨o, e, c, d⟩ := id st'
    exact ⟨u, rfl, go_of (s := { s with heap := h' }) e c d (by decide) ⟨x, H, I1, ru, ⟨rfl, fun ys hy => by rw [I.tuple_inj hy hq]; exact hx⟩, st', fun b hb => (hf b hb).1⟩⟩
  done := by
    intro X hP hw hK hc i pins s σ H E I hf st hg
    subst hP hw hK
    obtain ⟨xs, hq, hx⟩ := hg
    obtain ⟨its, rv, p, hz⟩ := I.tuple hq
    obtain ⟨f0, f1, f2, f3, f4, f5⟩ := hf it (by simp)
    have hl := rv.length
    exact wpAny_pyNext_tuple_end (I.ok.hd hc) st (show s.heap.IsTuple a its.toArray from p) (by simp; omega) fun h' eb => ⟨rfl, I.turned (t' := s.toks) (fun b o hb e => eb b o hb e) f0 f1 f3 f4 f5⟩
  self := fun _ _ _ _ _ st h => wpAny_pyIter_tupleiter st h
theorem turn_range {P : Program} {w : World} {K : PySem.W.Frag} {tg : Expr} (it : Addr) (lo : Int) (n : Nat) : Turn P w K tg (Itr lo n) [it] it (fun i h => IsRangeIter h it (lo + (i : Nat) * 1) ((n : Int) - (i : Nat)) 1) where
  mem := by simp
  obj := fun i h st b hb => by
    have e : b = it := by simpa using hb
    subst e
    exact ⟨_, st, fun v z => by
      have z' : Data.fields _ = Data.cell v := z
      cases z'⟩
  keep := fun i h h' st k => k it (by simp) _ st
  item := by
    intro X hP hw hK hc i pins s σ H E I hf st hg
    subst hP hw hK
    obtain ⟨f0, f1, f2, f3, f4, f5⟩ := hf it (by simp)
    have W := Walks.range (prog := X.prog) (w := X.w) (I.ok.hd hc) it lo 1 n
    refine W.item i s _ _ hg st fun v h' tk hv st' kk => ?_
    obtain ⟨t, rfl⟩ := hv
    have I1 : Inv X pins σ H { s with heap := h', toks := tk } := I.turned (fun b o hb e => kk b o (by simpa using hb) e) f0 f1 f3 f4 f5
    refine ⟨_, rfl, go_of (s := { s with heap := h', toks := tk }) (n := "range_iterator") st' rfl rfl (by decide) ⟨.int (lo + i), H, I1, ⟨t, ?_⟩, ⟨rfl, rfl⟩, st', fun b hb => (hf b hb).1⟩⟩
    rw [Int.mul_one]
  done := by
    intro X hP hw hK hc i pins s σ H E I hf st hg
    subst hP hw hK
    obtain ⟨f0, f1, f2, f3, f4, f5⟩ := hf it (by simp)
    exact wpAny_pyNext_range_end (I.ok.hd hc) st (by have : n ≤ i := hg; omega) fun h' eb => ⟨rfl, I.turned (t' := s.toks) (fun b o hb e => eb b o hb e) f0 f1 f3 f4 f5⟩
  self := fun _ _ _ _ _ st h => wpAny_pyIter_rangeiter st h
end L2

namespace L2
open PySem PySem.Spec PyProof.Rows
section
variable {X : Cx} {tg : Expr}
def iList (K : PySem.W.Frag) (tl : TE) : TI := fun σ H R => tl σ H fun x H1 => ∃ a, x = .ref a ∧ (∃ xs, SqL K H1 a xs) ∧ R (Itl K a) H1
def iTup (K : PySem.W.Frag) (tl : TE) : TI := fun σ H R => tl σ H fun x H1 => ∃ a, x = .ref a ∧ (∃ xs, SqT K H1 a xs) ∧ R (Itt K a) H1
theorem pi_list {l : Expr} {tl : TE} (hl : PE X l tl) : PI X tg l (iList X.K tl) := by
  intro pins s σ H R I h
  refine thn (hl pins s σ H _ I h) fun v s1 ⟨x, H1, I1, r1, q1⟩ => ?_
  obtain ⟨a, e, ⟨xs, hq⟩, q⟩ := q1
  subst e
  cases r1
  obtain ⟨its, rv, p, hz⟩ := I1.list hq
  refine wpAny_pyIter_list p.isList ?_
  refine ⟨s1.heap.objs.size, [s1.heap.objs.size], _, _, H1, rfl, I1.kept (t' := s1.toks) fun b o e => Heap.get?_push_of_some _ e, turn_list a _, ⟨_, Heap.get?_push_size _ rfl, rfl, rfl⟩, fun b hb => ?_, q⟩
  have e : b = s1.heap.objs.size := by simpa using hb
  subst e
  exact I1.fpOk (Nat.le_refl _) (I1.hok.fresh (Nat.le_refl _))
theorem pi_tup {l : Expr} {tl : TE} (hl : PE X l tl) : PI X tg l (iTup X.K tl) := by
  intro pins s σ H R I h
  refine thn (hl pins s σ H _ I h) fun v s1 ⟨x, H1, I1, r1, q1⟩ => ?_
  obtain ⟨a, e, ⟨xs, hq⟩, q⟩ := q1
  subst e
  cases r1
  obtain ⟨its, rv, p, hz⟩ := I1.tuple hq
  refine wpAny_pyIter_tuple (show s1.heap.IsTuple a its.toArray from p) ?_
  refine ⟨s1.heap.objs.size, [s1.heap.objs.size], _, _, H1, rfl, I1.kept (t' := s1.toks) fun b o e => Heap.get?_push_of_some _ e, turn_tuple a _, ⟨_, Heap.get?_push_size _ rfl, rfl, rfl⟩, fun b hb => ?_, q⟩
  have e : b = s1.heap.objs.size := by simpa using hb
  subst e
  exact I1.fpOk (Nat.le_refl _) (I1.hok.fresh (Nat.le_refl _))
/-- a range object just made, walked -/
theorem range_it {pins : List (Addr × Obj)} {σ : St} {H : Hp} {s : Shared} {R : It → Hp → Prop} {E : Value → Shared → Prop} {lo hi : Int} {t u v : Tok} {tk : Nat} (I : Inv X pins σ H s) (h1 : -(2 ^ 62) ≤ lo) (h2 : lo < 2 ^ 62) (h3 : -(2 ^ 62) ≤ hi) (h4 : hi < 2 ^ 62)
    (q : R (Itr lo (hi - lo).toNat) H) : wpAny (model X.prog X.w) X.A (pyIter (.ref s.heap.objs.size)) (PIE X pins σ tg R) E { s with heap := s.heap.push { cls := .type "range", data := .fields #[.int lo t, .int hi u, .int 1 v] }, toks := tk } := by
  refine wpAny_pyIter_range (IsRange.new ..) (small_one h1 h2 h3 h4) ?_
  have I1 : Inv X pins σ H { s with heap := s.heap.push { cls := .type "range", data := .fields #[.int lo t, .int hi u, .int 1 v] }, toks := tk } := I.kept fun b o e => Heap.get?_push_of_some _ e
  refine ⟨(s.heap.push { cls := .type "range", data := .fields #[.int lo t, .int hi u, .int 1 v] }).objs.size, [(s.heap.push { cls := .type "range", data := .fields #[.int lo t, .int hi u, .int 1 v] }).objs.size], _, _, H, rfl,
    I1.kept (t' := tk) fun b o e => Heap.get?_push_of_some _ e, turn_range _ lo (hi - lo).toNat, ?_, fun b hb => ?_, q⟩
  · have e1 : lo + ((0 : Nat) : Int) * 1 = lo := by simp
    have e2 : (((hi - lo).toNat : Nat) : Int) - ((0 : Nat) : Int) = Builtin.Range.rangeSize lo hi 1 := by rw [rangeSize_one]; split <;> omega
    show IsRangeIter _ _ (lo + ((0 : Nat) : Int) * 1) ((((hi - lo).toNat : Nat) : Int) - ((0 : Nat) : Int)) 1
    rw [e1, e2]
    exact Heap.get?_push_size _ rfl
  · have e : b = (s.heap.push { cls := .type "range", data := .fields #[.int lo t, .int hi u, .int 1 v] }).objs.size := by simpa using hb
    subst e
    exact I1.fpOk (Nat.le_refl _) (I1.hok.fresh (Nat.le_refl _))
def iRng1 (ta : TA) : TI := fun σ H R => ta σ H fun vs H1 => ∃ j : Int, vs = [.int j] ∧ -(2 ^ 62) ≤ j ∧ j < 2 ^ 62 ∧ R (Itr 0 j.toNat) H1
def iRng2 (ta : TA) : TI := fun σ H R => ta σ H fun vs H1 => ∃ i j : Int, vs = [.int i, .int j] ∧ (-(2 ^ 62) ≤ i ∧ i < 2 ^ 62 ∧ -(2 ^ 62) ≤ j ∧ j < 2 ^ 62) ∧ R (Itr i (j - i).toNat) H1
theorem pi_range1 {a : Expr} {ta : TA} {p pos : Pos} (hg : Gl X "range") (hm : X.mg "range" = none) (ha : PA X [a] ta) (hs : starEach [a] X.env = [(false, eval a X.env)] := by rfl) : PI X tg (.Call (.Name "range" p) [a] [] pos) (iRng1 ta) := by
  intro pins s σ H R I h
  refine Call_ (ld_blt I hg hm boot_range (PyProof.Rows.callWith_type1 (thn (ha pos pins s σ H _ I h) fun us s1 ⟨vs, H1, I1, r1, q1⟩ => ?_) hs rfl))
  obtain ⟨j, e, q1, q2, q⟩ := q1
  subst e
  cases r1 with
  | cons r rr =>
    cases rr
    obtain ⟨t, rfl⟩ := r
    exact call_range_1 (range_it I1 (by omega) (by omega) q1 q2 (by simpa using q))
/-- W: the invariant by the turn and a measure; N: what the body is to reach -/
def tFor (wi : TI) (g : TG) (tb : TS) : TS := fun D σ H => wi σ H fun J H1 => ∃ W : Nat → Nat → St → Hp → Prop, (∃ m, W 0 m σ H1) ∧ ∀ i m σ H, W i m σ H →
  (J.stop i H ∧ D.nx σ H) ∨ (J.go i H ∧ ∃ N : St → Hp → Prop, (∀ σ' H', N σ' H' → ∃ m', m' < m ∧ W (i + 1) m' σ' H') ∧ ∀ x H', J.yld i H x H' → g x σ H' fun σ2 H2 => tb { D with nx := N, ct := N, bk := D.nx } σ2 H2)
/-- the records at fp as they stand -/
def pinsAt (fp : List Addr) (h : Heap) : List (Addr × Obj) := fp.filterMap fun b => (h.get? b).map fun o => (b, o)
theorem mem_pinsAt {fp : List Addr} {h : Heap} {b : Addr} {o : Obj} (hb : b ∈ fp) (e : h.get? b = some o) : (b, o) ∈ pinsAt fp h := List.mem_filterMap.mpr ⟨b, hb, by rw [e]; rfl⟩
theorem of_pinsAt {fp : List Addr} {h : Heap} {p : Addr × Obj} (hp : p ∈ pinsAt fp h) : p.1 ∈ fp ∧ h.get? p.1 = some p.2 := by
  obtain ⟨b, hb, e⟩ := List.mem_filterMap.mp hp
  cases q : h.get? b with
  | none => rw [q] at e; cases e
  | some o =>
    rw [q] at e
    have e' : (b, o) = p := Option.some.inj e
    subst e'
    exact ⟨hb, q⟩
theorem Inv.pinned {pins : List (Addr × Obj)} {σ : St} {H : Hp} {s : Shared} {fp : List Addr} (I : Inv X pins σ H s) (hf : ∀ b ∈ fp, FpOk X pins H b) (ho : ∀ b ∈ fp, ∃ o, s.heap.get? b = some o ∧ ∀ v, o.data ≠ .cell v) : Inv X (pins ++ pinsAt fp s.heap) σ H s :=
  I.pins_of fun p hp => (List.mem_append.mp hp).elim (fun z => I.pin p (List.mem_append_right _ z)) fun z => by
    obtain ⟨hb, e⟩ := of_pinsAt z
    obtain ⟨f0, f1, f2, _⟩ := hf p.1 hb
    obtain ⟨o, e', d⟩ := ho p.1 hb
    rw [e] at e'; cases e'
    exact ⟨e, f0, f1, f2, d⟩
theorem Inv.unpinned {pins pl : List (Addr × Obj)} {σ : St} {H : Hp} {s : Shared} (I : Inv X (pins ++ pl) σ H s) : Inv X pins σ H s := I.pins_of fun p hp => I.pin p (List.mem_append_right _ (List.mem_append_left _ hp))
theorem ps_for {iter : Expr} {body : List Stmt} {wi : TI} {g : TG} {tb : TS} {pos : Pos} (hp : PassesOwn (model X.prog X.w) X.A X.env X.xe) (hc : X.calm = true) (hi : PI X tg iter wi) (hg : PG X tg g) (hb : PSs X body tb)
    (hs : ∀ x, foldedSetIterable iter X.env x = pure x := by intro _; rfl) : PS X (.For tg iter body [] pos) (tFor wi g tb) := by
  intro pins s σ H D I h
  refine wpAny_For (thn (hi pins s σ H _ I h) fun v s1 h1 => thn h1 fun itv s2 h2 => ?_) hs
  obtain ⟨it, fp, tn, J, H2, e, I2, T, st2, f2, W, ⟨m0, w0⟩, turn⟩ := h2
  subst e
  -- what stays true of the iterator's objects through the loop
  have stat : ∀ {H' : Hp}, (∀ b ∈ fp, H' b = none) → ∀ b ∈ fp, FpOk X pins H' b := fun hn b hb => ⟨hn b hb, (f2 b hb).2⟩
  refine codeAny_forLoop_any (fun n s' => ∃ i σ' H', Inv X pins σ' H' s' ∧ tn i s'.heap ∧ (∀ b ∈ fp, H' b = none) ∧ W i n σ' H') ?_ m0 ⟨0, σ, H2, I2, st2, fun b hb => (f2 b hb).1, w0⟩
  rintro n s3 ⟨i, σ3, H3, I3, st3, fr3, w3⟩
  rcases turn i n σ3 H3 w3 with ⟨stop, qn⟩ | ⟨go, N, hN, step⟩
  · refine wpAny_passesOwn hp (thn (T.done X rfl rfl rfl hc i pins s3 σ3 H3 X.xe I3 (stat fr3) st3 stop) fun r s4 ⟨hr, I4⟩ => ?_)
    subst hr
    exact wpAny_execs_nil ⟨σ3, H3, I4, qn⟩
  · refine wpAny_passesOwn hp (thn (T.item X rfl rfl rfl hc i pins s3 σ3 H3 X.xe I3 (stat fr3) st3 go) fun r s4 ⟨u, hr, h4⟩ => ?_)
    subst hr
    refine wpAny_passesOwn hp (thn h4 fun _ s5 ⟨x, H5, I5, r5, y5, st5, fr5⟩ => ?_)
    have I5' := I5.pinned (stat fr5) (T.obj _ _ st5)
    refine wpAny_passesOwn hp (thn (hg _ s5 σ3 H5 x u _ I5' r5 (step x H5 y5)) fun _ s6 ⟨σ6, H6, I6, q6⟩ => ?_)
    refine wpAny_passesOwn hp (thn (hb _ s6 σ6 H6 _ I6 q6) fun f s7 q7 => ?_)
    have again : ∀ {σ7 : St} {H7 : Hp}, Inv X (pins ++ pinsAt fp s5.heap) σ7 H7 s7 → N σ7 H7 → ∃ m, m < n ∧ ∃ i σ' H', Inv X pins σ' H' s7 ∧ tn i s7.heap ∧ (∀ b ∈ fp, H' b = none) ∧ W i m σ' H' := fun {σ7 H7} I7 n7 => by
      obtain ⟨m', hm, w7⟩ := hN σ7 H7 n7
      refine ⟨m', hm, i + 1, σ7, H7, I7.unpinned, T.keep _ _ _ st5 fun b hb o e => (I7.pin (b, o) (List.mem_append_right _ (List.mem_append_right _ (mem_pinsAt hb e)))).1, fun b hb => ?_, w7⟩
      obtain ⟨o, e, d⟩ := T.obj _ _ st5 b hb
      exact (I7.pin (b, o) (List.mem_append_right _ (List.mem_append_right _ (mem_pinsAt hb e)))).2.1
    cases f with
    | next => obtain ⟨σ7, H7, I7, n7⟩ := q7; exact again I7 n7
    | cont => obtain ⟨σ7, H7, I7, n7⟩ := q7; exact again I7 n7
    | brk => obtain ⟨σ7, H7, I7, q7⟩ := q7; exact ⟨σ7, H7, I7.unpinned, q7⟩
    | ret v => obtain ⟨x7, σ7, H7, I7, r7, q7⟩ := q7; exact ⟨x7, σ7, H7, I7.unpinned, r7, q7⟩
end

/-- over a list that the body leaves as it is -/
theorem for_list {K : PySem.W.Frag} {a : Addr} {xs : List V} {g : TG} {tb : TS} {D : Ends} {σ : St} {H : Hp} (Pv : Nat → St → Hp → Prop) (h0 : Pv 0 σ H) (hl : ∀ i σ H, i ≤ xs.length → Pv i σ H → SqL K H a xs)
    (hs : ∀ i x σ H, xs[i]? = some x → Pv i σ H → g x σ H fun σ2 H2 => tb { D with nx := Pv (i + 1), ct := Pv (i + 1), bk := D.nx } σ2 H2) (hd : ∀ σ H, Pv xs.length σ H → D.nx σ H) :
    ∃ W : Nat → Nat → St → Hp → Prop, (∃ m, W 0 m σ H) ∧ ∀ i m σ H, W i m σ H →
      ((Itl K a).stop i H ∧ D.nx σ H) ∨ ((Itl K a).go i H ∧ ∃ N : St → Hp → Prop, (∀ σ' H', N σ' H' → ∃ m', m' < m ∧ W (i + 1) m' σ' H') ∧ ∀ x H', (Itl K a).yld i H x H' → g x σ H' fun σ2 H2 => tb { D with nx := N, ct := N, bk := D.nx } σ2 H2) := by
  refine ⟨fun i m σ H => m = xs.length - i ∧ i ≤ xs.length ∧ Pv i σ H, ⟨xs.length, by simp, Nat.zero_le _, h0⟩, ?_⟩
  rintro i m σ H ⟨rfl, hi, p⟩
  have q := hl i σ H hi p
  by_cases hlt : i < xs.length
  · refine .inr ⟨⟨xs, xs[i], q, by simp [hlt]⟩, Pv (i + 1), fun σ' H' p' => ⟨xs.length - (i + 1), by omega, rfl, hlt, p'⟩, fun x H' y => ?_⟩
    obtain ⟨e, y⟩ := y
    subst e
    exact hs i x σ _ (y xs q) p
  · have e : i = xs.length := by omega
    subst e
    exact .inl ⟨⟨xs, q, Nat.le_refl _⟩, hd σ H p⟩
theorem for_tup {K : PySem.W.Frag} {a : Addr} {xs : List V} {g : TG} {tb : TS} {D : Ends} {σ : St} {H : Hp} (Pv : Nat → St → Hp → Prop) (h0 : Pv 0 σ H) (hl : ∀ i σ H, i ≤ xs.length → Pv i σ H → SqT K H a xs)
    (hs : ∀ i x σ H, xs[i]? = some x → Pv i σ H → g x σ H fun σ2 H2 => tb { D with nx := Pv (i + 1), ct := Pv (i + 1), bk := D.nx } σ2 H2) (hd : ∀ σ H, Pv xs.length σ H → D.nx σ H) :
    ∃ W : Nat → Nat → St → Hp → Prop, (∃ m, W 0 m σ H) ∧ ∀ i m σ H, W i m σ H →
      ((Itt K a).stop i H ∧ D.nx σ H) ∨ ((Itt K a).go i H ∧ ∃ N : St → Hp → Prop, (∀ σ' H', N σ' H' → ∃ m', m' < m ∧ W (i + 1) m' σ' H') ∧ ∀ x H', (Itt K a).yld i H x H' → g x σ H' fun σ2 H2 => tb { D with nx := N, ct := N, bk := D.nx } σ2 H2) := by
  refine ⟨fun i m σ H => m = xs.length - i ∧ i ≤ xs.length ∧ Pv i σ H, ⟨xs.length, by simp, Nat.zero_le _, h0⟩, ?_⟩
  rintro i m σ H ⟨rfl, hi, p⟩
  have q := hl i σ H hi p
  by_cases hlt : i < xs.length
  · refine .inr ⟨⟨xs, xs[i], q, by simp [hlt]⟩, Pv (i + 1), fun σ' H' p' => ⟨xs.length - (i + 1), by omega, rfl, hlt, p'⟩, fun x H' y => ?_⟩
    obtain ⟨e, y⟩ := y
    subst e
    exact hs i x σ _ (y xs q) p
  · have e : i = xs.length := by omega
    subst e
    exact .inl ⟨⟨xs, q, Nat.le_refl _⟩, hd σ H p⟩
theorem for_range {lo : Int} {n : Nat} {g : TG} {tb : TS} {D : Ends} {σ : St} {H : Hp} (Pv : Nat → St → Hp → Prop) (h0 : Pv 0 σ H)
    (hs : ∀ i σ H, i < n → Pv i σ H → g (.int (lo + i)) σ H fun σ2 H2 => tb { D with nx := Pv (i + 1), ct := Pv (i + 1), bk := D.nx } σ2 H2) (hd : ∀ σ H, Pv n σ H → D.nx σ H) :
    ∃ W : Nat → Nat → St → Hp → Prop, (∃ m, W 0 m σ H) ∧ ∀ i m σ H, W i m σ H →
      ((Itr lo n).stop i H ∧ D.nx σ H) ∨ ((Itr lo n).go i H ∧ ∃ N : St → Hp → Prop, (∀ σ' H', N σ' H' → ∃ m', m' < m ∧ W (i + 1) m' σ' H') ∧ ∀ x H', (Itr lo n).yld i H x H' → g x σ H' fun σ2 H2 => tb { D with nx := N, ct := N, bk := D.nx } σ2 H2) := by
  refine ⟨fun i m σ H => m = n - i ∧ i ≤ n ∧ Pv i σ H, ⟨n, by simp, Nat.zero_le _, h0⟩, ?_⟩
  rintro i m σ H ⟨rfl, hi, p⟩
  by_cases hlt : i < n
  · refine .inr ⟨hlt, Pv (i + 1), fun σ' H' p' => ⟨n - (i + 1), by omega, rfl, hlt, p'⟩, fun x H' y => ?_⟩
    obtain ⟨e, y⟩ := y
    subst e y
    exact hs i σ _ hlt p
  · have e : i = n := by omega
    subst e
    exact .inl ⟨Nat.le_refl _, hd σ H p⟩
end L2

namespace L2
open PySem PySem.Spec PyProof.Rows

abbrev R2 := V → V → Hp → VK → Prop
/-- a two-place operation on values: f is binaryOp op, inplaceOp op or compareOp op -/
def OpR (X : Cx) (f : Value → Value → Sem Value) (r : R2) : Prop :=
  ∀ (pins : List (Addr × Obj)) (s : Shared) (σ : St) (H : Hp) (x y : V) (v u : Value) (Q : VK), Inv X pins σ H s → RelV x v → RelV y u → r x y H Q →
    wpAny (model X.prog X.w) X.A (f v u) (EP X pins σ Q) X.xe s
/-- a one-place operation -/
def UnR (X : Cx) (f : Value → Sem Value) (r : V → Hp → VK → Prop) : Prop :=
  ∀ (pins : List (Addr × Obj)) (s : Shared) (σ : St) (H : Hp) (x : V) (v : Value) (Q : VK), Inv X pins σ H s → RelV x v → r x H Q →
    wpAny (model X.prog X.w) X.A (f v) (EP X pins σ Q) X.xe s
/-- a call of a value that is known (a builtin, a type) with values -/
def CallR (X : Cx) (f : Value) (r : List V → Hp → VK → Prop) : Prop :=
  ∀ (pins : List (Addr × Obj)) (s : Shared) (σ : St) (H : Hp) (xs : List V) (us : List Value) (Q : VK), Inv X pins σ H s → Vals xs us → r xs H Q →
    wpAny (model X.prog X.w) X.A (call f us) (EP X pins σ Q) X.xe s
def tOp (r : R2) (ta tb : TE) : TE := fun σ H Q => ta σ H fun x H1 => tb σ H1 fun y H2 => r x y H2 Q
def tUn (r : V → Hp → VK → Prop) (ta : TE) : TE := fun σ H Q => ta σ H fun x H1 => r x H1 Q
/-- ints in, under C, and a value out -/
def rI (C : Int → Int → Prop) (g : Int → Int → V) : R2 := fun x y H Q => ∃ i j, x = .int i ∧ y = .int j ∧ C i j ∧ Q (g i j) H
def rI0 (g : Int → Int → V) : R2 := fun x y H Q => ∃ i j, x = .int i ∧ y = .int j ∧ Q (g i j) H
def rU (g : Int → V) : V → Hp → VK → Prop := fun x H Q => ∃ i, x = .int i ∧ Q (g i) H

section
variable {X : Cx} {a b c : Expr} {ta tb tc : TE} {pos : Pos}

theorem binT (ha : PE X a ta) (hb : PE X b tb) {pins : List (Addr × Obj)} {s : Shared} {σ : St} {H : Hp} {R : V → V → Hp → Prop} (I : Inv X pins σ H s)
    (h : ta σ H fun x H1 => tb σ H1 fun y H2 => R x y H2) {Q : Value → Shared → Prop} {f : Value → Value → Sem Value}
    (hf : ∀ v u s2 x y H2, Inv X pins σ H2 s2 → RelV x v → RelV y u → R x y H2 → wpAny (model X.prog X.w) X.A (f v u) Q X.xe s2) :
    wpAny (model X.prog X.w) X.A (eval a X.env) (fun v s₁ => wpAny (model X.prog X.w) X.A (eval b X.env) (fun u s₂ => wpAny (model X.prog X.w) X.A (f v u) Q X.xe s₂) X.xe s₁) X.xe s := by
  refine thn (ha pins s σ H _ I h) fun v s1 ⟨x, H1, I1, r1, q1⟩ => ?_
  refine thn (hb pins s1 σ H1 _ I1 q1) fun u s2 ⟨y, H2, I2, r2, q2⟩ => ?_
  exact hf v u s2 x y H2 I2 r1 r2 q2

theorem pe_op {op : Operator} {r : R2} (ho : OpR X (binaryOp op) r) (ha : PE X a ta) (hb : PE X b tb) : PE X (.BinOp a op b pos) (tOp r ta tb) := by
  intro pins s σ H Q I h
  exact wpAny_BinOp (binT ha hb I h fun v u s2 x y H2 I2 rx ry q => ho pins s2 σ H2 x y v u Q I2 rx ry q)
theorem pe_un {op : UnaryOp} {r : V → Hp → VK → Prop} (ho : UnR X (unaryOp op) r) (ha : PE X a ta) : PE X (.UnaryOp op a pos) (tUn r ta) := by
  intro pins s σ H Q I h
  exact UnaryOp_ (thn (ha pins s σ H _ I h) fun v s1 ⟨x, H1, I1, r1, q1⟩ => ho pins s1 σ H1 x v Q I1 r1 q1)
theorem opI {f : Value → Value → Sem Value} {C : Int → Int → Prop} {g : Int → Int → Int}
    (rule : ∀ (i j : Int) (t u : Tok) (s : Shared) (Q : Value → Shared → Prop) (E : Value → Shared → Prop), C i j → Q (.int (g i j) s.toks) { s with toks := s.toks + 1 } → wpAny (model X.prog X.w) X.A (f (.int i t) (.int j u)) Q E s) :
    OpR X f (rI C fun i j => .int (g i j)) := by
  intro pins s σ H x y v u Q I rx ry h
  obtain ⟨i, j, rfl, rfl, hc, q⟩ := h
  obtain ⟨t, rfl⟩ := rx
  obtain ⟨t', rfl⟩ := ry
  exact rule i j t t' s _ _ hc ⟨.int (g i j), H, I.tok _, ⟨_, rfl⟩, q⟩
theorem opI0 {f : Value → Value → Sem Value} {g : Int → Int → Int}
    (rule : ∀ (i j : Int) (t u : Tok) (s : Shared) (Q : Value → Shared → Prop) (E : Value → Shared → Prop), Q (.int (g i j) s.toks) { s with toks := s.toks + 1 } → wpAny (model X.prog X.w) X.A (f (.int i t) (.int j u)) Q E s) :
    OpR X f (rI0 fun i j => .int (g i j)) := by
  intro pins s σ H x y v u Q I rx ry h
  obtain ⟨i, j, rfl, rfl, q⟩ := h
  obtain ⟨t, rfl⟩ := rx
  obtain ⟨t', rfl⟩ := ry
  exact rule i j t t' s _ _ ⟨.int (g i j), H, I.tok _, ⟨_, rfl⟩, q⟩
theorem opB0 {f : Value → Value → Sem Value} {g : Int → Int → Bool}
    (rule : ∀ (i j : Int) (t u : Tok) (s : Shared) (Q : Value → Shared → Prop) (E : Value → Shared → Prop), Q (.bool (g i j)) s → wpAny (model X.prog X.w) X.A (f (.int i t) (.int j u)) Q E s) :
    OpR X f (rI0 fun i j => .bl (g i j)) := by
  intro pins s σ H x y v u Q I rx ry h
  obtain ⟨i, j, rfl, rfl, q⟩ := h
  obtain ⟨t, rfl⟩ := rx
  obtain ⟨t', rfl⟩ := ry
  exact rule i j t t' s _ _ ⟨.bl (g i j), H, I, rfl, q⟩

def CPow (i j : Int) : Prop := 0 ≤ j ∧ j ≤ 1000000 ∧ i.natAbs < 2 ^ 64
def CMul (i j : Int) : Prop := (-(2 ^ 64) < i ∧ i < 2 ^ 64) ∨ (-(2 ^ 64) < j ∧ j < 2 ^ 64)
theorem CMul.ok {i j : Int} (h : CMul i j) : IntMulOk i j := by
  rcases h with ⟨h1, h2⟩ | ⟨h1, h2⟩
  · exact .of_left (intBits_le_64 h1 h2)
  · exact .of_right (intBits_le_64 h1 h2)
theorem two_pow_nn (k : Nat) : (0 : Int) ≤ 2 ^ k := by
  rw [two_pow_cast]
  exact Int.natCast_nonneg _

theorem op_add : OpR X (binaryOp .Add) (rI0 fun i j => .int (i + j)) := opI0 fun _ _ _ _ _ _ _ q => add_int q
theorem op_sub : OpR X (binaryOp .Sub) (rI0 fun i j => .int (i - j)) := opI0 fun _ _ _ _ _ _ _ q => sub_int q
/-- % by a positive divisor of any size -/
theorem op_mod : OpR X (binaryOp .Mod) (rI (fun _ j => 0 < j) fun i j => .int (i % j)) := opI fun i j _ _ _ _ _ hc q => by
  have h1 : (0 : Int) < j := hc
  exact mod_int' (by omega) (by rw [Int.fmod_eq_emod_of_nonneg i (by omega)]; exact q)
theorem op_pow : OpR X (binaryOp .Pow) (rI CPow fun i j => .int (i ^ j.toNat)) := opI fun _ _ _ _ _ _ _ hc q => pow_int_small hc.1 hc.2.1 hc.2.2 q
theorem op_shr : OpR X (binaryOp .RShift) (rI (fun _ j => 0 ≤ j) fun i j => .int (i / 2 ^ j.toNat)) := opI fun i j _ _ _ _ _ hc q =>
  rshift_int hc (by rw [Int.fdiv_eq_ediv_of_nonneg i (two_pow_nn _)]; exact q)
theorem op_and : OpR X (binaryOp .BitAnd) (rI0 fun i j => .int (Builtin.bitAnd i j)) := opI0 fun _ _ _ _ _ _ _ q => and_int q
theorem unI {f : Value → Sem Value} {g : Int → Int}
    (rule : ∀ (i : Int) (t : Tok) (s : Shared) (Q : Value → Shared → Prop) (E : Value → Shared → Prop), Q (.int (g i) s.toks) { s with toks := s.toks + 1 } → wpAny (model X.prog X.w) X.A (f (.int i t)) Q E s) :
    UnR X f (rU fun i => .int (g i)) := by
  intro pins s σ H x v Q I rx h
  obtain ⟨i, rfl, q⟩ := h
  obtain ⟨t, rfl⟩ := rx
  exact rule i t s _ _ ⟨.int (g i), H, I.tok _, ⟨_, rfl⟩, q⟩
theorem un_neg : UnR X (unaryOp .USub) (rU fun i => .int (-i)) := unI fun _ _ _ _ _ q => neg_int q
end

/-- the scalars that == tells apart as data does -/
def scal : V → V → Bool
  | .non, .non => true | .non, .int _ => true | .int _, .non => true | .non, .bl _ => true | .bl _, .non => true | .non, .str _ => true | .str _, .non => true
  | .int _, .int _ => true | .bl _, .bl _ => true | .str _, .str _ => true | .byt _, .byt _ => true
  | .int _, .str _ => true | .str _, .int _ => true | .bl _, .str _ => true | .str _, .bl _ => true
  | _, _ => false
def rEq : R2 := fun x y H Q => scal x y = true ∧ Q (.bl (decide (x = y))) H
def rNe : R2 := fun x y H Q => scal x y = true ∧ Q (.bl (!decide (x = y))) H

theorem dec_int {i j : Int} : decide (V.int i = V.int j) = (i == j) := by
  rw [Bool.eq_iff_iff]
  simp
theorem dec_bl {i j : Bool} : decide (V.bl i = V.bl j) = (i == j) := by
  rw [Bool.eq_iff_iff]
  simp
theorem dec_str {i j : Str} : decide (V.str i = V.str j) = (i == j) := by
  rw [Bool.eq_iff_iff]
  simp
theorem dec_byt {i j : Array UInt8} : decide (V.byt i = V.byt j) = (i.toList == j.toList) := by
  rw [Bool.eq_iff_iff]
  cases i
  cases j
  simp

section
variable {X : Cx} {a b c : Expr} {ta tb tc : TE} {pos : Pos}
theorem fin_bl {pins : List (Addr × Obj)} {σ : St} {H : Hp} {s : Shared} {Q : VK} {k k' : Bool} (I : Inv X pins σ H s) (q : Q (.bl k) H) (e : k = k') : EP X pins σ Q (.bool k') s := by
  subst e
  exact ⟨.bl k, H, I, rfl, q⟩
theorem op_eq : OpR X (compareOp .Eq) rEq := by
  intro pins s σ H x y v u Q I rx ry h
  obtain ⟨hs, q⟩ := h
  cases x with
  | non =>
    cases rx
    cases y with
    | non => cases ry; exact PySem.EqNone.eq_none_none (fin_bl I q (by simp))
    | bl j => cases ry; exact PySem.EqNone.eq_none_bool (fin_bl I q (by simp))
    | int j => obtain ⟨t', rfl⟩ := ry; exact PySem.EqNone.eq_none_int (fin_bl I q (by simp))
    | str j => obtain ⟨t', rfl⟩ := ry; exact PySem.EqNone.eq_none_str (fin_bl I q (by simp))
    | _ => exact absurd (show false = true from hs) Bool.false_ne_true
  | bl i =>
    cases rx
    cases y with
    | non => cases ry; exact PySem.EqNone.eq_bool_none (fin_bl I q (by simp))
    | bl j => cases ry; exact eq_bool (fin_bl I q dec_bl)
    | str j => obtain ⟨t', rfl⟩ := ry; exact PySem.EqMixed.eq_bool_str (fin_bl I q (by simp))
    | _ => exact absurd (show false = true from hs) Bool.false_ne_true
  | int i =>
    obtain ⟨t, rfl⟩ := rx
    cases y with
    | non => cases ry; exact PySem.EqNone.eq_int_none (fin_bl I q (by simp))
    | int j => obtain ⟨t', rfl⟩ := ry; exact eq_int (fin_bl I q dec_int)
    | str j => obtain ⟨t', rfl⟩ := ry; exact PySem.EqMixed.eq_int_str (fin_bl I q (by simp))
    | _ => exact absurd (show false = true from hs) Bool.false_ne_true
  | str i =>
    obtain ⟨t, rfl⟩ := rx
    cases y with
    | non => cases ry; exact PySem.EqNone.eq_str_none (fin_bl I q (by simp))
    | bl j => cases ry; exact PySem.EqMixed.eq_str_bool (fin_bl I q (by simp))
    | int j => obtain ⟨t', rfl⟩ := ry; exact PySem.EqMixed.eq_str_int (fin_bl I q (by simp))
    | str j => obtain ⟨t', rfl⟩ := ry; exact eq_str (fin_bl I q dec_str)
    | _ => exact absurd (show false = true from hs) Bool.false_ne_true
  | byt i =>
    obtain ⟨t, rfl⟩ := rx
    cases y with
    | byt j => obtain ⟨t', rfl⟩ := ry; exact PySem.W.eq_bytes (fin_bl I q dec_byt)
    | _ => exact absurd (show false = true from hs) Bool.false_ne_true
  | _ => cases y <;> exact absurd (show false = true from hs) Bool.false_ne_true
theorem op_ne : OpR X (compareOp .NotEq) rNe := by
  intro pins s σ H x y v u Q I rx ry h
  obtain ⟨hs, q⟩ := h
  cases x with
  | non =>
    cases rx
    cases y with
    | non => cases ry; exact PySem.EqNone.ne_none_none (fin_bl I q (by simp))
    | bl j => cases ry; exact PySem.EqNone.ne_none_bool (fin_bl I q (by simp))
    | int j => obtain ⟨t', rfl⟩ := ry; exact PySem.EqNone.ne_none_int (fin_bl I q (by simp))
    | str j => obtain ⟨t', rfl⟩ := ry; exact PySem.EqNone.ne_none_str (fin_bl I q (by simp))
    | _ => exact absurd (show false = true from hs) Bool.false_ne_true
  | bl i =>
    cases rx
    cases y with
    | non => cases ry; exact PySem.EqNone.ne_bool_none (fin_bl I q (by simp))
    | bl j => cases ry; exact ne_bool (fin_bl I q (congrArg not dec_bl))
    | str j => obtain ⟨t', rfl⟩ := ry; exact PySem.EqMixed.ne_bool_str (fin_bl I q (by simp))
    | _ => exact absurd (show false = true from hs) Bool.false_ne_true
  | int i =>
    obtain ⟨t, rfl⟩ := rx
    cases y with
    | non => cases ry; exact PySem.EqNone.ne_int_none (fin_bl I q (by simp))
    | int j => obtain ⟨t', rfl⟩ := ry; exact ne_int (fin_bl I q (congrArg not dec_int))
    | str j => obtain ⟨t', rfl⟩ := ry; exact PySem.EqMixed.ne_int_str (fin_bl I q (by simp))
    | _ => exact absurd (show false = true from hs) Bool.false_ne_true
  | str i =>
    obtain ⟨t, rfl⟩ := rx
    cases y with
    | non => cases ry; exact PySem.EqNone.ne_str_none (fin_bl I q (by simp))
    | bl j => cases ry; exact PySem.EqMixed.ne_str_bool (fin_bl I q (by simp))
    | int j => obtain ⟨t', rfl⟩ := ry; exact PySem.EqMixed.ne_str_int (fin_bl I q (by simp))
    | str j => obtain ⟨t', rfl⟩ := ry; exact ne_str (fin_bl I q (congrArg not dec_str))
    | _ => exact absurd (show false = true from hs) Bool.false_ne_true
  | byt i =>
    obtain ⟨t, rfl⟩ := rx
    cases y with
    | byt j => obtain ⟨t', rfl⟩ := ry; exact PySem.W.ne_bytes (fin_bl I q (congrArg not dec_byt))
    | _ => exact absurd (show false = true from hs) Bool.false_ne_true
  | _ => cases y <;> exact absurd (show false = true from hs) Bool.false_ne_true

theorem op_lt : OpR X (compareOp .Lt) (rI0 fun i j => .bl (decide (i < j))) := opB0 fun _ _ _ _ _ _ _ q => lt_int q
theorem op_le : OpR X (compareOp .LtE) (rI0 fun i j => .bl (decide (i ≤ j))) := opB0 fun _ _ _ _ _ _ _ q => le_int q
theorem op_gt : OpR X (compareOp .Gt) (rI0 fun i j => .bl (decide (j < i))) := opB0 fun _ _ _ _ _ _ _ q => gt_int q
theorem op_ge : OpR X (compareOp .GtE) (rI0 fun i j => .bl (decide (j ≤ i))) := opB0 fun _ _ _ _ _ _ _ q => ge_int q
/-- is None, is not None: the right side a value none -/
theorem op_isN : OpR X (compareOp .Is) (fun x y H Q => y = .non ∧ Q (.bl (decide (x = .non))) H) := by
  intro pins s σ H x y v u Q I rx ry h
  obtain ⟨rfl, q⟩ := h
  cases ry
  refine is_none_gen (fin_bl I q ?_)
  cases x <;> first
    | (cases rx; rfl)
    | (obtain ⟨t, rfl⟩ := rx; rfl)
theorem op_notN : OpR X (compareOp .IsNot) (fun x y H Q => y = .non ∧ Q (.bl (!decide (x = .non))) H) := by
  intro pins s σ H x y v u Q I rx ry h
  obtain ⟨rfl, q⟩ := h
  cases ry
  refine isnot_none_gen (fin_bl I q ?_)
  cases x <;> first
    | (cases rx; rfl)
    | (obtain ⟨t, rfl⟩ := rx; rfl)

/-- two rules for one operation: by cases -/
theorem OpR.or {f : Value → Value → Sem Value} {r r' : R2} (h : OpR X f r) (h' : OpR X f r') : OpR X f (fun x y H Q => r x y H Q ∨ r' x y H Q) := by
  intro pins s σ H x y v u Q I rx ry q
  rcases q with q | q
  · exact h pins s σ H x y v u Q I rx ry q
  · exact h' pins s σ H x y v u Q I rx ry q

theorem nomark (b : Expr) {op : CmpOp} (h : op ≠ .In := by decide) (h2 : op ≠ .NotIn := by decide) : behindInMarks op b = false := by
  have e1 : (op == CmpOp.In) = false := by cases op <;> first | rfl | exact absurd rfl h
  have e2 : (op == CmpOp.NotIn) = false := by cases op <;> first | rfl | exact absurd rfl h2
  cases b <;> simp [behindInMarks, e1, e2]
/-- a comparison as a value; hm: nomark b, or (for in, not in) by with_unfolding_all rfl -/
theorem pe_cmpR {op : CmpOp} {r : R2} (ho : OpR X (compareOp op) r) (ha : PE X a ta) (hb : PE X b tb) (hm : behindInMarks op b = false) : PE X (.Compare a [op] [b] pos) (tOp r ta tb) := by
  intro pins s σ H Q I h
  exact wpAny_Compare1 (binT ha hb I h fun v u s2 x y H2 I2 rx ry q => ho pins s2 σ H2 x y v u Q I2 rx ry q) hm
/-- a reading of a value as a test -/
def tTest (t : TE) : TT := fun σ H Q => t σ H fun x H' => ∃ k, x = .bl k ∧ Q k H'
theorem pt_cmpR {op : CmpOp} {r : R2} (ho : OpR X (compareOp op) r) (ha : PE X a ta) (hb : PE X b tb) (hm : behindInMarks op b = false) : PT X (.Compare a [op] [b] pos) (tTest (tOp r ta tb)) := by
  intro pins s σ H Q I h
  refine wpAny_isTrue_Compare1 (thn (ha pins s σ H _ I h) fun v s1 ⟨x, H1, I1, r1, q1⟩ => thn (hb pins s1 σ H1 _ I1 q1) fun u s2 ⟨y, H2, I2, r2, q2⟩ =>
    thn (ho pins s2 σ H2 x y v u _ I2 r1 r2 q2) fun c s3 ⟨z, H3, I3, r3, k, e, q3⟩ => ?_) hm
  subst e
  cases r3
  exact wpAny_truthy_bool ⟨H3, I3, q3⟩
/-- a op1 b op2 c -/
def tChain (r r' : R2) (ta tb tc : TE) : TE := fun σ H Q => ta σ H fun x H1 => tb σ H1 fun y H2 => r x y H2 fun z H3 => ∃ k, z = .bl k ∧
  (if k = true then tc σ H3 fun w' H4 => r' y w' H4 Q else Q (.bl false) H3)
theorem pe_chain {op op' : CmpOp} {r r' : R2} (ho : OpR X (compareOp op) r) (ho' : OpR X (compareOp op') r') (ha : PE X a ta) (hb : PE X b tb) (hc : PE X c tc)
    (hm : lastMarks [op, op'] [b, c] = false := by with_unfolding_all rfl) : PE X (.Compare a [op, op'] [b, c] pos) (tChain r r' ta tb tc) := by
  intro pins s σ H Q I h
  refine Compare_chain (thn (ha pins s σ H _ I h) fun v s1 ⟨x, H1, I1, r1, q1⟩ => chain_link (thn (hb pins s1 σ H1 _ I1 q1) fun u s2 ⟨y, H2, I2, r2, q2⟩ =>
    thn (ho pins s2 σ H2 x y v u _ I2 r1 r2 q2) fun d s3 ⟨z, H3, I3, r3, k, e, q3⟩ => ?_)) hm
  subst e
  cases r3
  refine wpAny_truthy_bool ?_
  cases k with
  | false => exact ite_ff ⟨.bl false, H3, I3, rfl, q3⟩
  | true => exact ite_tt (chain_last (thn (hc pins s3 σ H3 _ I3 q3) fun w' s4 ⟨z', H4, I4, r4, q4⟩ => ho' pins s4 σ H4 y z' u w' Q I4 r2 r4 q4))
theorem line63 : (sizeLine : Nat) < 2 ^ 63 := by rw [sizeLine_eq]; decide
theorem vals1 {x : V} {us : List Value} (r : Vals [x] us) : ∃ u, us = [u] ∧ RelV x u := by
  cases r with
  | cons r1 r2 => cases r2; exact ⟨_, rfl, r1⟩
theorem vals2 {x y : V} {us : List Value} (r : Vals [x, y] us) : ∃ u w', us = [u, w'] ∧ RelV x u ∧ RelV y w' := by
  cases r with
  | cons r1 r2 =>
    cases r2 with
    | cons r3 r4 => cases r4; exact ⟨_, _, rfl, r1, r3⟩
theorem call_min2 (hc : X.calm = true) : CallR X (.builtin "min") (fun xs H Q => ∃ i j, xs = [.int i, .int j] ∧ Q (.int (if j < i then j else i)) H) := by
  intro pins s σ H xs us Q I r h
  obtain ⟨i, j, rfl, q⟩ := h
  obtain ⟨u, w', rfl, ⟨t, rfl⟩, ⟨t', rfl⟩⟩ := vals2 r
  refine min_two_ints (I.ok.hd hc) fun h' tk k => ⟨_, H, I.kept k, ?_, q⟩
  by_cases hj : j < i
  · rw [if_pos hj, if_pos hj]; exact ⟨_, rfl⟩
  · rw [if_neg hj, if_neg hj]; exact ⟨_, rfl⟩
end
end L2

namespace L2
open PySem PySem.Spec PyProof.Rows

structure ObjM (h : Heap) (x dx C : Addr) (mA : Str → Option Value) : Prop where
  obj : h.get? x = some (PySem.W.instObj C dx)
  ns : h.Ns1 dx mA
  ne : dx ≠ x

theorem lookIn_ns {h : Heap} {dx : Addr} {mA : Str → Option Value} (n : h.Ns1 dx mA) : ∃ od, h.get? dx = some od ∧ ∀ name, PySem.W.lookIn name od = some (mA name) := by
  obtain ⟨o, es, ep, ho, hd, hk, _, hm⟩ := n
  refine ⟨o, ho, fun name => ?_⟩
  have e := hm name
  unfold nsFind findBy at e
  rw [← Array.find?_toList] at e
  unfold PySem.W.lookIn
  rw [hd]
  dsimp only
  split
  · rename_i y q
    rw [q] at e
    exact congrArg some e
  · rename_i q
    rw [q] at e
    have a : es.toList.any (·.refKey) = false := by
      rw [List.any_eq_false]
      intro y hy
      obtain ⟨z, t, hkey⟩ := hk y (Array.mem_toList_iff.mp hy)
      simp [DictEntry.refKey, hkey]
    have a' : ¬ es.toList.any (·.refKey) = true := by rw [a]; exact Bool.false_ne_true
    rw [if_neg a']
    exact congrArg some e

theorem ObjM.look {h : Heap} {x dx C : Addr} {mA : Str → Option Value} (I : ObjM h x dx C mA) : ∃ od, PySem.W.InstAt h x (PySem.W.instObj C dx) C (some od) ∧ ∀ name, PySem.W.lookIn name od = some (mA name) :=
  let ⟨od, ho, hl⟩ := lookIn_ns I.ns
  ⟨od, ⟨I.obj, rfl, rfl, ho⟩, hl⟩

section
variable {prog : Program} {w : World} {A : Around} {E : Value → Shared → Prop} {s : Shared} {K : PySem.W.Frag} {x dx C f : Addr} {mA : Str → Option Value} {name : Str} {v : Value}

theorem get_map {expr : Bool} {Q : Value → Shared → Prop} (X : K.In s.heap) (I : ObjM s.heap x dx C mA) (hg : PySem.W.plainGet K C name = true) (hh : PySem.W.hasDictIn K C = true)
    (ha : PySem.W.findIn K (.ref C) name = some none) (hv : mA name = some v) (hv' : PySem.W.handedIn v = true) (h : Q v { s with toks := s.toks + 1 }) :
    wpAny (model prog w) A (getAttr (.ref x) name expr) Q E s := by
  obtain ⟨od, J, hl⟩ := I.look
  exact PySem.W.get_value X J (PySem.W.plainGet_of hg).1 (PySem.W.findObj_own hh ha rfl (by rw [hl, hv])) hv' h

theorem get_meth {pl : Sem Bool} {Q : Value × List Value → Shared → Prop} (X : K.In s.heap) (I : ObjM s.heap x dx C mA) (hg : PySem.W.plainGet K C name = true)
    (hf : PySem.W.findIn K (.ref C) name = some (some (.ref f))) (ht : PySem.W.isFn K (.ref f) = true) (hv : mA name = none) (h : Q (.ref f, [.ref x]) s) :
    wpAny (model prog w) A (getMethod (.ref x) name pl) Q E s := by
  obtain ⟨od, J, hl⟩ := I.look
  exact PySem.W.method_fn X J (PySem.W.plainGet_of hg).1 (PySem.W.plainGet_of hg).2 hf (beq_iff_eq.mp ht) (by show (PySem.W.lookIn name od).map (·.isSome) = some false; rw [hl, hv]; rfl) h

theorem set_map {ns : List Str} {Q : Unit → Shared → Prop} (X : K.In s.heap) (I : ObjM s.heap x dx C mA)
    (hs : PySem.W.findIn K (.ref C) "__setattr__" = some (some (.builtin "object.__setattr__"))) (hp : PySem.W.plainOver K C = true) (ht : PySem.W.takerIn K C name = some none) (hh : PySem.W.hasDictIn K C = true)
    (hw : PySem.Within mA ns) (hsz : ns.length ≤ sizeLine)
    (h : ∀ h', ObjM h' x dx C (fun y => if y = name then some v else mA y) → Heap.SameBut dx s.heap h' → Q () { s with heap := h', toks := s.toks + 2 }) :
    wpAny (model prog w) A (setAttr (.ref x) name v) Q E s := by
  obtain ⟨od, J, hl⟩ := I.look
  refine PySem.W.set_plain X J hs (PySem.W.osa_open (s := { s with toks := s.toks + 1 }) (r := none) X J hp ht fun b => ?_)
  obtain ⟨cd, hc, hd'⟩ := PySem.W.any_some hh
  have hx : s.heap.get? x = some ⟨.ref C, some dx, .plain, #[]⟩ := I.obj
  refine wpAny_bind (wpAny_pure (wpAny_bind (wpAny_bind (wpAny_loadPart hx (wpAny_bind (PySem.W.Looks.here (s := { s with toks := s.toks + 1 }) (PySem.W.looks_clsIn X hc) ?_))))))
  rw [hd']
  refine wpAny_pure (a := some dx) (wpAny_bind (wpAny_pure (wpAny_bind ?_)))
  refine wpAny_nsSet1 (s := { s with toks := s.toks + 1 }) I.ns fun h' hn2 hs2 => ?_
  obtain ⟨oD, esD, epD, hoD, hdD, hcD⟩ := hn2.count (PySem.Within.cons name v hw)
  refine wpAny_bind (wpAny_lookBehind hoD (by rw [hdD]; exact pastItsLine_dict (Nat.le_trans hcD (by rw [List.length_cons]; omega))) ?_)
  exact wpAny_pure (h _ ⟨(hs2.2 _ (Ne.symm I.ne)).trans I.obj, hn2, I.ne⟩ hs2)

/-- C(..): the dict at the heap's end, the instance behind it; then its __init__ -/
theorem make_map {R : Result → Shared → Prop} {vs : List Value} {kw : List (Str × Value)} (X : K.In s.heap) (hm : PySem.W.makesIn K C = true)
    (hi : PySem.W.findIn K (.ref C) "__init__" = some (some (.ref f))) (hf : PySem.W.typeIn K (.ref f) = some (.type "function"))
    (h : codeAny (model prog w) (A.under (.builtin "type.__call__" ⟨.ref C :: vs, kw⟩)) (.call (.ref f) ⟨.ref (s.heap.objs.size + 1) :: vs, kw⟩) (PySem.W.InitBack (s.heap.objs.size + 1) R)
      { s with heap := (s.heap.push PySem.W.emptyDict).push (PySem.W.instObj C s.heap.objs.size) }) :
    codeAny (model prog w) A (.call (.ref C) ⟨vs, kw⟩) R s := by
  obtain ⟨hh, g, d, t, os⟩ := s
  exact PySem.W.make_core (PySem.W.makes_of X hm) (PySem.W.looks_findIn X hi) (fun self => PySem.W.bind_fn X self hf) (.inl rfl) h
end

def putF (f : Str) (v : V) : List (Str × V) → List (Str × V)
  | [] => [(f, v)]
  | (g, x) :: r => if g = f then (g, v) :: r else (g, x) :: putF f v r
theorem lookup_putF (f g : Str) (v : V) : ∀ fs : List (Str × V), (putF f v fs).lookup g = if g = f then some v else fs.lookup g
  | [] => by
    show List.lookup g [(f, v)] = _
    by_cases h : g = f
    · have hb : (g == f) = true := beq_iff_eq.mpr h
      simp only [List.lookup, hb, if_pos h]
    · have hb : (g == f) = false := beq_eq_false_iff_ne.mpr h
      simp only [List.lookup, hb, if_neg h]
  | (k, x) :: r => by
    have ih := lookup_putF f g v r
    rw [show putF f v ((k, x) :: r) = (if k = f then (k, v) :: r else (k, x) :: putF f v r) from rfl]
    by_cases hk : k = f
    · rw [if_pos hk]
      by_cases h : g = k
      · have hb : (g == k) = true := beq_iff_eq.mpr h
        simp only [List.lookup, hb, if_pos (h.trans hk)]
      · have hb : (g == k) = false := beq_eq_false_iff_ne.mpr h
        simp only [List.lookup, hb, if_neg (fun e : g = f => h (e.trans hk.symm))]
    · rw [if_neg hk]
      by_cases h : g = k
      · have hb : (g == k) = true := beq_iff_eq.mpr h
        simp only [List.lookup, hb, if_neg (fun e : g = f => hk (h.symm.trans e))]
      · have hb : (g == k) = false := beq_eq_false_iff_ne.mpr h
        simp only [List.lookup, hb]
        exact ih
theorem keys_putF (f : Str) (v : V) : ∀ fs : List (Str × V), f ∈ (putF f v fs).map (·.1) ∧ ∀ g, g ∈ fs.map (·.1) → g ∈ (putF f v fs).map (·.1)
  | [] => ⟨by simp [putF], fun g h => by simp at h⟩
  | (k, x) :: r => by
    obtain ⟨i1, i2⟩ := keys_putF f v r
    rw [show putF f v ((k, x) :: r) = (if k = f then (k, v) :: r else (k, x) :: putF f v r) from rfl]
    by_cases hk : k = f
    · rw [if_pos hk]
      subst hk
      exact ⟨by simp, fun g h => by simpa using h⟩
    · rw [if_neg hk]
      refine ⟨?_, fun g h => ?_⟩
      · rw [List.map_cons]
        exact List.mem_cons_of_mem _ i1
      · rw [List.map_cons] at h ⊢
        rcases List.mem_cons.mp h with e | e
        · exact List.mem_cons.mpr (.inl e)
        · exact List.mem_cons_of_mem _ (i2 g e)
theorem length_putF (f : Str) (v : V) : ∀ fs : List (Str × V), (putF f v fs).length ≤ fs.length + 1
  | [] => by simp [putF]
  | (k, x) :: r => by
    have ih := length_putF f v r
    rw [show putF f v ((k, x) :: r) = (if k = f then (k, v) :: r else (k, x) :: putF f v r) from rfl]
    by_cases hk : k = f
    · rw [if_pos hk, List.length_cons, List.length_cons]; omega
    · rw [if_neg hk, List.length_cons, List.length_cons]; omega

theorem RelO.some_of {v : V} {o : Option Value} (r : RelO (some v) o) : ∃ u, o = some u ∧ RelV v u := by
  cases o with
  | none => exact (show False from r).elim
  | some u => exact ⟨u, rfl, r⟩
theorem RelO.none_of {o : Option Value} (r : RelO none o) : o = none := by
  cases o with
  | none => rfl
  | some u => exact (show False from r).elim
theorem handed_of {v : V} {u : Value} (r : RelV v u) : PySem.W.handedIn u = true := by
  cases v with
  | non => cases (show u = Value.none from r); rfl
  | bl b => cases (show u = Value.bool b from r); rfl
  | int i => obtain ⟨t, e⟩ := (show ∃ t, u = Value.int i t from r); cases e; rfl
  | str x => obtain ⟨t, e⟩ := (show ∃ t, u = Value.str x t from r); cases e; rfl
  | byt b => obtain ⟨t, e⟩ := (show ∃ t, u = Value.bytes b t from r); cases e; rfl
  | flt b => obtain ⟨t, e⟩ := (show ∃ t, u = Value.float b t from r); cases e; rfl
  | ref a => cases (show u = Value.ref a from r); rfl
  | ty n => cases (show u = Value.type n from r); rfl

section
variable {P : Program} {w : World} {H H' : Hp} {h h' : Heap} {a C dx : Addr} {fs fs' : List (Str × V)}
theorem ins_get (hok : HOk P w H h) (e : H a = some (.ins C dx fs)) : ∃ mA, ObjM h a dx C mA ∧ (∀ f, RelO (fs.lookup f) (mA f)) ∧ PySem.Within mA (fs.map (·.1)) ∧ fs.length ≤ 1000 ∧ H dx = some (.own a) := by
  obtain ⟨d, z, ne, ob, mA, n, r, q⟩ := (show ObjOk P w H h a (.ins C dx fs) from hok a _ e)
  exact ⟨mA, ⟨ob, n, ne⟩, r, q, z, d⟩
end

structure Cls (K : PySem.W.Frag) (C : Addr) : Prop where
  pg : PySem.W.plainGet K C Str.empty = true
  hd : PySem.W.hasDictIn K C = true
  po : PySem.W.plainOver K C = true
  sa : PySem.W.findIn K (.ref C) "__setattr__" = some (some (.builtin "object.__setattr__"))
theorem Cls.get {K : PySem.W.Frag} {C : Addr} (c : Cls K C) (f : Str) : PySem.W.plainGet K C f = true := c.pg
/-- no class of it has the name -/
def NoAttr (K : PySem.W.Frag) (C : Addr) (f : Str) : Prop := PySem.W.findIn K (.ref C) f = some none
theorem NoAttr.taker {K : PySem.W.Frag} {C : Addr} {f : Str} (n : NoAttr K C f) : PySem.W.takerIn K C f = some none := by
  unfold PySem.W.takerIn
  rw [show PySem.W.findIn K (.ref C) f = some none from n]
  rfl
/-- a method: a plain def of the class or of one above it -/
structure Meth (K : PySem.W.Frag) (C : Addr) (m : Str) (f : Addr) : Prop where
  at_ : PySem.W.findIn K (.ref C) m = some (some (.ref f))
  fn : PySem.W.isFn K (.ref f) = true
  kp : PySem.W.keepIn K (.ref f) = true

section
variable {X : Cx} {pins : List (Addr × Obj)} {σ : St} {H : Hp} {s : Shared} {a C dx : Addr} {fs : List (Str × V)} {f : Str} {v : V} {A : Around} {E : Value → Shared → Prop}

theorem getattr_ok {b : Bool} {Q : Value → Shared → Prop} (I : Inv X pins σ H s) (e : H a = some (.ins C dx fs)) (c : Cls X.K C) (n : NoAttr X.K C f) (l : fs.lookup f = some v)
    (h : ∀ u s', Inv X pins σ H s' → RelV v u → Q u s') : wpAny (model X.prog X.w) A (getAttr (.ref a) f b) Q E s := by
  obtain ⟨mA, O, r, _, _, _⟩ := ins_get I.hok e
  obtain ⟨u, hu, ru⟩ := RelO.some_of (v := v) (o := mA f) (by rw [← l]; exact r f)
  exact get_map I.kIn O (c.get f) c.hd n hu (handed_of ru) (h u _ (I.tok _) ru)

theorem getmeth_ok {m : Str} {g : Addr} {pl : Sem Bool} {Q : Value × List Value → Shared → Prop} (I : Inv X pins σ H s) (e : H a = some (.ins C dx fs)) (c : Cls X.K C) (k : Meth X.K C m g) (l : fs.lookup m = none)
    (h : Q (.ref g, [.ref a]) s) : wpAny (model X.prog X.w) A (getMethod (.ref a) m pl) Q E s := by
  obtain ⟨mA, O, r, _, _, _⟩ := ins_get I.hok e
  have hn : mA m = none := RelO.none_of (by rw [← l]; exact r m)
  exact get_meth I.kIn O (c.get m) k.at_ k.fn hn h

theorem setattr_ok {y : V} {u : Value} {Q : Unit → Shared → Prop} (I : Inv X pins σ H s) (e : H a = some (.ins C dx fs)) (c : Cls X.K C) (n : NoAttr X.K C f) (hl : fs.length < 1000) (ry : RelV y u)
    (h : ∀ s', Inv X pins σ (upd H a (.ins C dx (putF f y fs))) s' → Q () s') : wpAny (model X.prog X.w) A (setAttr (.ref a) f u) Q E s := by
  obtain ⟨mA, O, r, wi, _, ho⟩ := ins_get I.hok e
  have hz : (fs.map (·.1)).length ≤ sizeLine := by rw [List.length_map, sizeLine_eq]; omega
  refine set_map I.kIn O c.sa c.po n.taker c.hd wi hz fun h' O' sb => h _ ?_
  have hd : ∃ o, h'.get? dx = some o := let ⟨o, _, _, e', _⟩ := O'.ns; ⟨o, e'⟩
  refine I.write (x := a) (e := dx) (by rw [e]; exact True.intro) (.inr ho) (fun b q hb z => (sb.2 b hb).trans z) hd ?_
  refine ⟨by rw [upd_ne O.ne]; exact ho, ?_, O.ne, O'.obj, _, O'.ns, fun g => ?_, fun g hg => ?_⟩
  · have := length_putF f y fs; omega
  · show RelO ((putF f y fs).lookup g) (if g = f then some u else mA g)
    rw [lookup_putF]
    by_cases q : g = f
    · rw [if_pos q, if_pos q]; exact ry
    · rw [if_neg q, if_neg q]; exact r g
  · by_cases q : g = f
    · rw [q]; exact (keys_putF f y fs).1
    · refine (keys_putF f y fs).2 g (wi g fun z => hg ?_)
      show (if g = f then some u else mA g) = none
      rw [if_neg q]; exact z

/-- a new instance, tracked, without attributes -/
theorem Inv.made (I : Inv X pins σ H s) : Inv X pins σ (upd (upd H s.heap.objs.size (.own (s.heap.objs.size + 1))) (s.heap.objs.size + 1) (.ins C s.heap.objs.size []))
    { s with heap := (s.heap.push PySem.W.emptyDict).push (PySem.W.instObj C s.heap.objs.size) } := by
  have e1 : (s.heap.push PySem.W.emptyDict).get? s.heap.objs.size = some PySem.W.emptyDict := Heap.get?_push_size s.heap rfl
  have e2 : ((s.heap.push PySem.W.emptyDict).push (PySem.W.instObj C s.heap.objs.size)).get? (s.heap.objs.size + 1) = some (PySem.W.instObj C s.heap.objs.size) := by
    have := Heap.get?_push_size (s.heap.push PySem.W.emptyDict) (o := PySem.W.instObj C s.heap.objs.size) rfl
    rwa [Heap.size_push] at this
  have e3 : (s.heap.push PySem.W.emptyDict).Ns s.heap.objs.size (fun _ => none) := ⟨PySem.W.emptyDict, #[], _, e1, rfl, (fun e he => absurd he (by simp)), fun _ => rfl⟩
  have I1 := I.laid (a := s.heap.objs.size) (o := .own (s.heap.objs.size + 1)) (h' := s.heap.push PySem.W.emptyDict) (t' := s.toks) (fun b u q => Heap.get?_push_of_some _ q) (Nat.le_refl _) ⟨_, e1⟩
  refine I1.laid (a := s.heap.objs.size + 1) (o := .ins C s.heap.objs.size []) (t' := s.toks) (fun b u q => Heap.get?_push_of_some _ q) (Nat.le_of_eq (Heap.size_push _ _)) ?_
  have ne : s.heap.objs.size ≠ s.heap.objs.size + 1 := Nat.ne_of_lt (Nat.lt_succ_self _)
  refine ⟨by rw [upd_ne ne, upd_same], Nat.zero_le _, ne, e2, fun _ => none, (Heap.Ns1.of_empty e3).at fun o q => Heap.get?_push_of_some _ q, fun _ => True.intro, fun y hy => absurd rfl hy⟩

/-- e.f where nothing but the object is asked: through attributeBase (super) and the last hold -/
theorem attr_of {prog : Program} {w : World} {env : Env} {e : Expr} {f : Str} {pos : Pos} {s : Shared} {Q : Value → Shared → Prop} (hb : attributeBase e f env (eval e env) = eval e env)
    (h : wpAny (model prog w) A (eval e env) (fun o s₁ => wpAny (model prog w) A (getAttr o f true) Q E s₁) E s) : wpAny (model prog w) A (eval (.Attribute e f pos) env) Q E s :=
  Attribute_any_ h (by rw [arm_eval_Attribute, hb])
end

/-- e.f, an attribute of the instance -/
def tFld (K : PySem.W.Frag) (ta : TE) (f : Str) : TE := fun σ H Q => ta σ H fun x H1 => ∃ a C dx fs v, x = .ref a ∧ H1 a = some (.ins C dx fs) ∧ Cls K C ∧ NoAttr K C f ∧ fs.lookup f = some v ∧ Q v H1
/-- e.f = value -/
def sFld (K : PySem.W.Frag) (ta tv : TE) (f : Str) : TS := fun D σ H => tv σ H fun y H1 => ta σ H1 fun x H2 => ∃ a C dx fs, x = .ref a ∧ H2 a = some (.ins C dx fs) ∧ Cls K C ∧ NoAttr K C f ∧ fs.length < 1000 ∧
  D.nx σ (upd H2 a (.ins C dx (putF f y fs)))
section
variable {X : Cx} {o e value : Expr} {f : Str} {pos pos' tpos : Pos} {ta tv : TE}
theorem pe_fld (he : PE X e ta) (hb : attributeBase e f X.env (eval e X.env) = eval e X.env) : PE X (.Attribute e f pos) (tFld X.K ta f) := by
  intro pins s σ H Q I h
  refine attr_of hb (thn (he pins s σ H _ I h) fun u s1 ⟨x, H1, I1, rx, a, C, dx, fs, v, ex, ea, c, n, l, q⟩ => ?_)
  subst ex
  obtain rfl : u = Value.ref a := rx
  exact getattr_ok I1 ea c n l fun u' s2 I2 ru => ⟨v, H1, I2, ru, q⟩
theorem ps_fld (ha : PE X o ta) (hv : PE X value tv) (hs : swapsWith value (some (.Attribute o f pos')) pos.line X.env = pure false) : PS X (.Assign [.Attribute o f pos'] value pos) (sFld X.K ta tv f) := by
  intro pins s σ H D I h
  refine plainObj_wpAny_Assign_Attribute (thn (hv pins s σ H _ I h) fun u s1 ⟨y, H1, I1, ry, q⟩ => thn (ha pins s1 σ H1 _ I1 q) fun ov s2 ⟨x, H2, I2, rx, a, C, dx, fs, ex, ea, c, n, l, q2⟩ => ?_) hs
  subst ex
  obtain rfl : ov = Value.ref a := rx
  exact setattr_ok I2 ea c n l ry fun s3 I3 => ⟨σ, _, I3, q2⟩
end

section
variable {X : Cx} {pins : List (Addr × Obj)} {σ : St} {H : Hp} {s : Shared} {A : Around} {E : Value → Shared → Prop} {Q : Value → Shared → Prop} {c : Value} {b : Bool}
/-- the type of a value, as the fragment's deciders take it; for an instance its class -/
inductive TyOf (K : PySem.W.Frag) (H : Hp) : V → Value → Prop where
  | non : TyOf K H .non (.type "NoneType")
  | bl (x : Bool) : TyOf K H (.bl x) (.type "bool")
  | int (i : Int) : TyOf K H (.int i) (.type "int")
  | str (x : Str) : TyOf K H (.str x) (.type "str")
  | flt (x : UInt64) : TyOf K H (.flt x) (.type "float")
  | lst {a : Addr} {xs : List V} (e : H a = some (.lst xs)) : TyOf K H (.ref a) (.type "list")
  | frz {a : Addr} {o : Obj} {xs : List V} (e : H a = some (.frz o (.lst xs))) : TyOf K H (.ref a) (.type "list")
  | tup {a : Addr} {xs : List V} (e : H a = some (.tup xs)) : TyOf K H (.ref a) (.type "tuple")
  | dK {a : Addr} {kvs : List (Key × V)} (e : H a = some (.dK kvs)) : TyOf K H (.ref a) (.type "dict")
  | dT {a : Addr} {kvs : List (List Key × V)} (e : H a = some (.dT kvs)) : TyOf K H (.ref a) (.type "dict")
  | ins {a C dx : Addr} {fs : List (Str × V)} (e : H a = some (.ins C dx fs)) (cl : Cls K C) (ha : PySem.W.findIn K (.ref C) "__class__" = some (some (.builtin "object.__class__")))
      (hn : PySem.W.specialIn K (.builtin "object.__class__") "__get__" = some (some (.builtin "getset_descriptor.__get__"))) (htk : PySem.W.takesIn K (.builtin "object.__class__") = some true)
      (hm : PySem.W.mroIn K C (.type "object") = some true) : TyOf K H (.ref a) (.ref C)
/-- isinstance(x, c) for one class c, a built-in or an own one: kitOne's answer -/
theorem isinst_ok {x : V} {u t : Value} (I : Inv X pins σ H s) (rx : RelV x u) (ty : TyOf X.K H x t) (e : PySem.W.kitOne X.K t c = some b) (h : ∀ tk, Q (.bool b) { s with toks := tk }) :
    wpAny (model X.prog X.w) A (call (.builtin "isinstance") [u, c]) Q E s := by
  cases ty with
  | non => cases (show u = Value.none from rx); exact PySem.W.kia_one PySem.W.kitx_none I.kIn True.intro e (fun z => nomatch z) h
  | bl y => cases (show u = Value.bool y from rx); exact PySem.W.kia_one PySem.W.kitx_bool I.kIn True.intro e (fun z => nomatch z) h
  | int i => obtain ⟨t, q⟩ := (show ∃ t, u = Value.int i t from rx); cases q; exact PySem.W.kia_one PySem.W.kitx_int I.kIn True.intro e (fun z => nomatch z) h
  | str y => obtain ⟨t, q⟩ := (show ∃ t, u = Value.str y t from rx); cases q; exact PySem.W.kia_one PySem.W.kitx_str I.kIn True.intro e (fun z => nomatch z) h
  | flt y => obtain ⟨t, q⟩ := (show ∃ t, u = Value.float y t from rx); cases q; exact PySem.W.kia_one PySem.W.kitx_float I.kIn True.intro e (fun z => nomatch z) h
  | @lst a xs ea =>
    cases (show u = Value.ref a from rx)
    obtain ⟨_, _, n, _, h1⟩ := (show ObjOk X.prog X.w H s.heap a (.lst xs) from I.hok a _ ea)
    exact PySem.W.kia_one PySem.W.kitx_list I.kIn ⟨_, h1, rfl⟩ e (fun z => nomatch z) h
  | @frz a ob xs ea =>
    cases (show u = Value.ref a from rx)
    obtain ⟨_, _, _, n, _, h1⟩ := (show ObjOk X.prog X.w H s.heap a (.frz ob (.lst xs)) from I.hok a _ ea)
    exact PySem.W.kia_one PySem.W.kitx_list I.kIn ⟨_, h1, rfl⟩ e (fun z => nomatch z) h
  | @tup a xs ea =>
    cases (show u = Value.ref a from rx)
    obtain ⟨_, _, _, p⟩ := (show ObjOk X.prog X.w H s.heap a (.tup xs) from I.hok a _ ea)
    obtain ⟨o, h1, h2, _⟩ := p
    exact PySem.W.kia_one PySem.W.kitx_tuple I.kIn ⟨o, h1, h2⟩ e (fun z => nomatch z) h
  | @dK a kvs ea =>
    cases (show u = Value.ref a from rx)
    obtain ⟨_, _, vs, _, p⟩ := (show ObjOk X.prog X.w H s.heap a (.dK kvs) from I.hok a _ ea)
    obtain ⟨o, es, ep, h1, h2, _⟩ := p
    exact PySem.W.kia_one PySem.W.kitx_dict I.kIn ⟨o, h1, h2.1⟩ e (fun z => nomatch z) h
  | @dT a kvs ea =>
    cases (show u = Value.ref a from rx)
    obtain ⟨_, _, xs, _, o, es, ep, h1, h2, _⟩ := (show ObjOk X.prog X.w H s.heap a (.dT kvs) from I.hok a _ ea)
    exact PySem.W.kia_one PySem.W.kitx_dict I.kIn ⟨o, h1, h2.1⟩ e (fun z => nomatch z) h
  | @ins a C dx fs ea cl ha hn htk hm =>
    cases (show u = Value.ref a from rx)
    obtain ⟨mA, O, _⟩ := ins_get I.hok ea
    obtain ⟨od, J, _⟩ := O.look
    exact PySem.W.kia_one (PySem.W.kitx_own (cl.get _) cl.hd ha hn htk hm) I.kIn J e (fun z => nomatch z) h
end
end L2

namespace L2
open PySem PySem.Spec PyProof.Rows

structure Room (k : Nat) (A : Around) : Prop where
  hd : A.handled = none
  dp : A.depth + 3 * k + 5 < recursionLimit
  un : A.units + 16 * k + 200 < cLine
  gd : A.guards = some []
theorem Room.mono {j k : Nat} {A : Around} (r : Room k A) (h : j ≤ k) : Room j A := ⟨r.hd, by have := r.dp; omega, by have := r.un; omega, r.gd⟩
theorem Room.deeper {k : Nat} {A : Around} (r : Room (k + 1) A) (env : Env) : Room k (A.deeper env) :=
  ⟨r.hd, by have := r.dp; show A.depth + 1 + 3 * k + 5 < _; omega, by have := r.un; show A.units + 3 + 16 * k + 200 < _; omega, r.gd⟩
theorem Room.in1 {k : Nat} {A : Around} (r : Room (k + 1) A) : Room k A.in1 :=
  ⟨r.hd, by have := r.dp; show A.depth + 3 * k + 5 < _; omega, by have := r.un; show A.units + 1 + 16 * k + 200 < _; omega, r.gd⟩
theorem make_depth {A : Around} {C : Addr} {us : List Value} {kw : List (Str × Value)} : (A.under (.builtin "type.__call__" ⟨.ref C :: us, kw⟩)).depth = A.depth + 1 := by
  first | rfl | simp [Around.under, Code.weight, Code.isCreation, Code.isGuard, Code.isCaller, Code.frames, Code.isFrame, guardIds]
theorem make_units {A : Around} {C : Addr} {us : List Value} {kw : List (Str × Value)} : (A.under (.builtin "type.__call__" ⟨.ref C :: us, kw⟩)).units = A.units + 1 := by
  first | rfl | simp [Around.under, Code.cUnits, Code.frames, Code.isFrame]
theorem make_guards {A : Around} {C : Addr} {us : List Value} {kw : List (Str × Value)} (h : A.guards = some []) : (A.under (.builtin "type.__call__" ⟨.ref C :: us, kw⟩)).guards = some [] := by
  have e : (Code.builtin "type.__call__" ⟨.ref C :: us, kw⟩).guards = [] := by
    unfold Code.guards
    rw [if_neg (by show ¬ guardIds.contains "type.__call__" = true; decide)]
  have e2 : (A.under (.builtin "type.__call__" ⟨.ref C :: us, kw⟩)).guards = pushGuards (Code.builtin "type.__call__" ⟨.ref C :: us, kw⟩).guards A.guards := rfl
  rw [e2, e, h]; rfl
theorem Room.make {k : Nat} {A : Around} (r : Room (k + 1) A) (C : Addr) (us : List Value) (kw : List (Str × Value)) : Room k (A.under (.builtin "type.__call__" ⟨.ref C :: us, kw⟩)) :=
  ⟨r.hd, by have := r.dp; rw [make_depth]; omega, by have := r.un; rw [make_units]; omega, make_guards r.gd⟩
theorem Room.depth {k : Nat} {A : Around} (r : Room k A) : A.depth < recursionLimit := by have := r.dp; omega
theorem Room.units {k : Nat} {A : Around} (r : Room k A) : A.units + 64 < cLine := by have := r.un; omega
theorem Room.units0 {k : Nat} {A : Around} (r : Room k A) : A.units < cLine := by have := r.un; omega

def tNil : TA := fun _ H Q => Q [] H
def tCons (ta : TE) (tr : TA) : TA := fun σ H Q => ta σ H fun x H1 => tr σ H1 fun xs H2 => Q (x :: xs) H2
section
variable {X : Cx} {e : Expr} {es : List Expr} {te : TE} {t : TA} {pos : Pos}
theorem pa_nil : PA X [] tNil := fun _ _ _ _ H Q I h => Calls.spliced_nil ⟨[], H, I, .nil, h⟩
theorem pa_cons (ha : PE X e te) (hr : PA X es t) (hs : starEach (e :: es) X.env = (false, eval e X.env) :: starEach es X.env := by rfl) : PA X (e :: es) (tCons te t) := by
  intro pos pins s σ H Q I h
  rw [hs]
  show wpAny _ _ (spliced ((false, eval e X.env) :: backTo pos (starEach es X.env))) _ _ s
  refine Calls.spliced_cons (thn (ha pins s σ H _ I h) fun u s1 ⟨x, H1, I1, r1, q1⟩ => ?_)
  exact thn (hr pos pins s1 σ H1 _ I1 q1) fun us s2 ⟨xs, H2, I2, r2, q2⟩ => ⟨x :: xs, H2, I2, .cons r1 r2, q2⟩

/-- a tuple, a list of written items -/
def tTup (t : TA) : TE := fun σ H Q => t σ H fun xs H1 => xs.length ≤ sizeLine ∧ ∀ p, H1 p = none → Q (.ref p) (upd H1 p (.tup xs))
def tLst (t : TA) : TE := fun σ H Q => t σ H fun xs H1 => xs.length ≤ sizeLine ∧ ∀ p, H1 p = none → Q (.ref p) (upd H1 p (.lst xs))
theorem pe_tup {x1} (h : PA X es t) : PE X (.Tuple es x1 pos) (tTup t) := by
  intro pins s σ H Q I hq
  refine wpAny_Tuple_spliced (thn (h pos pins s σ H _ I hq) fun us s1 ⟨xs, H1, I1, r, z, q⟩ => ⟨by rw [← r.length]; exact z, ?_⟩)
  have hf : H1 s1.heap.objs.size = none := I1.hok.fresh (Nat.le_refl _)
  refine ⟨.ref s1.heap.objs.size, upd H1 s1.heap.objs.size (.tup xs), I1.laid (t' := s1.toks) (fun b u e => Heap.get?_push_of_some _ e) (Nat.le_refl _) ?_, rfl, q _ hf⟩
  exact ⟨z, us, r, ⟨_, Heap.get?_push_size _ rfl, rfl, _, rfl⟩⟩
theorem pe_lst (h : PA X es t) : PE X (.List es pos) (tLst t) := by
  intro pins s σ H Q I hq
  refine wpAny_List_spliced (thn (h pos pins s σ H _ I hq) fun us s1 ⟨xs, H1, I1, r, z, q⟩ => ⟨by rw [← r.length]; exact z, ?_⟩)
  have hf : H1 s1.heap.objs.size = none := I1.hok.fresh (Nat.le_refl _)
  refine ⟨.ref s1.heap.objs.size, upd H1 s1.heap.objs.size (.lst xs), I1.laid (t' := s1.toks) (fun b u e => Heap.get?_push_of_some _ e) (Nat.le_refl _) ?_, rfl, q _ hf⟩
  exact ⟨z, us, 0, r, Heap.get?_push_size _ rfl⟩
end

/-- a def's promise: the bound arguments in the parameters' order, the heap, the wanted end, the wanted exception -/
abbrev Sp := List V → Hp → VK → XK → Prop
/-- how an exception lies behind a call (file 08 gives it): the callers' frames, abstract heap and state ahead of the call, the wish, the exception, the state -/
abbrev CXT := List Env → Hp → Shared → XK → Value → Shared → Prop

/-- the state at a call -/
structure Env0 (P : Program) (w : World) (K : PySem.W.Frag) (mg : Str → Option Value) (base : Heap) (A : Around) (outer : List Env) (s : Shared) (H : Hp) : Prop where
  frames : A.frames = some outer
  mod : Mod K mg base
  bs : ∀ b o, base.get? b = some o → s.heap.get? b = some o ∧ H b = none
  bsz : base.objs.size ≤ s.heap.objs.size
  funs : s.heap.FunFrames base outer
  frf : ∀ b ∈ frs outer, H b = none
  hok : HOk P w H s.heap
  bare : AllBare s.gens
/-- a call's end -/
def CE (outer : List Env) (P : Program) (w : World) (H : Hp) (s : Shared) (Q : VK) (u : Value) (s' : Shared) : Prop :=
  ∃ v H', s'.os = s.os ∧ AllBare s'.gens ∧ Un (frs outer) [] H H' s.heap s'.heap ∧ HOk P w H' s'.heap ∧ RelV v u ∧ Q v H'
def CR (CX : CXT) (outer : List Env) (P : Program) (w : World) (H : Hp) (s : Shared) (Q : VK) (E : XK) (r : Result) (s' : Shared) : Prop :=
  match r with
  | .ok (.ret u) => CE outer P w H s Q u s'
  | .ok _ => False
  | .error e => CX outer H s E e s'
structure FnOk (P : Program) (w : World) (K : PySem.W.Frag) (mg : Str → Option Value) (base : Heap) (CX : CXT) (k : Nat) (f : Addr) (fd : FuncData) (ps : List Str) (sp : Sp) : Prop where
  len : ∀ vs H Q E, sp vs H Q E → vs.length = ps.length
  run : ∀ (A : Around) (outer : List Env) (s : Shared) (H : Hp) (args : Args) (us : List Value) (vs : List V) (Q : VK) (E : XK), Room k A → Env0 P w K mg base A outer s H → BindsTo s fd args (ps.zip us) → Vals vs us → sp vs H Q E →
    codeAny (model P w) A (.call (.ref f) args) (CR CX outer P w H s Q E) s
theorem FnOk.mono {P : Program} {w : World} {K : PySem.W.Frag} {mg : Str → Option Value} {base : Heap} {CX : CXT} {j k : Nat} {f : Addr} {fd : FuncData} {ps : List Str} {sp : Sp} (F : FnOk P w K mg base CX j f fd ps sp) (h : j ≤ k) :
    FnOk P w K mg base CX k f fd ps sp := ⟨F.len, fun A outer s H args us vs Q E hr => F.run A outer s H args us vs Q E (hr.mono h)⟩
theorem Env0.make {P : Program} {w : World} {K : PySem.W.Frag} {mg : Str → Option Value} {base : Heap} {A : Around} {outer : List Env} {s : Shared} {H : Hp} (e : Env0 P w K mg base A outer s H) (C : Addr) (us : List Value) (kw : List (Str × Value)) :
    Env0 P w K mg base (A.under (.builtin "type.__call__" ⟨.ref C :: us, kw⟩)) outer s H := ⟨by first | exact e.frames | (simpa [Around.under, Code.envs, Code.isFrame, pushEnvs] using e.frames), e.mod, e.bs, e.bsz, e.funs, e.frf, e.hok, e.bare⟩
theorem Env0.in1 {P : Program} {w : World} {K : PySem.W.Frag} {mg : Str → Option Value} {base : Heap} {A : Around} {outer : List Env} {s : Shared} {H : Hp} (e : Env0 P w K mg base A outer s H) :
    Env0 P w K mg base A.in1 outer s H := ⟨e.frames, e.mod, e.bs, e.bsz, e.funs, e.frf, e.hok, e.bare⟩

section
variable {X : Cx} {pins : List (Addr × Obj)} {σ : St} {H : Hp} {s s' : Shared}
/-- from a body: what a callee wants -/
theorem Inv.env0 (I : Inv X pins σ H s) : Env0 X.prog X.w X.K X.mg X.base X.A X.stack s H :=
  ⟨I.ok.frames, I.ok.mod, I.bs, Nat.le_trans I.ok.bsz I.sz, I.stack, I.stkFree, I.hok, I.bare⟩
/-- behind a call -/
theorem Inv.after {Q : VK} {u : Value} (I : Inv X pins σ H s) (h : CE X.stack X.prog X.w H s Q u s') : EP X pins σ Q u s' := by
  obtain ⟨v, H', os, bare, un, hok, r, q⟩ := h
  obtain ⟨hh, g, d, t, os'⟩ := s'
  obtain rfl : os' = s.os := os
  exact ⟨v, H', I.call (h' := hh) (g' := g) (d' := d) (t' := t) (ch := []) un hok bare (fun b z => absurd z (by simp)), r, q⟩
end

/-- f(..): the written arguments, then the defaults dvs; E: what is wanted of an exception -/
def tCall (sp : Sp) (dvs : List V) (E : XK) (t : TA) : TE := fun σ H Q => t σ H fun vs H1 => sp (vs ++ dvs) H1 Q E
/-- o.m(..) of an instance of the class at C -/
def tMeth (C : Addr) (m : Str) (sp : Sp) (dvs : List V) (E : XK) (ta : TE) (t : TA) : TE := fun σ H Q => ta σ H fun x H1 => ∃ a dx fs, x = .ref a ∧ H1 a = some (.ins C dx fs) ∧ fs.lookup m = none ∧
  t σ H1 fun vs H2 => sp (x :: (vs ++ dvs)) H2 Q E
/-- C(..): a new instance and its dict, then __init__ -/
def tMake (C : Addr) (sp : Sp) (dvs : List V) (E : XK) (t : TA) : TE := fun σ H Q => t σ H fun vs H1 => ∀ x dx, H1 x = none → H1 dx = none → dx ≠ x →
  sp (.ref x :: (vs ++ dvs)) (upd (upd H1 dx (.own x)) x (.ins C dx [])) (fun v H2 => v = .non ∧ Q (.ref x) H2) E

/-- how the parameters are bound: us the positional arguments, kw the keywords' values by name, ds the defaults that fill up -/
def Binds (K : PySem.W.Frag) (fd : FuncData) (ps : List Str) (ds : List Value) : Prop :=
  ∀ (s : Shared) (us : List Value), K.In s.heap → (us ++ ds).length = ps.length → BindsTo s fd ⟨us, []⟩ (ps.zip (us ++ ds))
/-- every parameter is given -/
theorem Binds.all {K : PySem.W.Frag} {fd : FuncData} {ps : List Str} (h : ∀ us : List Value, us.length = ps.length → bindArgs fd ⟨us, []⟩ = pure (ps.zip us)) : Binds K fd ps [] := fun s us _ hl => by
  rw [List.append_nil] at hl ⊢
  exact .of_eq (h us hl)

/-- an exception of a callee reaches what this body wants of exceptions -/
def Passes (CX : CXT) (X : Cx) (E : XK) : Prop := ∀ (pins : List (Addr × Obj)) (σ : St) (H : Hp) (s : Shared) (e : Value) (s' : Shared), Inv X pins σ H s → CX X.stack H s E e s' → X.xe e s'

section
variable {X : Cx} {CX : CXT} {k : Nat} {f C : Addr} {fd : FuncData} {ps : List Str} {sp : Sp} {dvs : List V} {ds : List Value} {E : XK} {x m : Str} {p pos apos : Pos} {e o : Expr} {es : List Expr} {ta : TE} {t : TA}

/-- the callee runs -/
theorem run_fn {pins : List (Addr × Obj)} {σ : St} {H : Hp} {s : Shared} {Q : VK} {us : List Value} {vs : List V} (F : FnOk X.prog X.w X.K X.mg X.base CX k f fd ps sp) (hr : Room k X.A) (hb : Binds X.K fd ps ds) (hd : Vals dvs ds) (hx : Passes CX X E)
    (I : Inv X pins σ H s) (r : Vals vs us) (h : sp (vs ++ dvs) H Q E) : wpAny (model X.prog X.w) X.A (call (.ref f) us) (EP X pins σ Q) X.xe s := by
  have r2 : Vals (vs ++ dvs) (us ++ ds) := r.append hd
  have hl : (us ++ ds).length = ps.length := by rw [← r2.length]; exact F.len _ _ _ _ h
  refine wpAny_call (codeAny_mono (F.run X.A X.stack s H ⟨us, []⟩ (us ++ ds) (vs ++ dvs) Q E hr I.env0 (hb s us I.kIn hl) r2 h) fun r s' hq => ?_)
  cases r with
  | error e => exact hx pins σ H s e s' I hq
  | ok fl =>
    cases fl with
    | ret u => exact I.after hq
    | next => exact False.elim hq
    | brk => exact False.elim hq
    | cont => exact False.elim hq

theorem pe_call (F : FnOk X.prog X.w X.K X.mg X.base CX k f fd ps sp) (hr : Room k X.A) (hg : Gl X x) (hm : X.mg x = some (.ref f)) (hk : PySem.W.keepIn X.K (.ref f) = true) (hb : Binds X.K fd ps ds) (hd : Vals dvs ds) (hx : Passes CX X E)
    (ha : PA X (e :: es) t) (hdb : (x == ("__debug__" : Str)) = false := by decide) (he : starEach (e :: es) X.env = (false, eval e X.env) :: starEach es X.env := by rfl) (hpl : (backTo pos (starEach es X.env)).any (·.1) = false := by rfl) :
    PE X (.Call (.Name x p) (e :: es) [] pos) (tCall sp dvs E t) := by
  intro pins s σ H Q I h
  refine wpAny_Call_Name_kw (ld_glob I hg hm ?_ hdb)
  refine PySem.W.callWith_K (h₀ := X.base) I.ok.mod.kin hk (thn (ha pos pins s σ H _ I h) fun us s1 ⟨vs, H1, I1, r, q⟩ => ⟨I1.kIn, ?_⟩) he hpl
  exact run_fn F hr hb hd hx I1 r q
/-- o.m(e, ..) -/
theorem pe_meth {pl : Sem Bool} (he : PE X o ta) (c : Cls X.K C) (hm : Meth X.K C m f) (F : FnOk X.prog X.w X.K X.mg X.base CX k f fd ps sp) (hr : Room k X.A) (hb : Binds X.K fd ps ds) (hd : Vals dvs ds) (hx : Passes CX X E) (ha : PA X (e :: es) t)
    (hst : starEach (e :: es) X.env = (false, eval e X.env) :: starEach es X.env := by rfl) (hpl : (backTo pos (starEach es X.env)).any (·.1) = false := by rfl)
    (ht : eval (.Call (.Attribute o m apos) (e :: es) [] pos) X.env = (do
      let ov ← eval o X.env
      standAt apos.atName
      let (f, first) ← holding [ov] (getMethod ov m pl)
      callWith pos f first (backTo pos (starEach (e :: es) X.env)) (backToKw pos (keywordEach [] X.env))) := by rfl) :
    PE X (.Call (.Attribute o m apos) (e :: es) [] pos) (tMeth C m sp dvs E ta t) := by
  intro pins s σ H Q I h
  refine PySem.W.methodCall_KW (pl := pl) (thn (he pins s σ H _ I h) fun u s1 ⟨x, H1, I1, rx, a, dx, fs, ex, ea, l, q⟩ => ?_) ht
  subst ex
  obtain rfl : u = Value.ref a := rx
  refine getmeth_ok I1 ea c hm l ?_
  refine PySem.W.callWith_K (first := [.ref a]) (h₀ := X.base) I.ok.mod.kin hm.kp (thn (ha pos pins s1 σ H1 _ I1 q) fun us s2 ⟨vs, H2, I2, r, q2⟩ => ⟨I2.kIn, ?_⟩) hst hpl
  exact run_fn (us := .ref a :: us) (vs := .ref a :: vs) F hr hb hd hx I2 (.cons rfl r) q2
/-- what a class must have to be made -/
structure Mk (K : PySem.W.Frag) (C f : Addr) : Prop where
  makes : PySem.W.makesIn K C = true
  init : PySem.W.findIn K (.ref C) "__init__" = some (some (.ref f))
  fn : PySem.W.isFn K (.ref f) = true
  kp : PySem.W.keepIn K (.ref C) = true

theorem run_make {pins : List (Addr × Obj)} {σ : St} {H : Hp} {s : Shared} {Q : VK} {us : List Value} {vs : List V} (M : Mk X.K C f) (F : FnOk X.prog X.w X.K X.mg X.base CX k f fd ps sp) (hr : Room (k + 1) X.A) (hb : Binds X.K fd ps ds) (hd : Vals dvs ds)
    (hx : Passes CX X E) (I : Inv X pins σ H s) (r : Vals vs us)
    (h : ∀ x dx, H x = none → H dx = none → dx ≠ x → sp (.ref x :: (vs ++ dvs)) (upd (upd H dx (.own x)) x (.ins C dx [])) (fun v H2 => v = .non ∧ Q (.ref x) H2) E) :
    wpAny (model X.prog X.w) X.A (call (.ref C) us) (EP X pins σ Q) X.xe s := by
  have hq := h (s.heap.objs.size + 1) s.heap.objs.size (I.hok.fresh (Nat.le_succ _)) (I.hok.fresh (Nat.le_refl _)) (Nat.ne_of_lt (Nat.lt_succ_self _))
  have I2 := Inv.made (C := C) I
  have r2 : Vals (V.ref (s.heap.objs.size + 1) :: (vs ++ dvs)) (Value.ref (s.heap.objs.size + 1) :: (us ++ ds)) := .cons rfl (r.append hd)
  have hl : (Value.ref (s.heap.objs.size + 1) :: us ++ ds).length = ps.length := by
    have e := r2.length
    rw [F.len _ _ _ _ hq] at e
    exact e.symm
  refine wpAny_call (make_map (f := f) I.kIn M.makes M.init (beq_iff_eq.mp M.fn) (codeAny_mono (F.run _ X.stack _ _ ⟨Value.ref (s.heap.objs.size + 1) :: us, []⟩ (Value.ref (s.heap.objs.size + 1) :: (us ++ ds)) _ _ E (hr.make C us [])
    (I2.env0.make C us []) (hb _ (Value.ref (s.heap.objs.size + 1) :: us) I2.kIn hl) r2 hq) fun r s' hq' => ?_))
  cases r with
  | error e => exact hx pins σ _ _ e s' I2 hq'
  | ok fl =>
    cases fl with
    | ret u =>
      obtain ⟨v, H', I3, rv, ev, q3⟩ := I2.after hq'
      subst ev
      exact ⟨rv, ⟨V.ref (s.heap.objs.size + 1), H', I3, rfl, q3⟩⟩
    | next => exact False.elim hq'
    | brk => exact False.elim hq'
    | cont => exact False.elim hq'
theorem pe_make (M : Mk X.K C f) (F : FnOk X.prog X.w X.K X.mg X.base CX k f fd ps sp) (hr : Room (k + 1) X.A) (hg : Gl X x) (hm : X.mg x = some (.ref C)) (hb : Binds X.K fd ps ds) (hd : Vals dvs ds) (hx : Passes CX X E)
    (ha : PA X (e :: es) t) (hdb : (x == ("__debug__" : Str)) = false := by decide) (he : starEach (e :: es) X.env = (false, eval e X.env) :: starEach es X.env := by rfl) (hpl : (backTo pos (starEach es X.env)).any (·.1) = false := by rfl) :
    PE X (.Call (.Name x p) (e :: es) [] pos) (tMake C sp dvs E t) := by
  intro pins s σ H Q I h
  refine wpAny_Call_Name_kw (ld_glob I hg hm ?_ hdb)
  refine PySem.W.callWith_K (h₀ := X.base) I.ok.mod.kin M.kp (thn (ha pos pins s σ H _ I h) fun us s1 ⟨vs, H1, I1, r, q⟩ => ⟨I1.kIn, ?_⟩) he hpl
  exact run_make M F hr hb hd hx I1 r q
end

section
variable {X : Cx} {CX : CXT} {k : Nat} {f C : Addr} {fd : FuncData} {ps ks : List Str} {sp : Sp} {E : XK} {x m : Str} {p pos apos kpos : Pos} {e o : Expr} {es : List Expr} {kws : List Keyword} {te ta : TE} {t tk : TA} {nm : Option Str}
variable {g : List Value → List Value → List Value} {gV : List V → List V → List V}
end

/-- names: the parameters first -/
structure FnScope (N P : List Str) (sc : Scope) : Prop where
  kind : sc.kind = .function
  co : sc.isCoroutine = false
  gen : sc.isGenerator = false
  nd : N.Nodup
  pre : N.take P.length = P
  par : ∀ x ∈ P, sc.names.lookup x = some .local ∨ sc.names.lookup x = some .cell
  nofree : ∀ y ∈ sc.names, y.2 ≠ .free

theorem bindL_out {kindOf : Str → Option NameKind} {x : Str} : ∀ {binds : List (Str × Value)} {m : Str → Option Value}, (∀ v, (x, v) ∉ binds) → bindL kindOf binds m x = m x
  | [], _, _ => rfl
  | (n, v) :: r, m, h => by
    unfold bindL
    rw [bindL_out fun w hw => h w (List.mem_cons_of_mem _ hw)]
    split
    · have : x ≠ n := by rintro rfl; exact h v List.mem_cons_self
      simp [this]
    · rfl
theorem bindC_out {kindOf : Str → Option NameKind} {x : Str} : ∀ {binds : List (Str × Value)} {m : Str → Option Value}, (∀ v, (x, v) ∉ binds) → bindC kindOf binds m x = m x
  | [], _, _ => rfl
  | (n, v) :: r, m, h => by
    unfold bindC
    rw [bindC_out fun w hw => h w (List.mem_cons_of_mem _ hw)]
    split
    · rfl
    · have : x ≠ n := by rintro rfl; exact h v List.mem_cons_self
      simp [this]
theorem bindL_get {kindOf : Str → Option NameKind} {x : Str} {v : Value} : ∀ {P : List Str} {vs : List Value} {i : Nat} {m : Str → Option Value}, P.Nodup → P[i]? = some x → vs[i]? = some v → kindOf x = some .local →
    bindL kindOf (P.zip vs) m x = some v
  | [], _, _, _, _, h, _, _ => by simp at h
  | _ :: _, [], _, _, _, _, h, _ => by simp at h
  | p :: P, w :: vs, 0, m, nd, h1, h2, hk => by
    simp at h1 h2; subst h1; subst h2
    show bindL kindOf ((p, w) :: P.zip vs) m p = _
    unfold bindL
    rw [bindL_out fun v hv => (List.nodup_cons.mp nd).1 (List.of_mem_zip hv).1, if_pos hk]
    simp
  | p :: P, w :: vs, i + 1, m, nd, h1, h2, hk => by
    show bindL kindOf ((p, w) :: P.zip vs) m x = _
    unfold bindL
    exact bindL_get (i := i) (List.nodup_cons.mp nd).2 (by simpa using h1) (by simpa using h2) hk
theorem bindC_get {kindOf : Str → Option NameKind} {x : Str} {v : Value} : ∀ {P : List Str} {vs : List Value} {i : Nat} {m : Str → Option Value}, P.Nodup → P[i]? = some x → vs[i]? = some v → kindOf x ≠ some .local →
    bindC kindOf (P.zip vs) m x = some v
  | [], _, _, _, _, h, _, _ => by simp at h
  | _ :: _, [], _, _, _, _, h, _ => by simp at h
  | p :: P, w :: vs, 0, m, nd, h1, h2, hk => by
    simp at h1 h2; subst h1; subst h2
    show bindC kindOf ((p, w) :: P.zip vs) m p = _
    unfold bindC
    rw [bindC_out fun v hv => (List.nodup_cons.mp nd).1 (List.of_mem_zip hv).1, if_neg hk]
    simp
  | p :: P, w :: vs, i + 1, m, nd, h1, h2, hk => by
    show bindC kindOf ((p, w) :: P.zip vs) m x = _
    unfold bindC
    exact bindC_get (i := i) (List.nodup_cons.mp nd).2 (by simpa using h1) (by simpa using h2) hk

/-- the names' values at the entry -/
def start (N : List Str) (vs : List V) : St := vs.map some ++ List.replicate (N.length - vs.length) none

/-- the context of a def's body, at its entry; an exception leaves the frame, then lies as CX says -/
def cxOf (CX : CXT) (P : Program) (w : World) (K : PySem.W.Frag) (mg : Str → Option Value) (base : Heap) (N : List Str) (qual : Str) (scope : Scope) (f : Addr) (cd : Value) (A : Around) (outer : List Env) (s : Shared) (H : Hp) (E : XK) : Cx where
  prog := P
  w := w
  K := K
  mg := mg
  base := base
  A := A.deeper (envOfC qual scope s.heap.objs.size f cd)
  N := N
  s₀ := s
  H₀ := H
  env := envOfC qual scope s.heap.objs.size f cd
  outer := outer
  stack := envOfC qual scope s.heap.objs.size f cd :: outer
  ex := []
  calm := true
  fn := fun _ => true
  pn := []
  xe := fun e s' => wpAny (model P w) (A.deeper (envOfC qual scope s.heap.objs.size f cd)) (leaving (envOfC qual scope s.heap.objs.size f cd) e) (fun _ s'' => CX outer H s E e s'') (fun e' s'' => CX outer H s E e' s'') s'

theorem cell_has {sc : Scope} {n : Nat} {x : Str} (h : sc.names.lookup x = some .cell) : ∃ c, (cellsFrom n sc.names []).lookup x = some c := by
  have q := PySem.W.cellsFrom_some sc.names n [] (.inl h)
  exact Option.isSome_iff_exists.mp q

theorem inv_start {CX : CXT} {P : Program} {w : World} {K : PySem.W.Frag} {mg : Str → Option Value} {base : Heap} {N ps : List Str} {qual : Str} {scope : Scope} {f : Addr} {cd : Value} {A : Around} {outer : List Env} {s s1 : Shared} {H : Hp} {E : XK} {us : List Value} {vs : List V}
    (S : FnScope N ps scope) (hd : A.handled = none) (e0 : Env0 P w K mg base A outer s H) (hl : vs.length = ps.length) (r : Vals vs us)
    (x : InCallC s s.heap.objs.size (bindL (envOfC qual scope s.heap.objs.size f cd).kindOf (ps.zip us) fun _ => none) (cellsFrom (s.heap.objs.size + 1) scope.names []) (bindC (envOfC qual scope s.heap.objs.size f cd).kindOf (ps.zip us) fun _ => none) s1) :
    Inv (cxOf CX P w K mg base N qual scope f cd A outer s H E) [] (start N vs) H s1 := by
  have hpl : ps.length ≤ N.length := by have := congrArg List.length S.pre; rw [List.length_take] at this; omega
  obtain ⟨h1, tk, rfl, hk⟩ := x.done
  have noA : ∀ b : Addr, b ∉ (cxOf CX P w K mg base N qual scope f cd A outer s H E).ex := fun b z => absurd (show b ∈ ([] : List Addr) from z) (by simp)
  refine ⟨⟨e0.mod, S.kind, rfl, rfl, Nat.le_refl _, fun y z c h1 h2 => ?_, fun y hy => ?_, fun y c _ h => ?_, fun _ => hd, Around.frames_deeper e0.frames, .inr ⟨rfl, rfl⟩, fun b z => absurd z (noA b), e0.bs, e0.bsz, fun b _ _ => noA b, fun b z => absurd z (noA b), e0.funs, e0.frf⟩,
    rfl, e0.bare, Un.kept hk, ⟨_, x.toInCall.ns, fun i y v h1 h2 h3 => ?_⟩, fun y c h => ⟨_, x.cell y c h⟩, e0.hok.fresh (Nat.le_refl _), fun y c h => ?_, fun p hp => absurd (show p ∈ ([] : List (Addr × Obj)) from hp) (by simp), e0.hok.kept hk, ?_⟩
  · exact name_of_addr x.apart (PySem.mem_of_lookup h1) (PySem.mem_of_lookup h2)
  · have hy : scope.names.lookup y = some .cell ∨ scope.names.lookup y = some .free := hy
    rcases hy with hy | hy
    · exact cell_has hy
    · exact absurd rfl (S.nofree _ (PySem.mem_of_lookup hy))
  · exact Nat.le_of_lt (x.above y c (PySem.mem_of_lookup h))
  · have hi : i < vs.length := by
      unfold start at h2
      by_cases hi : i < vs.length
      · exact hi
      · rw [List.getElem?_append_right (by simpa using hi)] at h2
        rw [List.getElem?_replicate] at h2
        split at h2 <;> cases h2
    have ha : vs[i]? = some v := by
      unfold start at h2
      rw [List.getElem?_append_left (by simpa using hi), List.getElem?_map] at h2
      cases e : vs[i]? with
      | none => rw [e] at h2; cases h2
      | some a => rw [e] at h2; cases h2; rfl
    obtain ⟨u, hu, rv⟩ := r.get ha
    have hp : ps[i]? = some y := by
      rw [← S.pre, List.getElem?_take_of_lt (by omega)]; exact h1
    have ndP : ps.Nodup := by rw [← S.pre]; exact S.nd.sublist (List.take_sublist _ _)
    refine ⟨u, rv, ?_⟩
    rcases S.par y (List.mem_of_getElem? hp) with k | k
    · exact .inl ⟨k, bindL_get ndP hp hu k⟩
    · obtain ⟨c, e⟩ := cell_has (n := s.heap.objs.size + 1) k
      refine .inr ⟨.inl k, c, e, ?_⟩
      have q := x.cell y c e
      rw [bindC_get ndP hp hu (by show scope.names.lookup y ≠ _; rw [k]; decide)] at q
      exact q
  · exact e0.hok.fresh (Nat.le_of_lt (x.above y c (PySem.mem_of_lookup h)))
  · unfold start
    show _ = N.length
    rw [List.length_append, List.length_map, List.length_replicate]
    omega

/-- THE RULE: a def (or a method) of the text, by its body. The body's reading t is chosen for each entry; it is run at the parameters' values -/
theorem fn_of {CX : CXT} {P : Program} {w : World} {K : PySem.W.Frag} {mg : Str → Option Value} {base : Heap} {k : Nat} {f : Addr} {name qual : Str} {params : Arguments} {body : List Stmt} {scope : Scope} {dV kV doc pm cdv ct oc : Value} {an od : Option Addr}
    {osl : Array (Option Value)} {N ps : List Str} {sp : Sp} (lk : K.lookup f = some ⟨oc, od, .func (PySem.W.fnOf name qual params body scope dV kV doc pm an cdv ct), osl⟩) (hcd : PySem.W.codeIn K cdv qual = true) (S : FnScope N ps scope)
    (len : ∀ vs H Q E, sp vs H Q E → vs.length = ps.length)
    (hbody : ∀ (A : Around) (outer : List Env) (s : Shared) (H : Hp) (vs : List V) (Q : VK) (E : XK), Room k (A.deeper (envOfC qual scope s.heap.objs.size f cdv)) → sp vs H Q E →
      ∃ t, PSs (cxOf CX P w K mg base N qual scope f cdv A outer s H E) body t ∧ t { nx := fun _ H' => Q .non H', rt := Q } (start N vs) H) :
    FnOk P w K mg base CX (k + 1) f (PySem.W.fnOf name qual params body scope dV kV doc pm an cdv ct) ps sp := by
  refine ⟨len, fun A outer s H args us vs Q E hr e0 hb r hsp => ?_⟩
  have hl := len _ _ _ _ hsp
  have KX : K.In s.heap := e0.mod.kin.keeps fun b o e => (e0.bs b o e).1
  have lim : s.heap.NoLimit := e0.mod.nolimit.keeps fun b o e => (e0.bs b o e).1
  have hkind : ∀ y ∈ ps.zip us, scope.names.lookup y.1 = some .local ∨ (scope.names.lookup y.1 = some .cell ∧ ((cellsFrom (s.heap.objs.size + 1) scope.names []).lookup y.1).isSome = true) := fun ⟨n, v⟩ hy => by
    rcases S.par n (List.of_mem_zip hy).1 with q | q
    · exact .inl q
    · exact .inr ⟨q, PySem.W.cellsFrom_some _ _ _ (.inl q)⟩
  refine codeAny_call_function hr.depth (KX _ _ lk) rfl S.co S.gen rfl (PySem.W.codeRec_of KX hcd) (hb _ _ _ _ ?_)
  refine wpAny_newFunctionEnv_cells S.kind hkind fun env he s1 x => ?_
  subst he
  refine ⟨lim.keeps x.toInCall.keep, codeAny_func ?_⟩
  obtain ⟨t, ht, hq⟩ := hbody A outer s H vs Q E (hr.deeper _) hsp
  have I : Inv (cxOf CX P w K mg base N qual scope f cdv A outer s H E) [] (start N vs) H s1 := inv_start S hr.hd e0 hl r x
  refine wpAny_mono (ht [] s1 (start N vs) H _ I hq) (fun fl s' hs => ?_) fun e s' hs => hs
  have fin : ∀ {σ' : St} {H' : Hp} {v : V} {u : Value}, Inv (cxOf CX P w K mg base N qual scope f cdv A outer s H E) [] σ' H' s' → RelV v u → Q v H' → CE outer P w H s Q u s' :=
    fun {σ' H' v u} J rv q => ⟨v, H', J.os, J.bare, J.base, J.hok, rv, q⟩
  cases fl with
  | ret u =>
    obtain ⟨v, σ', H', J, rv, q⟩ := hs
    exact fin J rv q
  | next =>
    obtain ⟨σ', H', J, q⟩ := hs
    exact fin (v := V.non) (u := Value.none) J rfl q
  | brk =>
    obtain ⟨_, _, _, q⟩ := hs
    exact False.elim q
  | cont =>
    obtain ⟨_, _, _, q⟩ := hs
    exact False.elim q
end L2

namespace L2
open PySem PySem.Spec PyProof.Rows
section
variable {X : Cx} {x : Str} {p pos : Pos} {e : Expr} {es : List Expr} {t : TA} {id T : String} {r : List V → Hp → VK → Prop}

def tCB (r : List V → Hp → VK → Prop) (t : TA) : TE := fun σ H Q => t σ H fun vs H1 => r vs H1 Q
/-- f(e, ..), f a built-in function -/
theorem pe_callB (hc : CallR X (.builtin id) r) (hg : Gl X x) (hm : X.mg x = none) (hv : bootBuiltins x = some (.builtin id)) (ha : PA X (e :: es) t) (hn : x ≠ "__name__" := by decide) (hdb : (x == ("__debug__" : Str)) = false := by decide)
    (he : starEach (e :: es) X.env = (false, eval e X.env) :: starEach es X.env := by rfl) (hpl : (backTo pos (starEach es X.env)).any (·.1) = false := by rfl) : PE X (.Call (.Name x p) (e :: es) [] pos) (tCB r t) := by
  intro pins s σ H Q I h
  refine wpAny_Call_Name_kw (ld_blt I hg hm hv ?_ hn hdb)
  exact PyProof.Rows.callWith_builtin1 (thn (ha pos pins s σ H _ I h) fun us s1 ⟨vs, H1, I1, r1, q1⟩ => hc pins s1 σ H1 vs us Q I1 r1 q1) he hpl
/-- T(e, ..), T a built-in type -/
theorem pe_callTy (hc : CallR X (.type T) r) (hg : Gl X x) (hm : X.mg x = none) (hv : bootBuiltins x = some (.type T)) (ha : PA X (e :: es) t) (hn : x ≠ "__name__" := by decide) (hdb : (x == ("__debug__" : Str)) = false := by decide)
    (he : starEach (e :: es) X.env = (false, eval e X.env) :: starEach es X.env := by rfl) (hpl : (backTo pos (starEach es X.env)).any (·.1) = false := by rfl) : PE X (.Call (.Name x p) (e :: es) [] pos) (tCB r t) := by
  intro pins s σ H Q I h
  refine wpAny_Call_Name_kw (ld_blt I hg hm hv ?_ hn hdb)
  exact PyProof.Rows.callWith_type1 (thn (ha pos pins s σ H _ I h) fun us s1 ⟨vs, H1, I1, r1, q1⟩ => hc pins s1 σ H1 vs us Q I1 r1 q1) he hpl
end
end L2

namespace HT
open PySem PyProof.Rows

section
open PySem.SeqAt
open PySem.AutoSeq1 (wpAny_loadPart')
open PySem.MeetsSeq PySem.MeetsSeq2 PySem.MeetsSeq3

end

section
variable {prog : Program} {w : World} {A : Around} {E : Value → Shared → Prop} {s : Shared}

/-- a slice's bound as a place among n (d where it is left out) -/
def sIx (n d : Nat) : Option Int → Nat
  | none => d
  | some v => if v < 0 then (v + (n : Int)).toNat else min v.toNat n
theorem sIx_none (n d : Nat) : sIx n d none = d := rfl
theorem sIx_nat (n d k : Nat) : sIx n d (some (k : Int)) = min k n := by
  show (if (k : Int) < 0 then ((k : Int) + (n : Int)).toNat else min (k : Int).toNat n) = min k n
  rw [if_neg (by omega), Int.toNat_natCast]
end
end HT

namespace L2
open PySem PySem.Spec PyProof.Rows

abbrev TO := St → Hp → (Option Int → Hp → Prop) → Prop
/-- a slice's part (left out, or an int) -/
def PO (X : Cx) (e : Option Expr) (t : TO) : Prop :=
  ∀ (pins : List (Addr × Obj)) (s : Shared) (σ : St) (H : Hp) (Q : Option Int → Hp → Prop), Inv X pins σ H s → t σ H Q →
    wpAny (model X.prog X.w) X.A (evalPart e X.env) (fun u s' => ∃ o H', Inv X pins σ H' s' ∧ IsPart u o ∧ Q o H') X.xe s
def tNoPart : TO := fun _ H Q => Q none H
def tPart (t : TE) : TO := fun σ H Q => t σ H fun x H1 => ∃ i, x = .int i ∧ Q (some i) H1

theorem intsAre_of {ns : List Int} : ∀ {us : List Value}, Vals (ns.map V.int) us → IntsAre us ns := by
  induction ns with
  | nil => intro us r; rw [List.map_nil] at r; cases r; exact .nil
  | cons n ns ih =>
    intro us r
    rw [List.map_cons] at r
    cases r with
    | cons r1 r2 =>
      obtain ⟨t, e⟩ := r1
      subst e
      exact .cons n t (ih r2)

section
variable {X : Cx} {e : Expr} {te : TE} {lo hi : Option Expr} {tl th : TO} {pos p2 : Pos}

theorem po_none : PO X none tNoPart := by
  intro pins s σ H Q I h
  rw [evalPart_none]
  exact wpAny_pure ⟨none, H, I, .none, h⟩
theorem po_some (h : PE X e te) : PO X (some e) (tPart te) := by
  intro pins s σ H Q I hw
  rw [evalPart_some]
  refine thn (h pins s σ H _ I hw) fun u s1 ⟨x, H1, I1, r1, q1⟩ => ?_
  obtain ⟨i, rfl, q⟩ := q1
  obtain ⟨t, rfl⟩ := r1
  exact ⟨some i, H1, I1, .int i t, q⟩

/-- what a slice of a value is, by values: the slice object stands at sl -/
def SlR (X : Cx) (r : V → Option Int → Option Int → Hp → VK → Prop) : Prop :=
  ∀ (pins : List (Addr × Obj)) (s : Shared) (σ : St) (H : Hp) (x : V) (v vl vu : Value) (lo hi : Option Int) (sl : Addr) (Q : VK), Inv X pins σ H s → RelV x v → s.heap.IsSliceOf sl vl vu .none → IsPart vl lo → IsPart vu hi → r x lo hi H Q →
    ∃ T id, typeLookup (.type T) "__getitem__" = pure (some (.builtin id)) ∧ s.TypeIs v T ∧ wpAny (model X.prog X.w) X.A (getItem v (.ref sl)) (EP X pins σ Q) X.xe s
theorem SlR.or {r r' : V → Option Int → Option Int → Hp → VK → Prop} (h : SlR X r) (h' : SlR X r') : SlR X (fun x lo hi H Q => r x lo hi H Q ∨ r' x lo hi H Q) := by
  intro pins s σ H x v vl vu lo hi sl Q I rx hs pl pu q
  rcases q with q | q
  · exact h pins s σ H x v vl vu lo hi sl Q I rx hs pl pu q
  · exact h' pins s σ H x v vl vu lo hi sl Q I rx hs pl pu q
def tSl (r : V → Option Int → Option Int → Hp → VK → Prop) (te : TE) (tl th : TO) : TE := fun σ H Q => te σ H fun x H1 => tl σ H1 fun l H2 => th σ H2 fun u H3 => r x l u H3 Q
/-- a[lo:hi], any a -/
theorem pe_slice {r : V → Option Int → Option Int → Hp → VK → Prop} (hr : SlR X r) (he : PE X e te) (hl : PO X lo tl) (hu : PO X hi th) : PE X (.Subscript e (.Slice lo hi none p2) pos) (tSl r te tl th) := by
  intro pins s σ H Q I h
  refine Subscript_ (thn (he pins s σ H _ I h) fun v s1 ⟨x, H1, I1, r1, q1⟩ => ?_)
  refine wpAny_Slice (thn (hl pins s1 σ H1 _ I1 q1) fun vl s2 ⟨l, H2, I2, pl, q2⟩ => thn (hu pins s2 σ H2 _ I2 q2) fun vu s3 ⟨u, H3, I3, pu, q3⟩ => ?_)
  rw [evalPart_none]
  refine wpAny_pure ?_
  have I4 : Inv X pins σ H3 { s3 with heap := s3.heap.push { cls := .type "slice", data := .fields #[vl, vu, .none] } } := I3.kept (t' := s3.toks) fun b ob q => Heap.get?_push_of_some _ q
  obtain ⟨T, id, hT, ht, hg⟩ := hr pins { s3 with heap := s3.heap.push { cls := .type "slice", data := .fields #[vl, vu, .none] } } σ H3 x v vl vu l u s3.heap.objs.size Q I4 r1 (Heap.IsSliceOf.new ..) pl pu q3
  show wpAny (model X.prog X.w) X.A (subscriptTail e (.Slice lo hi none p2) v (.ref s3.heap.objs.size)) (EP X pins σ Q) X.xe { s3 with heap := s3.heap.push { cls := .type "slice", data := .fields #[vl, vu, .none] } }
  exact tail_any (ops := [.ref s3.heap.objs.size, v]) ht hT hg (by with_unfolding_all rfl)

/-- the items of xs[lo:hi] -/
def cutV (xs : List V) (lo hi : Option Int) : List V := (xs.drop (HT.sIx xs.length 0 lo)).take (HT.sIx xs.length xs.length hi - HT.sIx xs.length 0 lo)
theorem cutV_length (xs : List V) (lo hi : Option Int) : (cutV xs lo hi).length ≤ xs.length := by
  unfold cutV
  rw [List.length_take, List.length_drop]
  omega
end
end L2

namespace L2
open PySem PySem.Spec PyProof.Rows

/-- the place that an index of any sign means -/
def ixN (n : Nat) (i : Int) : Option Nat := if 0 ≤ i then (if i < n then some i.toNat else none) else if -(n : Int) ≤ i then some (i + n).toNat else none
def atI {α : Type} (xs : List α) (i : Int) : Option α := (ixN xs.length i).bind fun j => xs[j]?
theorem ixN_seq {n : Nat} {i : Int} {j : Nat} (h : ixN n i = some j) : seqIndex? i n = some j ∧ j < n ∧ -(n : Int) ≤ i ∧ i < n := by
  unfold ixN at h
  by_cases h0 : 0 ≤ i
  · rw [if_pos h0] at h
    by_cases h1 : i < n
    · rw [if_pos h1] at h
      have e : i.toNat = j := Option.some.inj h
      exact ⟨by rw [seqIndex_of h0 h1, e], by omega, by omega, h1⟩
    · rw [if_neg h1] at h; cases h
  · rw [if_neg h0] at h
    by_cases h1 : -(n : Int) ≤ i
    · rw [if_pos h1] at h
      have e : (i + n).toNat = j := Option.some.inj h
      exact ⟨by rw [seqIndex_neg (by omega) h1, e], by omega, h1, by omega⟩
    · rw [if_neg h1] at h; cases h
theorem atI_get {α : Type} {xs : List α} {i : Int} {v : α} (h : atI xs i = some v) : ∃ j, seqIndex? i xs.length = some j ∧ xs[j]? = some v ∧ j < xs.length ∧ -(xs.length : Int) ≤ i ∧ i < xs.length := by
  unfold atI at h
  cases e : ixN xs.length i with
  | none => rw [e] at h; cases h
  | some j =>
    rw [e] at h
    obtain ⟨h1, h2, h3, h4⟩ := ixN_seq e
    exact ⟨j, h1, h, h2, h3, h4⟩
theorem atI_nat {α : Type} {xs : List α} {j : Nat} {v : α} (h : xs[j]? = some v) : atI xs (j : Int) = some v := by
  have hj : j < xs.length := (List.getElem?_eq_some_iff.mp h).1
  have e : ixN xs.length (j : Int) = some j := by
    unfold ixN
    rw [if_pos (by omega), if_pos (by omega)]; simp
  unfold atI; rw [e]; exact h
/-- what stands as an index of a plain subscript -/
def PlainIx (b : Expr) : Prop := ∀ o i, subscripted b false o i = operate [o, i] (getItem o i)
/-- a subscript by values -/
def IxR (X : Cx) (r : R2) : Prop :=
  ∀ (value slice : Expr) (pins : List (Addr × Obj)) (s : Shared) (σ : St) (H : Hp) (x y : V) (v u : Value) (Q : VK), Inv X pins σ H s → RelV x v → RelV y u → r x y H Q →
    subscripted slice false v u = operate [v, u] (getItem v u) → wpAny (model X.prog X.w) X.A (subscriptTail value slice v u) (EP X pins σ Q) X.xe s
/-- a call of a builtin's method by values: the receiver, the arguments -/
def MtR (X : Cx) (id : String) (r : V → List V → Hp → VK → Prop) : Prop :=
  ∀ (pins : List (Addr × Obj)) (s : Shared) (σ : St) (H : Hp) (x : V) (xs : List V) (v : Value) (us : List Value) (Q : VK), Inv X pins σ H s → RelV x v → Vals xs us → r x xs H Q →
    wpAny (model X.prog X.w) X.A (call (.builtin id) (v :: us)) (EP X pins σ Q) X.xe s
section
variable {X : Cx} {a b : Expr} {ta tb : TE} {pos : Pos}
theorem IxR.or {r r' : R2} (h : IxR X r) (h' : IxR X r') : IxR X (fun x y H Q => r x y H Q ∨ r' x y H Q) := by
  intro value slice pins s σ H x y v u Q I rx ry q hs
  rcases q with q | q
  · exact h value slice pins s σ H x y v u Q I rx ry q hs
  · exact h' value slice pins s σ H x y v u Q I rx ry q hs
theorem MtR.or {id : String} {r r' : V → List V → Hp → VK → Prop} (h : MtR X id r) (h' : MtR X id r') : MtR X id (fun x xs H Q => r x xs H Q ∨ r' x xs H Q) := by
  intro pins s σ H x xs v us Q I rx rs q
  rcases q with q | q
  · exact h pins s σ H x xs v us Q I rx rs q
  · exact h' pins s σ H x xs v us Q I rx rs q
/-- a[b] -/
theorem pe_ix {r : R2} (hr : IxR X r) (ha : PE X a ta) (hb : PE X b tb) (hs : PlainIx b) : PE X (.Subscript a b pos) (tOp r ta tb) := by
  intro pins s σ H Q I h
  exact Subscript_ (binT ha hb I h fun v u s2 x y H2 I2 rx ry q => hr a b pins s2 σ H2 x y v u Q I2 rx ry q (hs _ _))

def rIxL (K : PySem.W.Frag) : R2 := fun x y H Q => ∃ p xs i v, x = .ref p ∧ y = .int i ∧ SqL K H p xs ∧ atI xs i = some v ∧ Q v H
def rIxT (K : PySem.W.Frag) : R2 := fun x y H Q => ∃ p xs i v, x = .ref p ∧ y = .int i ∧ SqT K H p xs ∧ atI xs i = some v ∧ Q v H
theorem ix_list : IxR X (rIxL X.K) := by
  intro value slice pins s σ H x y v u Q I rx ry h hs
  obtain ⟨p, xs, i, z, rfl, rfl, hq, he, q⟩ := h
  cases rx
  obtain ⟨t, rfl⟩ := ry
  obtain ⟨its, r, pl, hz⟩ := I.list hq
  obtain ⟨j, h1, h2, h3, h4, h5⟩ := atI_get he
  obtain ⟨w, ew, rw'⟩ := r.get h2
  have hl := r.length
  have hn := line63
  have fin : EP X pins σ Q w s := ⟨z, H, I, rw', q⟩
  by_cases h0 : 0 ≤ i
  · have hj : i.toNat = j := by
      rw [seqIndex_of h0 h5] at h1
      exact Option.some.inj h1
    exact item_listR pl.isList h0 (by omega) (by rw [hj]; simpa using ew) fin hs
  · have hj : (i + (its.toArray.size : Int)).toNat = j := by
      rw [seqIndex_neg (by omega) h4] at h1
      rw [List.size_toArray, ← hl]
      exact Option.some.inj h1
    exact subscriptTail_builtinR (x := w) pl.isList.typeIs slot_list_getitem.lookup
      (wpAny_getItem_list_neg (Q := fun r s' => r = w ∧ EP X pins σ Q r s') pl.isList (by omega) (by rw [List.size_toArray] <;> omega) (by omega) (by rw [hj]; simpa using ew) ⟨rfl, fin⟩) hs
theorem ix_tup : IxR X (rIxT X.K) := by
  intro value slice pins s σ H x y v u Q I rx ry h hs
  obtain ⟨p, xs, i, z, rfl, rfl, hq, he, q⟩ := h
  cases rx
  obtain ⟨t, rfl⟩ := ry
  obtain ⟨its, r, pl, hz⟩ := I.tuple hq
  obtain ⟨j, h1, h2, h3, h4, h5⟩ := atI_get he
  obtain ⟨w, ew, rw'⟩ := r.get h2
  have hl := r.length
  have hn := line63
  have fin : EP X pins σ Q w s := ⟨z, H, I, rw', q⟩
  exact subscriptTail_builtinR (x := w) pl.typeIs slot_tuple_getitem.lookup
    (getItem_tuple (j := j) (Q := fun r s' => r = w ∧ EP X pins σ Q r s') pl (by omega) (by omega) (by rw [List.size_toArray, ← hl]; exact h1) (by simpa using ew) ⟨rfl, fin⟩) hs
/-- the list's object behind a store -/
theorem mapSeq_set (its : List Value) (n j : Nat) (u : Value) : Obj.mapSeq (·.setIfInBounds j u) { cls := .type "list", data := .seq its.toArray n } = { cls := .type "list", data := .seq (its.set j u).toArray n } := by
  simp [Obj.mapSeq]
theorem Inv.lst {pins : List (Addr × Obj)} {σ : St} {H : Hp} {s : Shared} {p : Addr} {xs : List V} (I : Inv X pins σ H s) (h : H p = some (.lst xs)) :
    ∃ (its : List Value) (n : Nat), Vals xs its ∧ s.heap.get? p = some { cls := .type "list", data := .seq its.toArray n } ∧ xs.length ≤ sizeLine := by
  obtain ⟨z, its, n, r, e⟩ := I.hok p _ h
  exact ⟨its, n, r, e, z⟩
/-- the list at p is written by an update of its object -/
theorem Inv.lstUpd {pins : List (Addr × Obj)} {σ : St} {H : Hp} {s : Shared} {p : Addr} {xs ys : List V} {its its' : List Value} {n n' : Nat} {f : Obj → Obj} (I : Inv X pins σ H s) (h : H p = some (.lst xs))
    (ho : s.heap.get? p = some { cls := .type "list", data := .seq its.toArray n }) (hf : f { cls := .type "list", data := .seq its.toArray n } = { cls := .type "list", data := .seq its'.toArray n' }) (r : Vals ys its') (hz : ys.length ≤ sizeLine) (t : Nat) :
    Inv X pins σ (upd H p (.lst ys)) { s with heap := s.heap.update p f, toks := t } := by
  have e : (s.heap.update p f).get? p = some { cls := .type "list", data := .seq its'.toArray n' } := by
    rw [Heap.get?_update_self f ho (by rw [hf] <;> rfl), hf]
  refine I.write (x := p) (e := p) (by rw [h]; trivial) (.inl rfl) (fun b u hb q => (Heap.get?_update_other _ _ (Ne.symm hb)).trans q) ⟨_, e⟩ ?_
  exact ⟨hz, its', n', r, e⟩
def rSetL : V → V → V → Hp → (Hp → Prop) → Prop := fun o i v H Q => ∃ p xs k j, o = .ref p ∧ i = .int k ∧ H p = some (.lst xs) ∧ ixN xs.length k = some j ∧ Q (upd H p (.lst (xs.set j v)))
theorem set_list : PSet X rSetL := by
  intro pins s σ H o i v ov iv u Q I ro ri rv h
  obtain ⟨p, xs, k, j, rfl, rfl, hp, hj, q⟩ := h
  cases ro
  obtain ⟨t, rfl⟩ := ri
  obtain ⟨its, n, r, ho, hz⟩ := I.lst hp
  obtain ⟨h1, h2, h3, h4⟩ := ixN_seq hj
  have hl := r.length
  have hn := line63
  have I' : Inv X pins σ (upd H p (.lst (xs.set j v))) { s with heap := s.heap.update p (Obj.mapSeq (·.setIfInBounds j u)) } :=
    I.lstUpd hp ho (mapSeq_set its n j u) (r.set rv j) (by rw [List.length_set]; exact hz) s.toks
  by_cases h0 : 0 ≤ k
  · have hk : k.toNat = j := by
      rw [seqIndex_of h0 h4] at h1
      exact Option.some.inj h1
    exact PySem.W.ki_setAt ho h0 (by omega) (by rw [List.size_toArray, ← hl]; exact h4) (by rw [hk]; exact ⟨_, I', q⟩)
  · have hk : (k + (its.toArray.size : Int)).toNat = j := by
      rw [seqIndex_neg (by omega) h3] at h1
      rw [List.size_toArray, ← hl]
      exact Option.some.inj h1
    exact PySem.W.ki_setBack ho (by omega) (by rw [List.size_toArray, ← hl]; exact h3) (by omega) (by rw [hk]; exact ⟨_, I', q⟩)

theorem slice_bounds (lo hi : Option Int) (n : Nat) : (sliceBounds lo hi none n).1 = ((HT.sIx n 0 lo : Nat) : Int) ∧ (sliceBounds lo hi none n).2.1 = ((HT.sIx n n hi : Nat) : Int) ∧ (sliceBounds lo hi none n).2.2 = 1 := by
  refine ⟨?_, ?_, rfl⟩
  · cases lo with
    | none => simp [sliceBounds, HT.sIx]
    | some i =>
      simp only [sliceBounds, HT.sIx, Option.getD_none, show (1 : Int) > 0 by decide, if_true]
      by_cases h : i < 0
      · simp only [h, if_true] <;> omega
      · simp only [h, if_false] <;> omega
  · cases hi with
    | none => simp [sliceBounds, HT.sIx]
    | some i =>
      simp only [sliceBounds, HT.sIx, Option.getD_none, show (1 : Int) > 0 by decide, if_true]
      by_cases h : i < 0
      · simp only [h, if_true] <;> omega
      · simp only [h, if_false] <;> omega
theorem slicePick_cut (its : List Value) (lo hi : Option Int) : slicePick its.toArray lo hi none = ((its.drop (HT.sIx its.length 0 lo)).take (HT.sIx its.length its.length hi - HT.sIx its.length 0 lo)).toArray := by
  obtain ⟨h1, h2, h3⟩ := slice_bounds lo hi its.toArray.size
  unfold slicePick
  rw [h1, h2, h3]
  simp only [sliceRange_one, pick_run, List.size_toArray] <;> rfl
/-- xs[lo:hi] of a list: a new list -/
def rSlL (K : PySem.W.Frag) : V → Option Int → Option Int → Hp → VK → Prop := fun x lo hi H Q => ∃ a xs, x = .ref a ∧ SqL K H a xs ∧ ∀ p, H p = none → Q (.ref p) (upd H p (.lst (cutV xs lo hi)))
theorem sl_list : SlR X (rSlL X.K) := by
  intro pins s σ H x v vl vu lo hi sl Q I rx hs pl pu h
  obtain ⟨a, xs, rfl, hx, q⟩ := h
  cases rx
  obtain ⟨its, r, ht, hz⟩ := I.list hx
  have hlen := r.length
  refine ⟨"list", _, slot_list_getitem.lookup, ht.isList.typeIs, ?_⟩
  refine wpAny_getItem_list_slice ht.isList hs pl pu .none (by simp) ?_ (by rw [List.size_toArray] <;> omega)
  rw [slicePick_cut, ← hlen]
  refine ⟨.ref s.heap.objs.size, _, I.laid (t' := s.toks) (o := .lst (cutV xs lo hi)) (fun b ob q => Heap.get?_push_of_some _ q) (Nat.le_refl _) ?_, rfl, q _ (I.hok.fresh (Nat.le_refl _))⟩
  exact ⟨Nat.le_trans (cutV_length xs lo hi) hz, _, 0, (r.drop (HT.sIx xs.length 0 lo)).take (HT.sIx xs.length xs.length hi - HT.sIx xs.length 0 lo), Heap.get?_push_size _ rfl⟩

def flatV : V → Bool
  | .non => true
  | .bl _ => true
  | .int _ => true
  | .str _ => true
  | _ => false
/-- == of flat values -/
def eqV : V → V → Bool
  | .non, .non => true
  | .bl a, .bl b => a == b
  | .bl a, .int b => (if a then 1 else 0) == b
  | .int a, .bl b => a == (if b then 1 else 0)
  | .int a, .int b => a == b
  | .str a, .str b => a == b
  | _, _ => false
theorem eqAt_V {A : Around} {s : Shared} {y x : V} {u v : Value} (ry : RelV y u) (rx : RelV x v) (fy : flatV y = true) (fx : flatV x = true) : SeqAt.EqAt A s u v (eqV y x) := by
  cases y with
  | non =>
    cases ry
    cases x with
    | non => cases rx; exact SeqAt.EqAt.same _
    | bl b => cases rx; exact SeqAt.EqAt.none_bool b
    | int b => obtain ⟨t, rfl⟩ := rx; exact SeqAt.EqAt.none_int b t
    | str b => obtain ⟨t, rfl⟩ := rx; exact SeqAt.EqAt.none_str b t
    | _ => exact absurd (show false = true from fx) Bool.false_ne_true
  | bl a =>
    cases ry
    cases x with
    | non => cases rx; exact SeqAt.EqAt.bool_none a
    | bl b => cases rx; exact SeqAt.EqAt.bool_bool a b
    | int b => obtain ⟨t, rfl⟩ := rx; exact SeqAt.EqAt.bool_int a b t
    | str b => obtain ⟨t, rfl⟩ := rx; exact SeqAt.EqAt.bool_str a b t
    | _ => exact absurd (show false = true from fx) Bool.false_ne_true
  | int a =>
    obtain ⟨t', rfl⟩ := ry
    cases x with
    | non => cases rx; exact SeqAt.EqAt.int_none a t'
    | bl b => cases rx; exact SeqAt.EqAt.int_bool a t' b
    | int b => obtain ⟨t, rfl⟩ := rx; exact SeqAt.EqAt.int_int a t' b t
    | str b => obtain ⟨t, rfl⟩ := rx; exact SeqAt.EqAt.int_str a t' b t
    | _ => exact absurd (show false = true from fx) Bool.false_ne_true
  | str a =>
    obtain ⟨t', rfl⟩ := ry
    cases x with
    | non => cases rx; exact SeqAt.EqAt.str_none a t'
    | bl b => cases rx; exact SeqAt.EqAt.str_bool a t' b
    | int b => obtain ⟨t, rfl⟩ := rx; exact SeqAt.EqAt.str_int a t' b t
    | str b => obtain ⟨t, rfl⟩ := rx; exact SeqAt.EqAt.str_str a t' b t
    | _ => exact absurd (show false = true from fx) Bool.false_ne_true
  | _ => exact absurd (show false = true from fy) Bool.false_ne_true
theorem call_len_seq : CallR X (.builtin "len") (fun xs H Q => ∃ p ys, xs = [.ref p] ∧ (SqL X.K H p ys ∨ SqT X.K H p ys) ∧ Q (.int ys.length) H) := by
  intro pins s σ H xs us Q I r h
  obtain ⟨p, ys, rfl, hq, q⟩ := h
  obtain ⟨u, rfl, rx⟩ := vals1 r
  cases rx
  have hn := line63
  rcases hq with hq | hq
  · obtain ⟨its, r', pl, hz⟩ := I.list hq
    have hlen := r'.length
    exact Calls.call_len_list pl.isList (by simp only [List.size_toArray] <;> omega) ⟨.int ys.length, H, I.tok _, ⟨s.toks + 1, by rw [List.size_toArray, hlen]⟩, q⟩
  · obtain ⟨its, r', pl, hz⟩ := I.tuple hq
    have hlen := r'.length
    exact len_tuple pl (by simp only [List.size_toArray] <;> omega) ⟨.int ys.length, H, I.tok _, ⟨s.toks + 1, by rw [List.size_toArray, hlen]⟩, q⟩
theorem CallR.or {f : Value} {r r' : List V → Hp → VK → Prop} (h : CallR X f r) (h' : CallR X f r') : CallR X f (fun xs H Q => r xs H Q ∨ r' xs H Q) := by
  intro pins s σ H xs us Q I rs q
  rcases q with q | q
  · exact h pins s σ H xs us Q I rs q
  · exact h' pins s σ H xs us Q I rs q
theorem call_list_of : CallR X (.type "list") (fun xs H Q => ∃ p ys, xs = [.ref p] ∧ (SqL X.K H p ys ∨ SqT X.K H p ys) ∧ ∀ l, H l = none → Q (.ref l) (upd H l (.lst ys))) := by
  intro pins s σ H xs us Q I r h
  obtain ⟨p, ys, rfl, hq, q⟩ := h
  obtain ⟨u, rfl, rx⟩ := vals1 r
  cases rx
  have fin : ∀ (its : List Value), Vals ys its → ys.length ≤ sizeLine → ∀ (h' : Heap) (c' : Nat), (∀ b o', s.heap.get? b = some o' → h'.get? b = some o') →
      h'.get? s.heap.objs.size = some { cls := .type "list", dict := none, data := .seq its.toArray c', slots := #[] } → EP X pins σ Q (.ref s.heap.objs.size) { s with heap := h' } := fun its r' hz h' c' kp e =>
    ⟨.ref s.heap.objs.size, _, I.laid (t' := s.toks) kp (Nat.le_refl _) (show ObjOk X.prog X.w _ h' _ (.lst ys) from ⟨hz, its, c', r', e⟩), rfl, q _ (I.hok.fresh (Nat.le_refl _))⟩
  rcases hq with hq | hq
  · obtain ⟨its, r', pl, hz⟩ := I.list hq
    have hlen := r'.length
    obtain ⟨o, ho, hc, n, hd⟩ := pl.isList
    exact call_list_seq p (.inl rfl) ho hc hd (fun h' c' kp e => fin its r' hz h' c' kp e) (by simp only [List.size_toArray] <;> omega)
  · obtain ⟨its, r', pl, hz⟩ := I.tuple hq
    have hlen := r'.length
    obtain ⟨o, ho, hc, n, hd⟩ := pl
    exact call_list_seq p (.inr rfl) ho hc hd (fun h' c' kp e => fin its r' hz h' c' kp e) (by simp only [List.size_toArray] <;> omega)
theorem call_tuple_of : CallR X (.type "tuple") (fun xs H Q => ∃ p ys, xs = [.ref p] ∧ ((SqL X.K H p ys ∧ ∀ l, H l = none → Q (.ref l) (upd H l (.tup ys))) ∨ (SqT X.K H p ys ∧ Q (.ref p) H))) := by
  intro pins s σ H xs us Q I r h
  obtain ⟨p, ys, rfl, h⟩ := h
  obtain ⟨u, rfl, rx⟩ := vals1 r
  cases rx
  rcases h with ⟨hq, q⟩ | ⟨hq, q⟩
  · obtain ⟨its, r', pl, hz⟩ := I.list hq
    have hlen := r'.length
    refine call_tuple_list pl.isList (fun h' kp => ?_) (by simp only [List.size_toArray] <;> omega)
    have I1 : Inv X pins σ H { s with heap := h' } := I.kept (t' := s.toks) kp
    have I2 : Inv X pins σ (upd H h'.objs.size (.tup ys)) { s with heap := h'.push { cls := .type "tuple", data := .seq its.toArray } } :=
      I1.laid (t' := s.toks) (fun b o e => Heap.get?_push_of_some _ e) (Nat.le_refl _) (show ObjOk X.prog X.w _ _ _ (.tup ys) from ⟨hz, its, r', IsTup.new _ _⟩)
    exact ⟨.ref h'.objs.size, _, I2, rfl, q _ (I1.hok.fresh (Nat.le_refl _))⟩
  · obtain ⟨its, r', pl, hz⟩ := I.tuple hq
    exact call_tuple_same pl ⟨.ref p, H, I, rfl, q⟩

/-- the value is of that builtin type -/
def tyV (K : PySem.W.Frag) (T : String) (x : V) (H : Hp) : Prop := match x with
  | .str _ => T = "str"
  | .int _ => T = "int"
  | .ref p => (T = "list" ∧ ∃ xs, SqL K H p xs) ∨ (T = "tuple" ∧ ∃ o, K.lookup p = some o ∧ o.cls = .type "tuple" ∧ o.dict = none) ∨
      (T = "dict" ∧ ((∃ kvs, H p = some (.dK kvs)) ∨ ∃ kvs, H p = some (.dT kvs))) ∨ (T = "set" ∧ ∃ S n, H p = some (.set S n))
  | _ => False
theorem tyV_is {pins : List (Addr × Obj)} {σ : St} {H : Hp} {s : Shared} {T : String} {x : V} {v : Value} (I : Inv X pins σ H s) (r : RelV x v) (ty : tyV X.K T x H) :
    s.TypeIs v T ∧ ∀ a, v = .ref a → ∃ ob, s.heap.get? a = some ob ∧ ob.dict = none := by
  cases x with
  | str z =>
    obtain ⟨t, rfl⟩ := r
    cases (show T = "str" from ty)
    exact ⟨typeIs_str s z t, fun _ e => nomatch e⟩
  | int i =>
    obtain ⟨t, rfl⟩ := r
    cases (show T = "int" from ty)
    exact ⟨typeIs_int s i t, fun _ e => nomatch e⟩
  | ref p =>
    cases r
    rcases ty with ⟨rfl, xs, hq⟩ | ⟨rfl, o, hk, hc, hd⟩ | ⟨rfl, hk⟩ | ⟨rfl, S, n, hk⟩
    · obtain ⟨its, _, pl, _⟩ := I.list hq
      refine ⟨pl.isList.typeIs, fun a e => ?_⟩
      cases e
      obtain ⟨o, n, e, c, hd, _⟩ := pl
      exact ⟨o, e, hd⟩
    · refine ⟨⟨o, I.kIn p o hk, hc⟩, fun a e => ?_⟩
      cases e
      exact ⟨o, I.kIn _ o hk, hd⟩
    · have z : ∃ o, s.heap.get? p = some o ∧ o.ExactDict := by
        rcases hk with ⟨kvs, hk⟩ | ⟨kvs, hk⟩
        · obtain ⟨_, _, _, _, o, _, _, e, ex, _⟩ := I.hok p _ hk
          exact ⟨o, e, ex⟩
        · obtain ⟨_, _, _, _, o, _, _, e, ex, _⟩ := I.hok p _ hk
          exact ⟨o, e, ex⟩
      obtain ⟨o, e, ex⟩ := z
      refine ⟨⟨o, e, ex.1⟩, fun a e2 => ?_⟩
      cases e2
      exact ⟨o, e, ex.2.1⟩
    · obtain ⟨o, _, _, _, e, ex, _⟩ := I.hok p _ hk
      refine ⟨⟨o, e, ex.1⟩, fun a e2 => ?_⟩
      cases e2
      exact ⟨o, e, ex.2.1⟩
  | _ => exact False.elim ty
def tBM0 (K : PySem.W.Frag) (T : String) (r : V → List V → Hp → VK → Prop) (to : TE) : TE := fun σ H Q => to σ H fun x H1 => tyV K T x H1 ∧ r x [] H1 Q
def tBM (K : PySem.W.Frag) (T : String) (r : V → List V → Hp → VK → Prop) (to : TE) (t : TA) : TE := fun σ H Q => to σ H fun x H1 => tyV K T x H1 ∧ t σ H1 fun xs H2 => r x xs H2 Q
variable {o e : Expr} {es : List Expr} {to : TE} {t : TA} {name : Str} {apos cpos : Pos} {T id : String} {r : V → List V → Hp → VK → Prop}
theorem pe_bm (pa : PlainAttrs T) (slot : Slot T name id) (hty : typeOf (.builtin id) = pure (.type "method_descriptor")) (hm : MtR X id r) (ho : PE X o to) (ha : PA X (e :: es) t)
    (hbase : attributeBase o name X.env (eval o X.env) = eval o X.env := by rfl)
    (hfew : ((backTo cpos (starEach (e :: es) X.env)).all (fun x => !x.1) && (backToKw cpos (keywordEach [] X.env)).all (fun x => x.1.isSome)
      && decide ((e :: es).length + ([] : List Keyword).length + (if ([] : List Keyword).isEmpty then 0 else 1) < 30)) = true := by rfl)
    (hline : (apos.endLine == cpos.line) = true := by rfl) (hs : starEach (e :: es) X.env = (false, eval e X.env) :: starEach es X.env := by rfl) (hplain : (backTo cpos (starEach es X.env)).any (·.1) = false := by rfl) :
    PE X (.Call (.Attribute o name apos) (e :: es) [] cpos) (tBM X.K T r to t) := by
  intro pins s σ H Q I h
  refine wpAny_Call_method_late hbase hfew hline rfl (thn (ho pins s σ H _ I h) fun v s1 ⟨x, H1, I1, r1, ty, q1⟩ => ?_)
  obtain ⟨h1, h2⟩ := tyV_is I1 r1 ty
  refine ⟨T, id, pa, slot, hty, h1, h2, ?_⟩
  have hA := ha cpos pins s1 σ H1 _ I1 q1
  rw [hs] at hA ⊢
  refine Calls.callWith_builtin (by show (false || (backTo cpos (starEach es X.env)).any (·.1)) = false; rw [hplain] <;> rfl) (Calls.evalArgs_plain ?_)
  exact thn hA fun us s2 ⟨vs, H2, I2, r2, q2⟩ => hm pins s2 σ H2 x vs v us Q I2 r1 r2 q2
end
end L2

namespace L2
open PySem PySem.Spec PyProof.Rows

def MtM (X : Cx) (id : String) (r : V → List V → Hp → VK → Prop) : Prop :=
  ∀ (pins : List (Addr × Obj)) (s : Shared) (σ : St) (H : Hp) (x : V) (xs : List V) (v : Value) (us : List Value) (Q : VK), Inv X pins σ H s → RelV x v → Vals xs us → r x xs H Q →
    wpAny (model X.prog X.w) X.A (call (.builtin id) (v :: us)) (EP X pins σ Q) X.xe s

theorem Vals.one : ∀ {x : V} {us : List Value}, Vals [x] us → ∃ u, us = [u] ∧ RelV x u
  | _, _, .cons r .nil => ⟨_, rfl, r⟩
theorem Vals.two : ∀ {x y : V} {us : List Value}, Vals [x, y] us → ∃ u v, us = [u, v] ∧ RelV x u ∧ RelV y v
  | _, _, _, .cons r (.cons q .nil) => ⟨_, _, rfl, r, q⟩
theorem Vals.zero : ∀ {us : List Value}, Vals [] us → us = []
  | _, .nil => rfl
section
variable {X : Cx} {pins : List (Addr × Obj)} {σ : St} {H : Hp} {s : Shared} {l b : Addr} {xs ys zs : List V}

theorem Inv.lset {its its' : List Value} {n : Nat} {f : Array Value → Array Value} {t' : Nat} (I : Inv X pins σ H s) (hH : H l = some (.lst xs))
    (e : s.heap.get? l = some { cls := .type "list", data := .seq its.toArray n }) (hf : f its.toArray = its'.toArray) (hv : Vals ys its') (hz : ys.length ≤ sizeLine) :
    Inv X pins σ (upd H l (.lst ys)) { s with heap := s.heap.update l (Obj.mapSeq f), toks := t' } := by
  have q := PySem.IsL.update e f
  rw [hf] at q
  refine I.write (x := l) (e := l) (by rw [hH]; exact trivial) (.inl rfl) (fun b' u hb hu => (Heap.get?_update_other s.heap (Obj.mapSeq f) (Ne.symm hb)).trans hu) ⟨_, q⟩ ?_
  exact ⟨hz, its', _, hv, q⟩
theorem Inv.lnew {its : List Value} {t' : Nat} (I : Inv X pins σ H s) (hv : Vals ys its) (hz : ys.length ≤ sizeLine) :
    Inv X pins σ (upd H s.heap.objs.size (.lst ys)) { s with heap := s.heap.push { cls := .type "list", data := .seq its.toArray }, toks := t' } :=
  I.laid (fun _ _ q => Heap.get?_push_of_some _ q) (Nat.le_refl _) ⟨hz, its, 0, hv, Heap.get?_push_size _ rfl⟩
theorem Inv.fresh (I : Inv X pins σ H s) : H s.heap.objs.size = none := I.hok.fresh (Nat.le_refl _)
theorem Inv.lstM (I : Inv X pins σ H s) (hH : H l = some (.lst xs)) : xs.length ≤ sizeLine ∧ ∃ (its : List Value) (n : Nat), Vals xs its ∧ xs.length = its.length ∧ s.heap.get? l = some { cls := .type "list", data := .seq its.toArray n } := by
  obtain ⟨z, its, n, r, e⟩ := I.hok l _ hH
  exact ⟨z, its, n, r, r.length, e⟩

end

section
variable {X : Cx}

def rAppend : V → List V → Hp → VK → Prop := fun x vs H Q => ∃ l xs y, x = .ref l ∧ vs = [y] ∧ H l = some (.lst xs) ∧ xs.length < sizeLine ∧ Q .non (upd H l (.lst (xs ++ [y])))
theorem mt_append : MtM X "list.append" rAppend := by
  intro pins s σ H x vs v us Q I rx rv h
  obtain ⟨l, xs, y, rfl, rfl, hH, hz, q⟩ := h
  cases rx
  obtain ⟨u, rfl, ru⟩ := rv.one
  obtain ⟨z, its, n, r, hl, e⟩ := I.lstM hH
  refine call_meets F.slot_list_append ⟨_, e, rfl⟩ F.entry_list_append (F.args_list_append_2 _ _) (PySem.list_append l its.toArray n u (by rw [List.size_toArray]; omega)) ⟨e, ?_⟩
  refine ⟨.non, _, I.lset (its' := its ++ [u]) hH e (by simp) (r.append (.cons ru .nil)) ?_, rfl, q⟩
  rw [List.length_append, List.length_singleton]
  omega

def rCat : R2 := fun x y H Q => ∃ l b xs zs, x = .ref l ∧ y = .ref b ∧ H l = some (.lst xs) ∧ H b = some (.lst zs) ∧ xs.length + zs.length ≤ sizeLine ∧ ∀ p, H p = none → Q (.ref p) (upd H p (.lst (xs ++ zs)))
theorem op_cat : OpR X (binaryOp .Add) rCat := by
  intro pins s σ H x y v u Q I rx ry h
  obtain ⟨l, b, xs, zs, rfl, rfl, hH, hB, hz, q⟩ := h
  cases rx
  cases ry
  obtain ⟨z, its, n, r, hl, e⟩ := I.lstM hH
  obtain ⟨z2, its2, n2, r2, hl2, e2⟩ := I.lstM hB
  refine PySem.P.add_list e e2 ?_ (by rw [List.size_toArray, List.size_toArray]; omega)
  have ea : its.toArray ++ its2.toArray = (its ++ its2).toArray := by simp
  rw [ea]
  exact ⟨.ref _, _, I.lnew (t' := s.toks) (r.append r2) (by rw [List.length_append]; omega), rfl, q _ I.fresh⟩
end

section
variable {prog : Program} {w : World} {A : Around} {E : Value → Shared → Prop} {s : Shared}
end

section
variable {X : Cx}
end
end L2

namespace Att
open PySem PySem.W PySem.Calls PyProof.Rows

theorem ints_of_wellAll {P : Params} {h : Heap} : ∀ (ns : List Int) (vs : List Value), WellAll P h vs (ns.map WData.int) → IntsAre vs ns := by
  intro ns
  induction ns with
  | nil =>
    intro vs w
    rw [List.map_nil] at w
    cases w
    exact .nil
  | cons n ns ih =>
    intro vs w
    rw [List.map_cons] at w
    cases w with
    | cons a b =>
      cases a
      exact .cons _ _ (ih _ b)

theorem script_of {l : OpenLaw} {n : Nat} (hn : l.most = some n) {P : Params} {h : Heap} {args : List WData} {vals : List Value}
    (hpre : l.row.toRowW.claim.pre args = true) (hwl : WellAll P h vals args) :
    ∃ a vs ns, vals = [Value.ref a] ∧ args = [WData.list (ns.map WData.int)] ∧ h.get? a = some { cls := .type "list", data := .seq vs.toArray } ∧ IntsAre vs ns ∧ ns.length ≤ n := by
  have hsh : WShape.hasAll [] args [.list .int] = true := (pre_splitW hpre).1
  have hc : l.pre.holds [] { args := args } = true := (pre_splitW hpre).2
  obtain ⟨d, r, rfl, h1, h2⟩ := hasAllW_cons hsh
  obtain rfl := hasAllW_nil h2
  obtain ⟨xs, rfl, h3⟩ := hasW_list h1
  obtain ⟨ns, rfl⟩ := items_int h3
  have hlen : ns.length ≤ n := by
    unfold OpenLaw.pre at hc
    have h4 : (WTm.not (.lt (.lit (.int (n : Int))) (.len (.arg 0)))).holds [] { args := [.list (ns.map .int)] } = true := by
      have h4 := (holds_andW hc).1
      rw [hn] at h4
      exact h4
    have h5 := condW_of h4 (w_not (w_lt w_lit (w_len_list (w_arg rfl))))
    rw [List.length_map] at h5
    refine Nat.le_of_not_lt fun q => ?_
    have q' : (n : Int) < ((ns.length : Nat) : Int) := by omega
    first
      | (rw [decide_eq_true q'] at h5; exact absurd h5 (by decide))
      | (simp at h5; omega)
  cases hwl with
  | cons w1 w2 =>
    cases w2
    cases w1 with
    | list ho hall => exact ⟨_, _, ns, rfl, rfl, ho, ints_of_wellAll ns _ hall, hlen⟩

theorem post_true (l : OpenLaw) (args : List WData) : l.row.toRowW.claim.post args (.bool true) args = true :=
  postW_of (r := l.row.toRowW) (X := (true == true))
    (show WShape.has [] (.bool true) .bool = true by first | rfl | decide | simp [WShape.has, WShape.arms, WShape.armsAll])
    (show (WTm.eq .res (.lit (.bool true))).value [] { args := args, res := some (.bool true), after := args } = some (.bool (true == true)) from w_eq_bool (w_res rfl) w_lit) rfl

/-- the same from a codeAny of the CALL (for a layer whose function contracts speak of calls) -/
theorem attach_call {l : OpenLaw} {n : Nat} {q : Program} {loose : List Str} {XP : (Str → Option Value) → Heap → Prop} {YP : World → Heap → Prop} {d : DefRec}
    (hn : l.most = some n) (hdf : d.params.defaults = [])
    (call : ∀ (w : World) (s₀ s₁ : Shared) (mg mb : Str → Option Value) (fa : Addr) (o : Obj) (pm cd doc : Value) (a : Addr) (vs : List Value) (ns : List Int),
      Ground q loose [] XP w s₀ mg mb s₁.heap → YP w s₁.heap →
      s₁.heap.get? fa = some o → o.data = .func (docDef d.name d.params d.body d.scope pm cd doc) → s₁.heap.CodeRec cd d.name → mg d.name = some (.ref fa) →
      s₁.heap.get? a = some { cls := .type "list", data := .seq vs.toArray } → IntsAre vs ns → ns.length ≤ n → s₁.gens = #[] →
      codeAny (model l.prog w) callerA (.call (.ref fa) ⟨[.ref a], []⟩) (fun r s' => r = .ok (.ret (.bool true)) ∧ OldK s₁.heap s'.heap ∧ s'.os = s₁.os ∧ AllBare s'.gens) s₁) :
    WalkO q loose XP YP l.row.toRowW d [] (fun f vs => PySem.call f vs) := by
  intro w s₀ s₁ mg mb G Y fa o pm cd doc dV kV ho hd hcd hD hmg hg args vals as hpre hlay hrd hwl hlo
  obtain rfl : dV = .none := Dflts.none hD hdf
  obtain rfl : kV = .none := Dflts.noKw hD
  obtain ⟨a, vs, ns, rfl, rfl, hobj, hints, hlen⟩ := script_of hn hpre hwl
  refine enter_call (codeAny_mono (call w s₀ s₁ mg mb fa o pm cd doc a vs ns G Y ho (fd_plain hd) hcd hmg hobj hints hlen hg) fun r s' hq => ?_)
  obtain ⟨rfl, h2, h3, h4⟩ := hq
  exact ⟨.inl ⟨.bool true, .bool true, [], rfl, fun _ => rfl, .bool true, post_true l _, fun _ => ⟨List.Pairwise.nil, fun _ hm => (nomatch hm)⟩⟩, h2, h3, h4⟩

section
variable {prog : Program} {w : World} {A : Around} {E : Value → Shared → Prop} {s : Shared} {K : Frag}

end
end Att

namespace L2
open PySem PySem.Spec PyProof.Rows

theorem vals_ints : ∀ {vs : List Value} {ns : List Int}, IntsAre vs ns → Vals (ns.map V.int) vs
  | _, _, .nil => .nil
  | _, _, .cons n t h => .cons ⟨t, rfl⟩ (vals_ints h)

/-- nothing is tracked but the script, known to the object (or it is an object of the module) -/
def Only (H : Hp) : Prop := ∀ b, H b = none ∨ ∃ o xs, H b = some (.frz o (.lst xs))

/-- THE HEAD: the law's promise, at the heap behind the top. F, the promise of the law's def, may use that base is part of the heap (so K.In base, base.Ns mainGlobals mg stand in Mod) -/
theorem law_call {P : Program} {w : World} {K : PySem.W.Frag} {mg mb : Str → Option Value} {CX : CXT} {k : Nat} {fa a : Addr} {fd : FuncData} {x : Str} {sp : Sp} {s₁ : Shared} {vs : List Value} {ns : List Int}
    (KX : K.In s₁.heap) (hns : s₁.heap.Ns mainGlobals mg) (hb : s₁.heap.Ns builtinsNs mb) (hbb : ∀ x : Str, x ≠ "__name__" → mb x = bootBuiltins x) (hlim : s₁.heap.NoLimit) (hg : s₁.gens = #[])
    (ha : s₁.heap.get? a = some { cls := .type "list", data := .seq vs.toArray }) (hi : IntsAre vs ns) (hl : ns.length ≤ sizeLine) (hr : Room k callerA)
    (F : ∀ base : Heap, K.In base → base.Ns mainGlobals mg → FnOk P w K mg base CX k fa fd [x] sp) (hbind : ∀ (s : Shared) (u : Value), BindsTo s fd ⟨[u], []⟩ [(x, u)])
    (hsp : ∀ H : Hp, Only H → SqL K H a (ns.map V.int) → sp [.ref a] H (fun v _ => v = .bl true) fun _ _ _ => False)
    (hCX : ∀ H e s', CX [] H s₁ (fun _ _ _ => False) e s' → False) :
    codeAny (model P w) callerA (.call (.ref fa) ⟨[.ref a], []⟩) (fun r s' => r = .ok (.ret (.bool true)) ∧ OldK s₁.heap s'.heap ∧ s'.os = s₁.os ∧ AllBare s'.gens) s₁ := by
  have rv := vals_ints hi
  have lenV := hi.length
  -- from an abstract heap in which nothing but the script may be tracked
  have core : ∀ H : Hp, Only H → SqL K H a (ns.map V.int) → HOk P w H s₁.heap → (∀ b, H b ≠ none → b = a) → (H a ≠ none → K.lookup a = none) →
      codeAny (model P w) callerA (.call (.ref fa) ⟨[.ref a], []⟩) (fun r s' => r = .ok (.ret (.bool true)) ∧ OldK s₁.heap s'.heap ∧ s'.os = s₁.os ∧ AllBare s'.gens) s₁ := by
    intro H hO hS hok hA hK
    have base_of : ∀ {b : Addr} {o : Obj}, s₁.heap.get? b = some o → H b = none → (hidT s₁.heap H).get? b = some o := fun e n => hidT_get e n
    have noA : ∀ {b : Addr} {o : Obj} {es : Array DictEntry} {ep : Nat}, s₁.heap.get? b = some o → o.data = .dict es ep → H b = none := fun {b o es ep} e d => by
      cases q : H b with
      | none => rfl
      | some u =>
        have e' : b = a := hA b (by rw [q]; simp)
        subst e'
        rw [ha] at e; cases e
        have d' : Data.seq vs.toArray _ = Data.dict es ep := d
        cases d'
    have nsK : ∀ {b : Addr} {m : Str → Option Value}, s₁.heap.Ns b m → (hidT s₁.heap H).Ns b m := fun {b m} ⟨o, es, ep, e, d, r⟩ => ⟨o, es, ep, base_of e (noA e d), d, r⟩
    have hKb : K.In (hidT s₁.heap H) := fun b o e => base_of (KX b o e) (by
      cases q : H b with
      | none => rfl
      | some u =>
        have e' : b = a := hA b (by rw [q]; simp)
        subst e'
        rw [hK (by rw [q]; simp)] at e; cases e)
    have hM : Mod K mg (hidT s₁.heap H) := ⟨hKb, nsK hns, ⟨mb, nsK hb, hbb⟩, let ⟨mc, h1, h2⟩ := hlim; ⟨mc, nsK h1, h2⟩⟩
    have e0 : Env0 P w K mg (hidT s₁.heap H) callerA [] s₁ H := ⟨rfl, hM, fun b o e => of_hidT e, Nat.le_of_eq (hidT_size _ _), trivial, fun b hb => absurd (show b ∈ ([] : List Addr) from hb) (by simp), hok, .of_eq hg⟩
    refine codeAny_mono ((F _ hKb (nsK hns)).run callerA [] s₁ H ⟨[.ref a], []⟩ [.ref a] [.ref a] _ _ hr e0 (hbind s₁ (.ref a)) (.cons rfl .nil) (hsp H hO hS)) fun r s' h => ?_
    cases r with
    | error e => exact (hCX H e s' h).elim
    | ok fl =>
      cases fl with
      | next => exact False.elim h
      | brk => exact False.elim h
      | cont => exact False.elim h
      | ret u =>
        obtain ⟨v, H', os, bare, un, hok', r', q⟩ := h
        have q' : v = .bl true := q
        subst q'
        obtain rfl : u = Value.bool true := r'
        refine ⟨rfl, OldK.of_keep fun b o e => ?_, os, bare⟩
        cases q : H b with
        | none => exact un.keep b o e q (by intro z; exact absurd (show b ∈ ([] : List Addr) from z) (by simp)) (by simp)
        | some u =>
          rcases hO b with z | ⟨ob, xs, z⟩
          · rw [q] at z; cases z
          · have z2 := un.frzs b ob _ z
            obtain ⟨e1, _⟩ := hok b _ z
            obtain ⟨e2, _⟩ := hok' b _ z2
            rw [e] at e1; cases e1
            exact e2
  cases hk : K.lookup a with
  | some o =>
    -- the script is one of the module's own objects
    have e := KX a o hk
    rw [ha] at e
    cases e
    refine core (fun _ => none) (fun _ => .inl rfl) (.inr ⟨_, vs.toArray, _, hk, rfl, rfl, rfl, by rw [List.size_toArray, lenV]; exact hl, by simpa using rv⟩) (fun b u z => by have z' : (none : Option HO) = some u := z; cases z') (fun b z => absurd rfl z) fun z => absurd rfl z
  | none =>
    refine core (fun b => if b = a then some (.frz { cls := .type "list", data := .seq vs.toArray } (.lst (ns.map V.int))) else none) (fun b => ?_) (.inl (.inr ⟨{ cls := .type "list", data := .seq vs.toArray }, if_pos rfl⟩)) (fun b u z => ?_) (fun b z => ?_) fun _ => hk
    · by_cases hb : b = a
      · exact .inr ⟨_, _, if_pos hb⟩
      · exact .inl (if_neg hb)
    · by_cases hb : b = a
      · have z' := (if_pos hb).symm.trans z
        cases z'
        subst hb
        exact ⟨ha, by rw [List.length_map]; exact hl, vs, _, rv, ha⟩
      · have z' := (if_neg hb).symm.trans z
        cases z'
    · by_cases hb : b = a
      · exact hb
      · exact absurd (if_neg hb) z
end L2

namespace L2
open PySem PySem.Spec PyProof.Rows

abbrev KOf {K : PySem.W.Frag} {h : Heap} (_ : K.In h) : PySem.W.Frag := K

/-- the goal that k_head leaves (case hc), from the law's promise. F gives the function object fd (K's own) once, then the promise over every base -/
theorem walk_of {l : PySem.W.OpenLaw} {n k : Nat} {q : Program} {loose : List Str} {XP : (Str → Option Value) → Heap → Prop} {YP : World → Heap → Prop} {d : DefRec} {K : Params → PySem.W.Frag} {CX : World → CXT} {sp : World → Sp} {x : Str}
    (hn : l.most = some n) (hn2 : n ≤ sizeLine) (hdf : d.params.defaults = []) (hr : Room k callerA)
    (hY : ∀ (w : World) (h : Heap), YP w h → (K w.params).In h)
    (F : ∀ (w : World) (mg : Str → Option Value) (fa : Addr) (h : Heap), (K w.params).In h → h.Ns mainGlobals mg → mg d.name = some (.ref fa) →
      ∃ fd : FuncData, (∀ (s : Shared) (u : Value), BindsTo s fd ⟨[u], []⟩ [(x, u)]) ∧
        ∀ base : Heap, (K w.params).In base → base.Ns mainGlobals mg → FnOk l.prog w (K w.params) mg base (CX w) k fa fd [x] (sp w))
    (hsp : ∀ (w : World) (H : Hp) (a : Addr) (ns : List Int), ns.length ≤ n → Only H → SqL (K w.params) H a (ns.map V.int) → sp w [.ref a] H (fun v _ => v = .bl true) fun _ _ _ => False)
    (hCX : ∀ (w : World) (H : Hp) (s : Shared) (e : Value) (s' : Shared), CX w [] H s (fun _ _ _ => False) e s' → False) :
    PySem.W.WalkO q loose XP YP l.row.toRowW d [] (fun f vs => PySem.call f vs) := by
  refine Att.attach_call hn hdf fun w s₀ s₁ mg mb fa o pm cd doc a vs ns G Y ho hd hcd hmg hobj hints hlen hg => ?_
  have KX := hY w _ Y
  obtain ⟨fd, hb, hF⟩ := F w mg fa _ KX G.T.g hmg
  exact law_call KX G.T.g G.T.b G.T.builtins G.T.nolimit hg hobj hints (Nat.le_trans hlen hn2) hr hF hb (fun H hO hS => hsp w H a ns hlen hO hS) fun H e s' => hCX w H s₁ e s'
end L2

/- THE LAST THEOREM (shape; LID, My.* are yours):
   My.Adr: a structure of the addresses that your layer names (classes, functions); My.Txt K t: a structure (Prop) of the equations over K;
   My.txt_mk : {K} {implicit addresses ..} (e1 : nsIn K mainGlobals "law" = some (some (.ref f))) (e2 : K.lookup f = some ⟨oc, od, .func (fnOf "law" "law" params body scope dV kV doc pm an cdv ct), sl⟩) (e3 : codeIn K cdv "law" = true) .. : ∃ t, My.Txt K t

set_option maxRecDepth 100000 in
set_option maxHeartbeats 0 in
theorem PySem.Challenge.cw_LID_holds : PySem.Challenge.rw_LID.Holds := by
  w_on; o_law; k_head; (case hw => w_witness2)
  k_fill
  refine L2.walk_of (l := PySem.Challenge.rw_LID) (n := 63) (k := 40) (x := "script") (CX := fun w => ..) (sp := fun _ => My.sp_law) rfl (by decide) rfl ⟨rfl, by decide, by decide⟩ (fun w h Y => PySem.W.kIn_of Y) ?F ?S ?C
  case F =>
    intro w mg fa h KX G hmg
    have T : ∃ t, My.Txt (L2.KOf KX) t := by
      dsimp only [L2.KOf]                          -- K must stand as «<heap const> w.params» for k_is
      refine' My.txt_mk ?e1 ?e2 ?e3 ..
      (case e1 => PySem.W.k_is)                    -- in the order: a name -> its address -> its object -> its parts
      (case e2 => PySem.W.k_is)
      ..
    obtain ⟨t, T⟩ := T
    have e0 := hmg.symm.trans (PySem.W.mg_of KX G T.law)
    cases e0                                       -- fa is the law's own address
    exact ⟨_, fun s u => .of_eq rfl, fun base kb nb => My.law_fn T kb nb⟩     -- if «.of_eq rfl» comes too early: refine' ⟨_, ?b, fun base kb nb => My.law_fn T kb nb⟩; exact fun s u => .of_eq rfl
  case S => exact fun w H a ns hl hO hS => ..
  case C => exact ..
(the tactic k_is has no namespace: write k_is) -/

namespace L2
open PySem PySem.Spec PyProof.Rows

/-- the j-th statement of a class's body -/
def inClass (s : Stmt) (j : Nat) : Stmt := match s with
  | .ClassDef _ _ _ body _ _ _ _ _ _ _ => body.getD j (.Pass ⟨0, 0, 0, 0⟩)
  | _ => .Pass ⟨0, 0, 0, 0⟩
def defArgs (s : Stmt) : Arguments := match s with
  | .FunctionDef _ a _ _ _ _ _ _ _ _ => a
  | _ => { posonlyargs := [], args := [], vararg := none, kwonlyargs := [], kw_defaults := [], kwarg := none, defaults := [] }
def defBody (s : Stmt) : List Stmt := match s with
  | .FunctionDef _ _ b _ _ _ _ _ _ _ => b
  | _ => []
def defScope (s : Stmt) : Scope := match s with
  | .FunctionDef _ _ _ _ _ _ sc _ _ _ => sc
  | _ => { kind := .function, names := [], isGenerator := false, isCoroutine := false }

abbrev CX0 : CXT := fun _ _ _ _ _ _ => False
abbrev E0 : XK := fun _ _ _ => False
theorem pass0 {X : Cx} : Passes CX0 X E0 := fun _ _ _ _ _ _ _ h => h.elim

structure Fun (K : PySem.W.Frag) (x qual : Str) (st : Stmt) (f : Addr) (fd : FuncData) : Prop where
  ex : ∃ (oc : Value) (od : Option Addr) (kV doc pm : Value) (an : Option Addr) (cdv ct : Value) (osl : Array (Option Value)),
    fd = PySem.W.fnOf x qual (defArgs st) (defBody st) (defScope st) .none kV doc pm an cdv ct ∧ K.lookup f = some ⟨oc, od, .func fd, osl⟩ ∧ PySem.W.codeIn K cdv qual = true
  kp : PySem.W.keepIn K (.ref f) = true
section
variable {P : Program} {w : World} {K : PySem.W.Frag} {mg : Str → Option Value} {base : Heap}
/-- THE RULE for a def: its body as a term of rules, and the reading of that term -/
theorem Fun.ok {x qual : Str} {st : Stmt} {f : Addr} {fd : FuncData} {N ps : List Str} {k : Nat} {sp : Sp} (F : Fun K x qual st f fd) (S : FnScope N ps (defScope st)) (len : ∀ vs H Q E, sp vs H Q E → vs.length = ps.length)
    (hbody : ∀ (cdv : Value) (A : Around) (outer : List Env) (s : Shared) (H : Hp) (vs : List V) (Q : VK) (E : XK), Room k (A.deeper (envOfC qual (defScope st) s.heap.objs.size f cdv)) → sp vs H Q E →
      ∃ t, PSs (cxOf CX0 P w K mg base N qual (defScope st) f cdv A outer s H E).nox (defBody st) t ∧ t { nx := fun _ H' => Q .non H', rt := Q } (start N vs) H) : FnOk P w K mg base CX0 (k + 1) f fd ps sp := by
  obtain ⟨oc, od, kV, doc, pm, an, cdv, ct, osl, rfl, lk, hcd⟩ := F.ex
  refine fn_of lk hcd S len fun A outer s H vs Q E hr hsp => ?_
  obtain ⟨t, h, q⟩ := hbody cdv A outer s H vs Q E hr hsp
  exact ⟨t, h.nox, q⟩
/-- how its arguments bind (no defaults): h is «fun _ _ _ _ _ _ us hl => match us, hl with | [_, _], _ => rfl», one _ a parameter -/
theorem Fun.binds {x qual : Str} {st : Stmt} {f : Addr} {fd : FuncData} {ps : List Str} (F : Fun K x qual st f fd)
    (h : ∀ (kV doc pm : Value) (an : Option Addr) (cdv ct : Value) (us : List Value), us.length = ps.length → bindArgs (PySem.W.fnOf x qual (defArgs st) (defBody st) (defScope st) .none kV doc pm an cdv ct) ⟨us, []⟩ = pure (ps.zip us)) : Binds K fd ps [] := by
  obtain ⟨oc, od, kV, doc, pm, an, cdv, ct, osl, rfl, lk, hcd⟩ := F.ex
  exact .all (h kV doc pm an cdv ct)
theorem fun_mk {x qual : Str} {st : Stmt} {f : Addr} {oc : Value} {od an : Option Addr} {osl : Array (Option Value)} {kV doc pm cdv ct : Value} (l : K.lookup f = some ⟨oc, od, .func (PySem.W.fnOf x qual (defArgs st) (defBody st) (defScope st) .none kV doc pm an cdv ct), osl⟩)
    (c : PySem.W.codeIn K cdv qual = true) (k : PySem.W.keepIn K (.ref f) = true) : Fun K x qual st f (PySem.W.fnOf x qual (defArgs st) (defBody st) (defScope st) .none kV doc pm an cdv ct) := ⟨⟨oc, od, kV, doc, pm, an, cdv, ct, osl, rfl, l, c⟩, k⟩
end
theorem small1000 {n : Nat} (h : n ≤ 1000) : n < sizeLine := Nat.lt_of_le_of_lt h (by decide)

section
variable {X : Cx}
theorem pv (i : Nat) {x : Str} {pos : Pos} (hN : X.N[i]? = some x := by rfl) (hv : Vis X.env.scope x := by first | exact Or.inl rfl | exact Or.inr (Or.inl rfl) | exact Or.inr (Or.inr rfl)) (hd : (x == ("__debug__" : Str)) = false := by decide)
    (hcd : (x == ("__classdict__" : Str)) = false := by decide) : PE X (.Name x pos) (tVar i) := pe_var hN hv hd hcd
end

theorem iteF {A B : Prop} (h : B) : if false = true then A else B := by
  rw [if_neg Bool.false_ne_true]
  exact h
theorem iteT {A B : Prop} (h : A) : if true = true then A else B := by
  rw [if_pos rfl]
  exact h
theorem iteNS {c A B : Prop} [Decidable c] (hc : c) (h : B) : if (!decide c) = true then A else B := by
  rw [decide_eq_true hc]
  exact iteF h

/-- all that was tracked is as it was -/
def Same (H H' : Hp) : Prop := ∀ b o, H b = some o → H' b = some o
theorem Same.refl (H : Hp) : Same H H := fun _ _ h => h
theorem Same.trans {H H1 H2 : Hp} (a : Same H H1) (b : Same H1 H2) : Same H H2 := fun c o h => b c o (a c o h)
theorem Same.free {H H' : Hp} (e : Same H H') {l : Addr} (h : H' l = Option.none) : H l = Option.none := by
  cases q : H l with
  | none => rfl
  | some o =>
    rw [e l o q] at h
    cases h
theorem Same.seq {K : PySem.W.Frag} {H H' : Hp} {a : Addr} {xs : List V} (e : Same H H') (h : SqL K H a xs) : SqL K H' a xs := by
  rcases h with (h | ⟨o, h⟩) | h
  · exact .inl (.inl (e _ _ h))
  · exact .inl (.inr ⟨o, e _ _ h⟩)
  · exact .inr h

end L2

set_option Elab.async false
set_option linter.all false
set_option maxRecDepth 100000
set_option maxHeartbeats 4000000
namespace L2
open PySem PySem.Spec PyProof.Rows

def Bt (k : Nat) (x : Int) : Prop := x.natAbs < 2 ^ k
theorem Bt.bits {k : Nat} {x : Int} (h : Bt k x) : Builtin.Int.intBits x ≤ k := PySem.intBits_le_iff.mpr h
theorem Bt.mono {k m : Nat} {x : Int} (h : Bt k x) (l : k ≤ m) : Bt m x := Nat.lt_of_lt_of_le h (Nat.pow_le_pow_right (by decide) l)
theorem Bt.le {k : Nat} {x y : Int} (h : Bt k y) (l : x.natAbs ≤ y.natAbs) : Bt k x := Nat.lt_of_le_of_lt l h
theorem Bt.mul {k m : Nat} {x y : Int} (h : Bt k x) (g : Bt m y) : Bt (k + m) (x * y) := by
  unfold Bt at *
  rw [Int.natAbs_mul, Nat.pow_add]
  exact Nat.mul_lt_mul'' h g
theorem Bt.add {k : Nat} {x y : Int} (h : Bt k x) (g : Bt k y) : Bt (k + 1) (x + y) := by
  unfold Bt at *
  have := Int.natAbs_add_le x y
  rw [Nat.pow_succ]; omega
theorem Bt.neg {k : Nat} {x : Int} (h : Bt k x) : Bt k (-x) := by unfold Bt at *; omega
def CMulB (i j : Int) : Prop := ∃ n m : Nat, Bt n i ∧ Bt m j ∧ n + m ≤ 134217728
theorem CMulB.ok {i j : Int} (h : CMulB i j) : IntMulOk i j := by
  obtain ⟨n, m, h1, h2, h3⟩ := h
  have a := h1.bits
  have b := h2.bits
  have hs : ((Builtin.Int.intBits i + Builtin.Int.intBits j : Nat) : Int) ≤ 2 ^ 27 := by
    have e : (2 : Int) ^ 27 = 134217728 := by decide
    rw [e]; omega
  have hb : Builtin.Int.intTooBig ((Builtin.Int.intBits i + Builtin.Int.intBits j : Nat) : Int) = false := decide_eq_false (Int.not_lt.mpr hs)
  unfold IntMulOk
  first
    | (rw [show (((Builtin.Int.intBits i : Nat) : Int) + ((Builtin.Int.intBits j : Nat) : Int)) = ((Builtin.Int.intBits i + Builtin.Int.intBits j : Nat) : Int) by omega, hb]; simp)
    | (rw [hb]; simp)
    | (intro z; simp only [Bool.and_eq_true] at z; simp_all)
section
variable {X : Cx} {a b c : Expr} {ta tb tc : TE} {pos : Pos}
theorem op_mulB : OpR X (binaryOp .Mult) (rI CMulB fun i j => .int (i * j)) := opI fun _ _ _ _ _ _ _ hc q => mul_int q hc.ok
theorem log2_lt9000 {j : Int} (h : Bt 9000 j) : j.natAbs.log2 < 9000 := by
  by_cases h0 : j.natAbs = 0
  · rw [h0]; decide +kernel
  · exact (Nat.log2_lt h0).mpr h
def CDivB (_ j : Int) : Prop := 0 < j ∧ Bt 9000 j
def CDivF (_ j : Int) : Prop := j ≠ 0 ∧ Bt 9000 j
theorem op_fdivB : OpR X (binaryOp .FloorDiv) (rI CDivB fun i j => .int (i / j)) := opI fun i j _ _ _ _ _ hc q => by
  have h1 : (0 : Int) < j := hc.1
  exact floordiv_int (by omega) (by rw [Int.fdiv_eq_ediv_of_nonneg i (by omega)]; exact q) (.inl (PyProof.noPylong_of_log2 (log2_lt9000 hc.2)))
theorem op_fdivF : OpR X (binaryOp .FloorDiv) (rI CDivF fun i j => .int (i.fdiv j)) := opI fun i j _ _ _ _ _ hc q =>
  floordiv_int hc.1 q (.inl (PyProof.noPylong_of_log2 (log2_lt9000 hc.2)))
def rIsi (K : PySem.W.Frag) : List V → Hp → VK → Prop := fun xs H Q => ∃ x c t b, xs = [x, .ty c] ∧ TyOf K H x t ∧ PySem.W.kitOne K t (.type c) = some b ∧ Q (.bl b) H
theorem call_isi : CallR X (.builtin "isinstance") (rIsi X.K) := by
  intro pins s σ H xs us Q I r h
  obtain ⟨x, c, t, b, rfl, ty, e, q⟩ := h
  obtain ⟨u, w', rfl, r1, r2⟩ := vals2 r
  cases (show w' = Value.type c from r2)
  exact isinst_ok I r1 ty e fun tk => ⟨.bl b, H, I.tok tk, rfl, q⟩

def eqVs : List V → List V → Bool
  | [], [] => true
  | x :: xs, y :: ys => eqV x y && eqVs xs ys
  | _, _ => false
theorem eqVs_range : ∀ {xs ys : List V} {us ws : List Value}, Vals xs us → Vals ys ws → xs.all flatV = true → ys.all flatV = true →
    ∃ e : Nat → Bool, (∀ (A : Around) (s : Shared) (j : Nat) (h1 : j < us.toArray.size) (h2 : j < ws.toArray.size), SeqAt.EqAt A s us.toArray[j] ws.toArray[j] (e j)) ∧
      ((List.range (min us.toArray.size ws.toArray.size)).all e && us.toArray.size == ws.toArray.size) = eqVs xs ys
  | [], [], _, _, .nil, .nil, _, _ => ⟨fun _ => true, fun _ _ j h1 _ => absurd h1 (by simp), rfl⟩
  | [], y :: ys, _, _, .nil, .cons _ _, _, _ => ⟨fun _ => true, fun _ _ j h1 _ => absurd h1 (by simp), by simp [eqVs]⟩
  | x :: xs, [], _, _, .cons _ _, .nil, _, _ => ⟨fun _ => true, fun _ _ j _ h2 => absurd h2 (by simp), by simp [eqVs]⟩
  | x :: xs, y :: ys, u :: us, w :: ws, .cons r t, .cons r' t', f, f' => by
    rw [List.all_cons, Bool.and_eq_true] at f f'
    obtain ⟨e, h1, h2⟩ := eqVs_range t t' f.2 f'.2
    refine ⟨fun j => match j with | 0 => eqV x y | j + 1 => e j, ?_, ?_⟩
    · intro A s j k1 k2
      cases j with
      | zero => simpa using eqAt_V r r' f.1 f'.1
      | succ j =>
        have k := h1 A s j (by simpa using k1) (by simpa using k2)
        simp only [List.getElem_toArray, List.getElem_cons_succ] at k ⊢
        exact k
    · show _ = (eqV x y && eqVs xs ys)
      rw [← h2]
      have e1 : min (u :: us).toArray.size (w :: ws).toArray.size = min us.toArray.size ws.toArray.size + 1 := by simp
      rw [e1, List.range_succ_eq_map, List.all_cons, List.all_map, Bool.and_assoc]
      congr 2
      simp
structure Cal (P : Program) (w : World) (K : PySem.W.Frag) (mg : Str → Option Value) (base : Heap) (k : Nat) (x : Str) (ps : List Str) (sp : Sp) : Prop where
  ex : ∃ (f : Addr) (fd : FuncData), FnOk P w K mg base CX0 k f fd ps sp ∧ Binds K fd ps [] ∧ PySem.W.keepIn K (.ref f) = true ∧ mg x = some (.ref f)
theorem pe_cal {k : Nat} {x : Str} {ps : List Str} {sp : Sp} {e : Expr} {es : List Expr} {t : TA} {p : Pos} (C : Cal X.prog X.w X.K X.mg X.base k x ps sp) (hr : Room k X.A) (hg : Gl X x) (ha : PA X (e :: es) t)
    (hdb : (x == ("__debug__" : Str)) = false := by decide) (he : starEach (e :: es) X.env = (false, eval e X.env) :: starEach es X.env := by rfl) (hpl : (backTo pos (starEach es X.env)).any (·.1) = false := by rfl) :
    PE X (.Call (.Name x p) (e :: es) [] pos) (tCall sp [] E0 t) := by
  obtain ⟨f, fd, F, b, kp, m⟩ := C.ex
  exact pe_call F hr hg m kp b .nil pass0 ha hdb he hpl

def tCut (t : TS) : TS := fun D σ H => ∃ J : St → Hp → Prop, t { D with nx := J } σ H ∧ ∀ σ' H', J σ' H' → D.nx σ' H'
theorem ps_cut {st : Stmt} {t : TS} (h : PS X st t) : PS X st (tCut t) := by
  intro pins s σ H D I hw
  obtain ⟨J, h1, h2⟩ := hw
  refine thn (h pins s σ H { D with nx := J } I h1) fun f s1 q => ?_
  cases f with
  | next =>
    obtain ⟨σ', H', I', q⟩ := q
    exact ⟨σ', H', I', h2 _ _ q⟩
  | ret v => exact q
  | brk => exact q
  | cont => exact q
theorem rd_cut {t : TS} {D : Ends} {σ : St} {H : Hp} (J : St → Hp → Prop) (h1 : t { D with nx := J } σ H) (h2 : ∀ σ' H', J σ' H' → D.nx σ' H') : tCut t D σ H := ⟨J, h1, h2⟩
theorem rd_var {i : Nat} {σ : St} {H : Hp} {Q : VK} {v : V} (e : σ[i]? = some (some v)) (h : Q v H) : tVar i σ H Q := ⟨v, e, h⟩
theorem rd_c {v : V} {σ : St} {H : Hp} {Q : VK} (h : Q v H) : tC v σ H Q := h
theorem rd_op {r : R2} {σ : St} {H : Hp} {Q : VK} (h : ta σ H fun x H1 => tb σ H1 fun y H2 => r x y H2 Q) : tOp r ta tb σ H Q := h
theorem rd_un {r : V → Hp → VK → Prop} {σ : St} {H : Hp} {Q : VK} (h : ta σ H fun x H1 => r x H1 Q) : tUn r ta σ H Q := h
theorem rd_i0 {g : Int → Int → V} {i j : Int} {H : Hp} {Q : VK} (h : Q (g i j) H) : rI0 g (.int i) (.int j) H Q := ⟨i, j, rfl, rfl, h⟩
theorem rd_i {C : Int → Int → Prop} {g : Int → Int → V} {i j : Int} {H : Hp} {Q : VK} (c : C i j) (h : Q (g i j) H) : rI C g (.int i) (.int j) H Q := ⟨i, j, rfl, rfl, c, h⟩
theorem rd_u {g : Int → V} {i : Int} {H : Hp} {Q : VK} (h : Q (g i) H) : rU g (.int i) H Q := ⟨i, rfl, h⟩
theorem rd_eq {x y : V} {H : Hp} {Q : VK} (s : scal x y = true) (h : Q (.bl (decide (x = y))) H) : rEq x y H Q := ⟨s, h⟩
theorem rd_ne {x y : V} {H : Hp} {Q : VK} (s : scal x y = true) (h : Q (.bl (!decide (x = y))) H) : rNe x y H Q := ⟨s, h⟩
theorem rd_test {t : TE} {σ : St} {H : Hp} {Q : Bool → Hp → Prop} (h : t σ H fun x H' => ∃ k, x = .bl k ∧ Q k H') : tTest t σ H Q := h
theorem rd_b {t : TE} {σ : St} {H : Hp} {Q : Bool → Hp → Prop} (h : t σ H fun x H' => ∃ k, x = .bl k ∧ Q k H') : L2.tB t σ H Q := h
theorem rd_bl {k : Bool} {Q : Bool → Prop} (h : Q k) : ∃ k', V.bl k = .bl k' ∧ Q k' := ⟨k, rfl, h⟩
theorem rel_ty (n : String) : RelV (.ty n) (.type n) := rfl
theorem rel_int (i : Int) (t : Tok) : RelV (.int i) (.int i t) := ⟨t, rfl⟩
theorem rd_not {t : TT} {σ : St} {H : Hp} {Q : Bool → Hp → Prop} (h : t σ H fun c H1 => Q (!c) H1) : tNot t σ H Q := h
theorem rd_and {t u : TT} {σ : St} {H : Hp} {Q : Bool → Hp → Prop} (h : t σ H fun c H1 => if c = true then u σ H1 Q else Q false H1) : tAnd t u σ H Q := h
theorem rd_or {t u : TT} {σ : St} {H : Hp} {Q : Bool → Hp → Prop} (h : t σ H fun c H1 => if c = true then Q true H1 else u σ H1 Q) : tOr t u σ H Q := h
theorem rd_andV {σ : St} {H : Hp} {Q : VK} (h : ta σ H fun x H1 => ∃ c, x = .bl c ∧ if c = true then tb σ H1 Q else Q (.bl false) H1) : tAndV ta tb σ H Q := h
theorem rd_orV {σ : St} {H : Hp} {Q : VK} (h : ta σ H fun x H1 => ∃ c, x = .bl c ∧ if c = true then Q (.bl true) H1 else tb σ H1 Q) : tOrV ta tb σ H Q := h
theorem rd_notV {σ : St} {H : Hp} {Q : VK} (h : ta σ H fun x H1 => ∃ c, x = .bl c ∧ Q (.bl (!c)) H1) : tNotV ta σ H Q := h
theorem rd_chain {r r' : R2} {σ : St} {H : Hp} {Q : VK} (h : ta σ H fun x H1 => tb σ H1 fun y H2 => r x y H2 fun z H3 => ∃ k, z = .bl k ∧ (if k = true then tc σ H3 fun w' H4 => r' y w' H4 Q else Q (.bl false) H3)) : tChain r r' ta tb tc σ H Q := h
theorem rd_call {sp : Sp} {dvs : List V} {E : XK} {t : TA} {σ : St} {H : Hp} {Q : VK} (h : t σ H fun vs H1 => sp (vs ++ dvs) H1 Q E) : tCall sp dvs E t σ H Q := h
theorem rd_cb {r : List V → Hp → VK → Prop} {t : TA} {σ : St} {H : Hp} {Q : VK} (h : t σ H fun vs H1 => r vs H1 Q) : tCB r t σ H Q := h
theorem rd_nil {σ : St} {H : Hp} {Q : List V → Hp → Prop} (h : Q [] H) : tNil σ H Q := h
theorem rd_cons {tr : TA} {σ : St} {H : Hp} {Q : List V → Hp → Prop} (h : ta σ H fun x H1 => tr σ H1 fun xs H2 => Q (x :: xs) H2) : tCons ta tr σ H Q := h
theorem rd_tup {t : TA} {σ : St} {H : Hp} {Q : VK} (h : t σ H fun xs H1 => xs.length ≤ sizeLine ∧ ∀ p, H1 p = none → Q (.ref p) (upd H1 p (.tup xs))) : tTup t σ H Q := h
theorem rd_lst {t : TA} {σ : St} {H : Hp} {Q : VK} (h : t σ H fun xs H1 => xs.length ≤ sizeLine ∧ ∀ p, H1 p = none → Q (.ref p) (upd H1 p (.lst xs))) : tLst t σ H Q := h
theorem rd_seq {t u : TS} {D : Ends} {σ : St} {H : Hp} (h : t { D with nx := u D } σ H) : tSeq t u D σ H := h
theorem rd_next {D : Ends} {σ : St} {H : Hp} (h : D.nx σ H) : tNext D σ H := h
theorem rd_ret {te : TE} {D : Ends} {σ : St} {H : Hp} (h : te σ H D.rt) : tRet te D σ H := h
theorem rd_ifS {c : TT} {t u : TS} {D : Ends} {σ : St} {H : Hp} (h : c σ H fun b H1 => if b = true then t D σ H1 else u D σ H1) : tIfS c t u D σ H := h
theorem rd_asg {te : TE} {g : TG} {D : Ends} {σ : St} {H : Hp} (h : te σ H fun x H1 => g x σ H1 D.nx) : tAsg te g D σ H := h
theorem rd_drop {te : TE} {D : Ends} {σ : St} {H : Hp} (h : te σ H fun _ H1 => D.nx σ H1) : tDrop te D σ H := h
theorem rd_gname {i : Nat} {v : V} {σ : St} {H : Hp} {Q : St → Hp → Prop} (h : Q (σ.set i (some v)) H) : gName i v σ H Q := h
theorem rd_gtup {K : PySem.W.Frag} {n : Nat} {t : TGs} {a : Addr} {xs : List V} {σ : St} {H : Hp} {Q : St → Hp → Prop} (hs : SqT K H a xs) (hl : xs.length = n) (h : t xs σ H Q) : gTup K n t (.ref a) σ H Q := ⟨a, xs, rfl, hs, hl, h⟩
theorem rd_gcons {t : TG} {u : TGs} {v : V} {r : List V} {σ : St} {H : Hp} {Q : St → Hp → Prop} (h : t v σ H fun σ' H' => u r σ' H' Q) : gCons t u (v :: r) σ H Q := ⟨v, r, rfl, h⟩
theorem rd_gnil {σ : St} {H : Hp} {Q : St → Hp → Prop} (h : Q σ H) : gNil [] σ H Q := ⟨rfl, h⟩
theorem rd_ixT {K : PySem.W.Frag} {p : Addr} {xs : List V} {i : Int} {v : V} {H : Hp} {Q : VK} (hs : SqT K H p xs) (e : atI xs i = some v) (h : Q v H) : rIxT K (.ref p) (.int i) H Q := ⟨p, xs, i, v, rfl, rfl, hs, e, h⟩
theorem rd_ixL {K : PySem.W.Frag} {p : Addr} {xs : List V} {i : Int} {v : V} {H : Hp} {Q : VK} (hs : SqL K H p xs) (e : atI xs i = some v) (h : Q v H) : rIxL K (.ref p) (.int i) H Q := ⟨p, xs, i, v, rfl, rfl, hs, e, h⟩
theorem rd_isi {K : PySem.W.Frag} {x : V} {c : String} {t : Value} {b : Bool} {H : Hp} {Q : VK} (ty : TyOf K H x t) (e : PySem.W.kitOne K t (.type c) = some b) (h : Q (.bl b) H) : rIsi K [x, .ty c] H Q := ⟨x, c, t, b, rfl, ty, e, h⟩
theorem iteD {c A B : Prop} [Decidable c] (hc : c) (h : A) : if decide c = true then A else B := by
  rw [decide_eq_true hc]; exact iteT h
theorem iteN {c A B : Prop} [Decidable c] (hc : ¬ c) (h : B) : if decide c = true then A else B := by
  rw [decide_eq_false hc]; exact iteF h
theorem iteNN {c A B : Prop} [Decidable c] (hc : ¬ c) (h : A) : if (!decide c) = true then A else B := by
  rw [decide_eq_false hc]; exact iteT h
theorem ite2d {c A B : Prop} [Decidable c] (h1 : c → A) (h2 : ¬ c → B) : if decide c = true then A else B := by
  by_cases h : c
  · exact iteD h (h1 h)
  · exact iteN h (h2 h)
theorem Same.tup {K : PySem.W.Frag} {H H' : Hp} {a : Addr} {xs : List V} (e : Same H H') (h : SqT K H a xs) : SqT K H' a xs := by
  rcases h with (h | ⟨o, h⟩) | h
  · exact .inl (.inl (e _ _ h))
  · exact .inl (.inr ⟨o, e _ _ h⟩)
  · exact .inr h
theorem same_new {H : Hp} {p : Addr} (h : H p = none) (o : HO) : Same H (upd H p o) := fun b u q => by rw [upd_ne (ne_of_none q h)]; exact q
theorem cdiv_small {i j : Int} (h0 : 0 < j) (h1 : j < 18446744073709551616) : CDivB i j := ⟨h0, Bt.mono (k := 64) (by unfold Bt; omega) (by decide)⟩
theorem pow2_pos (k : Nat) : (0 : Int) < 1 * 2 ^ k := by
  have e : (1 : Int) * 2 ^ k = ((2 ^ k : Nat) : Int) := by rw [Int.natCast_pow]; simp
  rw [e]
  have := Nat.two_pow_pos k
  omega
theorem kit_int_int (K : PySem.W.Frag) : PySem.W.kitOne K (.type "int") (.type "int") = some true := by unfold PySem.W.kitOne; rw [if_pos (by simp)]
end
end L2

namespace Att
open PySem PySem.W PySem.Calls PyProof.Rows
theorem weight_item : ∀ {ns : List Int} {n : Int}, n ∈ ns → Builtin.Int.intBits n ≤ WData.weightAll (ns.map WData.int)
  | m :: ns, n, h => by
    rw [List.map_cons]
    show _ ≤ WData.weight (.int m) + 1 + WData.weightAll (ns.map WData.int)
    rcases List.mem_cons.mp h with rfl | h
    · have e : WData.weight (.int n) = Builtin.Int.intBits n := by first | rfl | (unfold Builtin.Int.intBits; rfl) | simp [WData.weight, Builtin.Int.intBits]
      omega
    · have := weight_item h
      omega
theorem bits_of_lay {ns : List Int} (h : WData.layableAll [WData.list (ns.map WData.int)] = true) : ∀ n ∈ ns, L2.Bt 1048576 n := fun n hn => by
  have h1 : WData.layable (WData.list (ns.map WData.int)) = true := (Bool.and_eq_true_iff.mp h).1
  have h2 : WData.weight (WData.list (ns.map WData.int)) ≤ 2 ^ 20 := of_decide_eq_true (Bool.and_eq_true_iff.mp h1).2
  have h3 := weight_item hn
  have e : WData.weight (WData.list (ns.map WData.int)) = WData.weightAll (ns.map WData.int) := by first | rfl | simp [WData.weight]
  refine PySem.intBits_le_iff.mp ?_
  omega
theorem attach_callB {l : OpenLaw} {n : Nat} {q : Program} {loose : List Str} {XP : (Str → Option Value) → Heap → Prop} {YP : World → Heap → Prop} {d : DefRec}
    (hn : l.most = some n) (hdf : d.params.defaults = [])
    (call : ∀ (w : World) (s₀ s₁ : Shared) (mg mb : Str → Option Value) (fa : Addr) (o : Obj) (pm cd doc : Value) (a : Addr) (vs : List Value) (ns : List Int),
      Ground q loose [] XP w s₀ mg mb s₁.heap → YP w s₁.heap →
      s₁.heap.get? fa = some o → o.data = .func (docDef d.name d.params d.body d.scope pm cd doc) → s₁.heap.CodeRec cd d.name → mg d.name = some (.ref fa) →
      s₁.heap.get? a = some { cls := .type "list", data := .seq vs.toArray } → IntsAre vs ns → ns.length ≤ n → (∀ n ∈ ns, L2.Bt 1048576 n) → s₁.gens = #[] →
      codeAny (model l.prog w) callerA (.call (.ref fa) ⟨[.ref a], []⟩) (fun r s' => r = .ok (.ret (.bool true)) ∧ OldK s₁.heap s'.heap ∧ s'.os = s₁.os ∧ AllBare s'.gens) s₁) :
    WalkO q loose XP YP l.row.toRowW d [] (fun f vs => PySem.call f vs) := by
  intro w s₀ s₁ mg mb G Y fa o pm cd doc dV kV ho hd hcd hD hmg hg args vals as hpre hlay hrd hwl hlo
  obtain rfl : dV = .none := Dflts.none hD hdf
  obtain rfl : kV = .none := Dflts.noKw hD
  obtain ⟨a, vs, ns, rfl, rfl, hobj, hints, hlen⟩ := script_of hn hpre hwl
  refine enter_call (codeAny_mono (call w s₀ s₁ mg mb fa o pm cd doc a vs ns G Y ho (fd_plain hd) hcd hmg hobj hints hlen (bits_of_lay hlay) hg) fun r s' hq => ?_)
  obtain ⟨rfl, h2, h3, h4⟩ := hq
  exact ⟨.inl ⟨.bool true, .bool true, [], rfl, fun _ => rfl, .bool true, post_true l _, fun _ => ⟨List.Pairwise.nil, fun _ hm => (nomatch hm)⟩⟩, h2, h3, h4⟩
end Att
namespace L2
open PySem PySem.Spec PyProof.Rows
/-- law's promise: a list of at most 63 ints of at most 2^20 bits is handed in, True comes out -/
def spLaw (K : PySem.W.Frag) : Sp := fun vs H Q _ => ∃ (a : Addr) (ns : List Int), vs = [.ref a] ∧ SqL K H a (ns.map V.int) ∧ ns.length ≤ 63 ∧ (∀ n ∈ ns, Bt 1048576 n) ∧ ∀ H', Q (.bl true) H'
theorem walk_ofB {l : PySem.W.OpenLaw} {k : Nat} {q : Program} {loose : List Str} {XP : (Str → Option Value) → Heap → Prop} {YP : World → Heap → Prop} {d : DefRec} {K : Params → PySem.W.Frag}
    (hn : l.most = some 63) (hdf : d.params.defaults = []) (hr : Room k callerA)
    (hY : ∀ (w : World) (h : Heap), YP w h → (K w.params).In h)
    (F : ∀ (w : World) (mg : Str → Option Value) (fa : Addr) (h : Heap), (K w.params).In h → h.Ns mainGlobals mg → mg d.name = some (.ref fa) →
      ∃ fd : FuncData, (∀ (s : Shared) (u : Value), BindsTo s fd ⟨[u], []⟩ [("_law_script", u)]) ∧
        ∀ base : Heap, (K w.params).In base → base.Ns mainGlobals mg → FnOk l.prog w (K w.params) mg base CX0 k fa fd ["_law_script"] (spLaw (K w.params))) :
    PySem.W.WalkO q loose XP YP l.row.toRowW d [] (fun f vs => PySem.call f vs) := by
  refine Att.attach_callB hn hdf fun w s₀ s₁ mg mb fa o pm cd doc a vs ns G Y ho hd hcd hmg hobj hints hlen hbits hg => ?_
  have KX := hY w _ Y
  obtain ⟨fd, hb, hF⟩ := F w mg fa _ KX G.T.g hmg
  exact law_call KX G.T.g G.T.b G.T.builtins G.T.nolimit hg hobj hints (Nat.le_trans hlen (by decide)) hr hF hb (fun H hO hS => ⟨a, ns, rfl, hS, hlen, hbits, fun _ => rfl⟩) fun H e s' => fun z => z
end L2

set_option Elab.async false
set_option linter.all false
set_option maxRecDepth 100000
set_option maxHeartbeats 4000000
namespace L2
open PySem PySem.Spec PyProof.Rows
/-- the context of a comprehension's block: its own name first, then the names around it -/
def compCx (X : Cx) (M : List Str) (x : Str) (scope : Scope) (cl : List (Str × Addr)) (C : Addr) (s₀ : Shared) (H₀ : Hp) (fp : List Addr) : Cx :=
  { X with N := x :: M, s₀ := s₀, H₀ := H₀, env := compEnvC scope cl C X.env, outer := X.stack, ex := fp, fn := fun _ => false, pn := [], xe := fun _ _ => False }
structure CompOk (X : Cx) (M : List Str) (x : Str) (scope : Scope) (cl : List (Str × Addr)) : Prop where
  clos : closureFor scope X.env = pure cl
  cell : ∀ y ∈ scope.names, y.2 ≠ .cell
  kind : scope.kind = .function
  names : ∀ y ∈ scope.names, y.2 = .local → scope.names.lookup y.1 = some .local
  xl : scope.names.lookup x = some .local
  nd : (x :: M).Nodup
  len : M.length = X.N.length
  sub : ∀ y c, cl.lookup y = some c → X.env.cells.lookup y = some c
  has : ∀ y, ((relabel scope X.env).names.lookup y = some .cell ∨ (relabel scope X.env).names.lookup y = some .free) → ∃ c, cl.lookup y = some c
  vis : ∀ (i : Nat) (y : Str), M[i]? = some y → Vis (relabel scope X.env) y → X.N[i]? = some y ∧ ((relabel scope X.env).names.lookup y = some .cell ∨ (relabel scope X.env).names.lookup y = some .free) ∧ (X.env.scope.names.lookup y = some .cell ∨ X.env.scope.names.lookup y = some .free)
/-- the tests of a clause -/
def PIfs (X : Cx) (ifs : List Expr) (t : TT) : Prop :=
  ∀ (pins : List (Addr × Obj)) (s : Shared) (σ : St) (H : Hp) (Q : Bool → Hp → Prop), Inv X pins σ H s → t σ H Q →
    wpAny (model X.prog X.w) X.A (forIn ifs true fun c r => if r = true then do let ok ← isTrue c X.env (eval c X.env); pure (ForInStep.yield ok) else pure (ForInStep.yield r)) (TP X pins σ Q) X.xe s
def tTrue : TT := fun _ H Q => Q true H
section
variable {X : Cx}
theorem pifs_nil : PIfs X [] tTrue := fun pins s σ H Q I h => by
  rw [List.forIn_nil]
  exact wpAny_pure ⟨H, I, h⟩
theorem pifs_one {c : Expr} {t : TT} (hc : PT X c t) : PIfs X [c] t := fun pins s σ H Q I h => by
  rw [List.forIn_cons]
  refine wpAny_bind ?_
  rw [if_pos rfl]
  refine wpAny_bind (thn (hc pins s σ H Q I h) fun b s1 q => wpAny_pure ?_)
  dsimp only
  rw [List.forIn_nil]
  exact wpAny_pure q
/-- W: the invariant by the turn, a measure, the items so far, the heap (in which the list stands at D) -/
def tComp (wi : TI) (tt : TT) (te : TE) : TE := fun σ H Q => wi σ H fun J H1 => ∀ D, H1 D = none → ∃ W : Nat → Nat → List V → Hp → Prop, (∃ m, W 0 m [] (upd H1 D (.lst []))) ∧
  ∀ i m ys H2, W i m ys H2 → H2 D = some (.lst ys) ∧ ((J.stop i H2 ∧ Q (.ref D) H2) ∨ (J.go i H2 ∧ ys.length < sizeLine ∧ ∃ m', m' < m ∧ ∀ x H3, J.yld i H2 x H3 →
    tt (some x :: σ) H3 fun b H4 => if b = true then te (some x :: σ) H4 fun y H5 => H5 D = some (.lst ys) ∧ W (i + 1) m' (ys ++ [y]) (upd H5 D (.lst (ys ++ [y]))) else W (i + 1) m' ys H4))

theorem comp_ok {M : List Str} {pins : List (Addr × Obj)} {σ : St} {H : Hp} {s : Shared} {x : Str} {scope : Scope} {cl : List (Str × Addr)} {C : Addr} {fp : List Addr} (I : Inv X pins σ H s) (ok : CompOk X M x scope cl) (hC : s.heap.objs.size ≤ C)
    (hf : ∀ b ∈ fp, FpOk X pins H b) (hb : ∀ b ∈ fp, b < s.heap.objs.size) : (compCx X M x scope cl C s H fp).Ok where
  mod := I.ok.mod
  kind := ok.kind
  glob := I.ok.glob
  blt := I.ok.blt
  above := hC
  inj := fun y z c h1 h2 => I.ok.inj y z c (ok.sub y c h1) (ok.sub z c h2)
  has := ok.has
  cab := fun y c h => by cases h
  hd := I.ok.hd
  frames := I.ok.frames
  stk := .inl rfl
  exf := fun b h => ⟨Nat.ne_of_lt (Nat.lt_of_lt_of_le (hb b h) hC), fun y c e => (hf b h).2.2.2.2.1 y c (ok.sub y c e)⟩
  bs := I.bs
  bsz := Nat.le_trans I.ok.bsz I.sz
  noex := fun b o e h => by
    rcases (hf b h).2.2.2.1 with z | z
    · exact I.ok.noex b o e z
    · exact absurd (Nat.lt_of_lt_of_le (Heap.lt_size (I.ok.bs b o e).1) z) (Nat.lt_irrefl _)
  exfs := fun b h z => by
    rcases List.mem_cons.mp (I.stkSub b z) with e | e
    · exact (hf b h).2.1 e
    · exact (hf b h).2.2.1 e
  funs := I.stack
  frf := I.stkFree

def CompR (tt : TT) (te : TE) (σ : St) (Q : VK) : It → Hp → Prop := fun J H1 => ∀ D, H1 D = none → ∃ W : Nat → Nat → List V → Hp → Prop, (∃ m, W 0 m [] (upd H1 D (.lst []))) ∧
  ∀ i m ys H2, W i m ys H2 → H2 D = some (.lst ys) ∧ ((J.stop i H2 ∧ Q (.ref D) H2) ∨ (J.go i H2 ∧ ys.length < sizeLine ∧ ∃ m', m' < m ∧ ∀ x H3, J.yld i H2 x H3 →
    tt (some x :: σ) H3 fun b H4 => if b = true then te (some x :: σ) H4 fun y H5 => H5 D = some (.lst ys) ∧ W (i + 1) m' (ys ++ [y]) (upd H5 D (.lst (ys ++ [y]))) else W (i + 1) m' ys H4))
theorem comp_core {M : List Str} {elt iter : Expr} {x : Str} {px pos : Pos} {ifs : List Expr} {scope : Scope} {cl : List (Str × Addr)} {tt : TT} {te : TE} (hc : X.calm = true) (ok : CompOk X M x scope cl)
    (ht : ∀ C s₀ H₀ fp, PIfs (compCx X M x scope cl C s₀ H₀ fp) ifs tt) (he : ∀ C s₀ H₀ fp, PE (compCx X M x scope cl C s₀ H₀ fp) elt te)
    {pins : List (Addr × Obj)} {σ : St} {H2 : Hp} {s2 : Shared} {it : Addr} {fp : List Addr} {tn : Nat → Heap → Prop} {J : It} {Q : VK} (I2 : Inv X pins σ H2 s2) (T : Turn X.prog X.w X.K (.Name x px) J fp it tn) (st2 : tn 0 s2.heap) (f2 : ∀ b ∈ fp, FpOk X pins H2 b)
    (hW : CompR tt te σ Q J H2) (post : Value → Addr → Result → Shared → Prop)
    (fin : ∀ D C H3 s4, Inv X pins σ H3 s4 → (∃ m, s4.heap.Ns C m) → FpOk X pins H3 C → Q (.ref D) H3 → post (.ref D) C (.ok .next) s4) :
    wpAny (model X.prog X.w) X.A (newList []) (fun acc s₃ => wpAny (model X.prog X.w) X.A (newFunctionEnv scope X.env.globals cl [] X.env.qual none .none (some X.env)) (fun cenv s₄ =>
      codeAny (model X.prog X.w) X.A (.compStart (.ListComp elt [⟨.Name x px, iter, ifs, 0⟩] scope pos) 0 (.ref it) acc { cenv with scope := relabel scope X.env }) (post acc cenv.locals) s₄) X.xe s₃) X.xe s2 := by
  refine wpAny_newObj_type (wpAny_newFunctionEnv ok.cell (by intro y hy; simp at hy) (fun h₁ hns₁ hsb₁ => ?_) ok.kind)
  dsimp only at hns₁ hsb₁ ⊢
  generalize hH2 : s2.heap.push { cls := .type "list", dict := none, data := .seq ([] : List Value).toArray } = G2 at hns₁ hsb₁ ⊢
  have hC : G2.objs.size = s2.heap.objs.size + 1 := by rw [← hH2, Heap.size_push]
  have hDC : s2.heap.objs.size ≠ G2.objs.size := by rw [hC]; exact Nat.ne_of_lt (Nat.lt_succ_self _)
  have hCle : s2.heap.objs.size ≤ G2.objs.size := by rw [hC]; exact Nat.le_succ _
  have below : ∀ b, b < s2.heap.objs.size → b ≠ G2.objs.size ∧ b ≠ s2.heap.objs.size := fun b hb => ⟨by rw [hC]; exact Nat.ne_of_lt (Nat.lt_succ_of_lt hb), Nat.ne_of_lt hb⟩
  have old : ∀ b o, s2.heap.get? b = some o → h₁.get? b = some o := fun b o e => hsb₁.extBut b o (below b (Heap.lt_size e)).1 (Heap.get?_push_of_some _ (hH2 ▸ Heap.get?_push_of_some _ e))
  have hacc : h₁.get? s2.heap.objs.size = some { cls := .type "list", data := .seq ([] : List Value).toArray } := hsb₁.extBut _ _ hDC (Heap.get?_push_of_some _ (hH2 ▸ Heap.get?_push_size _ rfl))
  have fpb : ∀ b ∈ fp, b < s2.heap.objs.size := fun b hb => by
    obtain ⟨o, e, _⟩ := T.obj _ _ st2 b hb
    exact Heap.lt_size e
  have hD0 : H2 s2.heap.objs.size = none := I2.hok.fresh (Nat.le_refl _)
  have hC0 : H2 G2.objs.size = none := I2.hok.fresh hCle
  generalize hDD : s2.heap.objs.size = D at *
  generalize hCC : G2.objs.size = C at *
  obtain ⟨W, ⟨m0, w0⟩, turn⟩ := hW D hD0
  have okX : (compCx X M x scope cl C s2 H2 fp).Ok := comp_ok I2 ok (by rw [hDD]; exact hCle) f2 (by rw [hDD]; exact fpb)
  have lenN : (none :: σ : St).length = (compCx X M x scope cl C s2 H2 fp).N.length := by
    show (none :: σ).length = (x :: M).length
    rw [List.length_cons, List.length_cons, I2.len, ok.len]
  -- the values of the names around it, seen from within
  have locs : ∀ (h' : Heap) (m : Str → Option Value) (w' : Option V), (∀ y c, X.env.cells.lookup y = some c → ∀ v, s2.heap.IsCell c v → h'.IsCell c v) → w' = none →
      ∀ (i : Nat) (y : Str) (v : V), (x :: M)[i]? = some y → (w' :: σ : St)[i]? = some (some v) → Vis (relabel scope X.env) y → ∃ u, RelV v u ∧ Look (compEnvC scope cl C X.env) h' m y u := by
    intro h' m w' hcell hw i y v e1 e2 e3
    subst hw
    cases i with
    | zero => simp at e2
    | succ i =>
      have e0 : M[i]? = some y := by simpa using e1
      have e2' : σ[i]? = some (some v) := by simpa using e2
      obtain ⟨e1', k1, k2⟩ := ok.vis i y e0 e3
      obtain ⟨m2, _, hl⟩ := I2.loc
      obtain ⟨u, r, l⟩ := hl i y v e1' e2' (k2.elim (fun z => .inr (.inl z)) fun z => .inr (.inr z))
      obtain ⟨c', hc'⟩ := ok.has y k1
      rcases l with ⟨z, _⟩ | ⟨_, c, hcc, z⟩
      · have z' : X.env.scope.names.lookup y = some .local := z
        rcases k2 with q | q <;> (rw [q] at z'; cases z')
      · have q := ok.sub y c' hc'
        rw [hcc] at q
        cases q
        exact ⟨u, r, .inr ⟨k1, c', hc', hcell y c' hcc _ z⟩⟩
  have I0 : Inv (compCx X M x scope cl C s2 H2 fp) [] (none :: σ) (upd H2 D (.lst [])) { s2 with heap := h₁, toks := s2.toks + ([] : List (Str × Value)).length } := by
    refine ⟨okX, rfl, I2.bare, ?_, ⟨_, hns₁, locs h₁ _ none (fun y c e v z => ?_) rfl⟩, fun y c e => ?_, ?_, fun y c e => ?_, fun p hp => ?_, ?_, lenN⟩
    · exact Un.laid old (Nat.le_of_eq hDD) hD0
    · obtain ⟨o, ho, hd⟩ := z
      exact ⟨o, old c o ho, hd⟩
    · obtain ⟨v, o, ho, hd⟩ := I2.cell y c (ok.sub y c e)
      exact ⟨v, o, old c o ho, hd⟩
    · show upd H2 D (.lst []) C = none
      rw [upd_ne (Ne.symm hDC)]
      exact hC0
    · have hn := I2.freeC y c (ok.sub y c e)
      obtain ⟨v, o, ho, hd⟩ := I2.cell y c (ok.sub y c e)
      rw [upd_ne (fun z => by have := Heap.lt_size ho; rw [hDD, z] at this; exact Nat.lt_irrefl _ this)]
      exact hn
    · exact absurd hp (by show p ∉ ([] ++ [] : List (Addr × Obj)); simp)
    · refine I2.hok.laid old (Nat.le_of_eq hDD) ⟨Nat.zero_le _, [], _, .nil, hacc⟩
  have fpk : ∀ {H' : Hp}, (∀ b ∈ fp, H' b = none) → ∀ b ∈ fp, FpOk (compCx X M x scope cl C s2 H2 fp) [] H' b := fun hn b hb => by
    refine ⟨hn b hb, (below b (fpb b hb)).1, okX.exfs b hb, .inl hb, fun y c e => (f2 b hb).2.2.2.2.1 y c (ok.sub y c e), fun p hp => ?_⟩
    exact absurd hp (by show p ∉ ([] ++ [] : List (Addr × Obj)); simp)
  have loop : ∀ s₃ : Shared, s₃ = { s2 with heap := h₁, toks := s2.toks + ([] : List (Str × Value)).length } →
      codeAny (model X.prog X.w) X.A (.compLoop (.ListComp elt [⟨.Name x px, iter, ifs, 0⟩] scope pos) 0 (.ref it) (.ref D) (compEnvC scope cl C X.env))
        (post (.ref D) C) s₃ := by
    rintro s₃ rfl
    refine codeAny_compLoop_tests (fun n s' => ∃ i ys w' H', Inv (compCx X M x scope cl C s2 H2 fp) [] (w' :: σ) H' s' ∧ tn i s'.heap ∧ (∀ b ∈ fp, H' b = none) ∧ W i n ys H') ?_ m0
      ⟨0, [], none, _, I0, T.keep _ _ _ st2 (fun b _ o e => old b o e), fun b hb => by rw [upd_ne (below b (fpb b hb)).2]; exact (f2 b hb).1, w0⟩
    rintro n s3 ⟨i, ys, w3, H3, I3, st3, fr3, wt⟩
    obtain ⟨hD3, hh⟩ := turn i n ys H3 wt
    rcases hh with ⟨stop, q⟩ | ⟨go, hlen, m', hm, step⟩
    · refine thn (T.done (compCx X M x scope cl C s2 H2 fp) rfl rfl rfl hc i [] s3 (w3 :: σ) H3 _ I3 (fpk fr3) st3 stop) fun r s4 ⟨hr, I4⟩ => ?_
      subst hr
      obtain ⟨m4, hn4, _⟩ := id I4.loc
      have hC4 : H3 C = none := I4.free
      exact fin D C H3 s4 (I2.call' (ch := fp) I4.os I4.base I4.hok I4.bare fun b hb => ⟨(f2 b hb).2.2.2.1, (f2 b hb).2.1, (f2 b hb).2.2.2.2.1, (f2 b hb).2.2.2.2.2⟩) ⟨m4, hn4⟩ (I2.fpOk (by rw [hDD]; exact hCle) hC4) q
    · refine wpAny_mono (T.item (compCx X M x scope cl C s2 H2 fp) rfl rfl rfl hc i [] s3 (w3 :: σ) H3 (fun _ _ => False) I3 (fpk fr3) st3 go) (fun r s4 h4 => ?_) (fun _ _ z => z.elim)
      obtain ⟨u, hr, h4⟩ := h4
      subst hr
      refine (show wpAny (model X.prog X.w) X.A (letOwnedTupleGo (.Name x px) (.ref it) u >>= fun _ => assign (.Name x px) (compEnvC scope cl C X.env) u) _ _ _ from wpAny_bind (wpAny_mono h4 (fun _ s4 h4 => ?_) (fun _ _ z => z.elim)))
      obtain ⟨x', H5, I5, r5, y5, st5, fr5⟩ := h4
      have I5' := I5.pinned (fpk fr5) (T.obj _ _ st5)
      refine wpAny_assign_Name (store_ok (X := compCx X M x scope cl C s2 H2 fp) (i := 0) I5' ok.nd rfl (.inl (lookup_relabel_local ok.xl)) r5 (fun s6 I6 => ?_) (.inr (lookup_relabel_local ok.xl)))
      have I6' : Inv (compCx X M x scope cl C s2 H2 fp) ([] ++ pinsAt fp s4.heap) (some x' :: σ) H5 s6 := I6
      have back : ∀ {s7 : Shared} {H7 : Hp} {w7 : Option V}, Inv (compCx X M x scope cl C s2 H2 fp) ([] ++ pinsAt fp s4.heap) (w7 :: σ) H7 s7 → tn (i + 1) s7.heap ∧ (∀ b ∈ fp, H7 b = none) ∧ Inv (compCx X M x scope cl C s2 H2 fp) [] (w7 :: σ) H7 s7 := fun {s7 H7 w7} I7 => by
        refine ⟨T.keep _ _ _ st5 fun b hb o e => (I7.pin (b, o) (List.mem_append_right _ (List.mem_append_right _ (mem_pinsAt hb e)))).1, fun b hb => ?_, I7.unpinned⟩
        obtain ⟨o, e, d⟩ := T.obj _ _ st5 b hb
        exact (I7.pin (b, o) (List.mem_append_right _ (List.mem_append_right _ (mem_pinsAt hb e)))).2.1
      refine wpAny_mono (ht C s2 H2 fp _ s6 _ H5 _ I6' (step x' H5 y5)) (fun ok' s7 h7 => ?_) (fun _ _ z => z.elim)
      obtain ⟨H7, I7, q7⟩ := h7
      cases ok' with
      | false =>
        have q7' : W (i + 1) m' ys H7 := by simpa using q7
        rw [if_neg Bool.false_ne_true]
        obtain ⟨b1, b2, b3⟩ := back I7
        exact ⟨m', hm, i + 1, ys, _, H7, b3, b1, b2, q7'⟩
      | true =>
        rw [if_pos rfl] at q7 ⊢
        refine wpAny_mono (he C s2 H2 fp _ s7 _ H7 _ I7 q7) (fun y s8 h8 => ?_) (fun _ _ z => z.elim)
        obtain ⟨v8, H8, I8, r8, hD8, w8⟩ := h8
        refine wpAny_mono (mt_append (X := compCx X M x scope cl C s2 H2 fp) _ s8 _ H8 (.ref D) [v8] (.ref D) [y] (fun _ H9 => H9 = upd H8 D (.lst (ys ++ [v8]))) I8 rfl (.cons r8 .nil) ⟨D, ys, v8, rfl, rfl, hD8, hlen, rfl⟩) (fun _ s9 h9 => ?_) (fun _ _ z => z.elim)
        obtain ⟨v9, H9, I9, _, e9⟩ := h9
        subst e9
        obtain ⟨b1, b2, b3⟩ := back I9
        exact ⟨m', hm, i + 1, _, _, _, b3, b1, b2, w8⟩
  exact codeAny_compStart_list (loop _ rfl) (T.self _ 0 _ _ _ (T.keep _ _ _ st2 (fun b _ o e => old b o e)) (loop _ rfl))
theorem pe_comp {M : List Str} {elt iter : Expr} {x : Str} {px pos : Pos} {ifs : List Expr} {scope : Scope} {cl : List (Str × Addr)} {wi : TI} {tt : TT} {te : TE} (hc : X.calm = true) (ok : CompOk X M x scope cl) (hi : PI X (.Name x px) iter wi)
    (ht : ∀ C s₀ H₀ fp, PIfs (compCx X M x scope cl C s₀ H₀ fp) ifs tt) (he : ∀ C s₀ H₀ fp, PE (compCx X M x scope cl C s₀ H₀ fp) elt te)
    (hs : ∀ x, foldedSetIterable iter X.env x = pure x := by intro _; rfl) :
    PE X (.ListComp elt [⟨.Name x px, iter, ifs, 0⟩] scope pos) (tComp wi tt te) := by
  intro pins s σ H Q I h
  rw [eval_ListComp]
  refine wpAny_comprehension_free (use := none) rfl hs ok.clos ok.kind ok.names (thn (hi pins s σ H _ I h) fun xv s1 h1 => thn h1 fun itv s2 h2 => ?_)
  obtain ⟨it, fp, tn, J, H2, e, I2, T, st2, f2, hW⟩ := h2
  subst e
  refine comp_core hc ok ht he I2 T st2 f2 hW (compPost (model X.prog X.w) X.A X.xe none (EP X pins σ Q)) fun D C H3 s4 I4 hm fC q => ?_
  obtain ⟨m, hn⟩ := hm
  exact ⟨m, hn, fun h' hsb => ⟨.ref D, H3, I4.turned (t' := s4.toks) (fun b o hb e => hsb.extBut b o hb e) fC.1 fC.2.1 fC.2.2.2.1 fC.2.2.2.2.1 fC.2.2.2.2.2, rfl, q⟩⟩
/-- name = [.. for x in ..] -/
theorem ps_setComp {M : List Str} {elt iter : Expr} {x y : Str} {px py pos spos : Pos} {ifs : List Expr} {scope : Scope} {cl : List (Str × Addr)} {wi : TI} {tt : TT} {te : TE} {i : Nat} (hN : X.N.Nodup) (hiy : X.N[i]? = some y) (hy : Loc X.env.scope y)
    (hc : X.calm = true) (ok : CompOk X M x scope cl) (hi : PI X (.Name x px) iter wi)
    (ht : ∀ C s₀ H₀ fp, PIfs (compCx X M x scope cl C s₀ H₀ fp) ifs tt) (he : ∀ C s₀ H₀ fp, PE (compCx X M x scope cl C s₀ H₀ fp) elt te)
    (hsw : swapsWith (.ListComp elt [⟨.Name x px, iter, ifs, 0⟩] scope pos) (some (.Name y py)) spos.line X.env = pure true := by with_unfolding_all rfl)
    (hf : X.fn y = true ∨ X.env.scope.names.lookup y = some .local := by first | exact .inl rfl | exact .inr rfl | assumption)
    (hs : ∀ x, foldedSetIterable iter X.env x = pure x := by intro _; rfl) :
    PS X (.Assign [.Name y py] (.ListComp elt [⟨.Name x px, iter, ifs, 0⟩] scope pos) spos) (tAsg (tComp wi tt te) (gName i)) := by
  intro pins s σ H D I h
  rw [exec_Assign_Name_used _ _ _ _ hsw]
  refine wpAny_bind (wpAny_standAt (wpAny_bind ?_))
  show wpAny _ X.A (do let _ ← comprehension (.ListComp elt [⟨.Name x px, iter, ifs, 0⟩] scope pos) scope X.env _ (newList []) false (eval iter X.env) (some (assign (.Name y py) X.env))) _ _ s
  refine wpAny_bind (wpAny_mono (wpAny_comprehension_free (use := some (assign (.Name y py) X.env)) (Q := fun _ s' => SP X pins D .next s') rfl hs ok.clos ok.kind ok.names
    (thn (hi pins s σ H _ I h) fun xv s1 h1 => thn h1 fun itv s2 h2 => ?_)) (fun _ s' hq => wpAny_pure (wpAny_pure hq)) fun _ _ e => e)
  obtain ⟨it, fp, tn, J, H2, e, I2, T, st2, f2, hW⟩ := h2
  subst e
  refine comp_core (Q := fun x H1 => gName i x σ H1 D.nx) hc ok ht he I2 T st2 f2 hW (compPost (model X.prog X.w) X.A X.xe (some (assign (.Name y py) X.env)) (fun _ s' => SP X pins D .next s')) fun Dd C H3 s4 I4 hm fC q => ?_
  obtain ⟨m, hn⟩ := hm
  show wpAny _ X.A (assign (.Name y py) X.env (.ref Dd)) _ _ _
  refine wpAny_assign_Name (store_ok2 I4 hN hiy hy (v := .ref Dd) rfl (fun s5 I5 hsb => ?_) hf)
  obtain ⟨a, sb, ha⟩ := hsb
  have hCa : C ≠ a := by
    rcases ha with rfl | ha
    · exact fC.2.1
    · exact (fC.2.2.2.2.1 _ _ ha).symm
  exact ⟨m, hn.sameBut sb hCa, fun h' hsb' => ⟨_, H3, I5.turned (t' := s5.toks) (fun b o hb e => hsb'.extBut b o hb e) fC.1 fC.2.1 fC.2.2.2.1 fC.2.2.2.2.1 fC.2.2.2.2.2, q⟩⟩

theorem vals_bls : ∀ {bs : List Bool} {us : List Value}, Vals (bs.map V.bl) us → us = bs.map Value.bool
  | [], _, .nil => rfl
  | b :: bs, u :: us, .cons r t => by
    cases (show u = Value.bool b from r)
    rw [vals_bls t]
    rfl
theorem range_allB (bs : List Bool) : ((List.range bs.length).all fun i => (bs[i]?).getD true) = bs.all id := by
  induction bs with
  | nil => rfl
  | cons b bs ih =>
    rw [List.length_cons, List.range_succ_eq_map, List.all_cons, List.all_map, List.all_cons, ← ih]
    rfl
theorem kept_it {s : Shared} {h' : Heap} {o : Obj} (hk : ∀ b x, b ∉ [s.heap.objs.size] → (s.heap.push o).get? b = some x → h'.get? b = some x) : ∀ b x, s.heap.get? b = some x → h'.get? b = some x :=
  fun b x e => hk b x (fun hm => by rw [List.mem_singleton.mp hm] at e; exact Nat.lt_irrefl _ (Heap.lt_size e)) (Heap.get?_push_of_some _ e)
theorem call_all (hc : X.calm = true) : CallR X (.builtin "all") (fun xs H Q => ∃ (p : Addr) (bs : List Bool), xs = [.ref p] ∧ SqL X.K H p (bs.map V.bl) ∧ Q (.bl (bs.all id)) H) := by
  intro pins s σ H xs us Q I r h
  obtain ⟨p, bs, rfl, hq, q⟩ := h
  obtain ⟨u, rfl, ru⟩ := vals1 r
  cases (show u = Value.ref p from ru)
  obtain ⟨its, rv, pl, _⟩ := I.list hq
  obtain rfl := vals_bls rv
  have hl := pl.isList
  have hlt : p < s.heap.objs.size := by obtain ⟨_, e, _⟩ := id hl; exact Heap.lt_size e
  refine call_all_walk (wpAny_pyIter_list hl ?_)
  refine ⟨s.heap.objs.size, [s.heap.objs.size, p], [s.heap.objs.size], (bs.map Value.bool).toArray.size, _, _, fun i => (bs[i]?).getD true, rfl, Walks.list (A := X.A.in1) (I.ok.hd hc) _ p (Nat.ne_of_lt hlt) (bs.map Value.bool).toArray,
    ⟨⟨_, Heap.get?_push_size _ rfl, rfl, rfl⟩, hl.push _⟩, fun i v s' Q' E' hP hQ => ?_, fun h' tk hk => ?_⟩
  · have hP' : (bs.map Value.bool)[i]? = some v := by simpa using hP
    rw [List.getElem?_map] at hP'
    cases e : bs[i]? with
    | none => rw [e] at hP'; cases hP'
    | some b =>
      rw [e] at hP'
      cases hP'
      simp only [e, Option.getD_some] at hQ
      exact wpAny_truthy_bool hQ
  · have e : ((List.range (bs.map Value.bool).toArray.size).all fun i => (bs[i]?).getD true) = bs.all id := by
      rw [List.size_toArray, List.length_map]; exact range_allB bs
    rw [e]
    exact ⟨.bl _, H, I.kept (kept_it hk), rfl, q⟩
theorem lookup_mem {κ β : Type} [BEq κ] [LawfulBEq κ] {k : κ} {v : β} : ∀ {l : List (κ × β)}, l.lookup k = some v → (k, v) ∈ l
  | (a, b) :: r, h => by
    rw [List.lookup_cons] at h
    cases e : k == a with
    | true =>
      rw [e] at h
      cases h
      rw [eq_of_beq e]
      exact List.mem_cons_self
    | false =>
      rw [e] at h
      exact List.mem_cons_of_mem _ (lookup_mem h)
theorem relabel_plain {scope : Scope} {env : Env} (h : ∀ y ∈ scope.names, y.2 ≠ .free) : (relabel scope env).names = scope.names :=
  map_eq_self fun x hx => by
    obtain ⟨n, k⟩ := x
    have : (k == NameKind.free) = false := by simpa using h _ hx
    simp [this]
/-- a comprehension that names nothing of the frame around it -/
theorem compOk_nil {x : Str} {scope : Scope} (N : List Str) (hN : X.N = N) (hf : ∀ y ∈ scope.names, y.2 ≠ .free ∧ y.2 ≠ .cell) (hk : scope.kind = .function) (hn : ∀ y ∈ scope.names, y.2 = .local → scope.names.lookup y.1 = some .local)
    (hx : scope.names.lookup x = some .local) (nd : (x :: N).Nodup) (vis : ∀ y ∈ N, scope.names.lookup y ≠ some .local) : CompOk X N x scope [] := by
  have e := relabel_plain (env := X.env) fun y hy => (hf y hy).1
  refine ⟨closureFor_none fun y hy => (hf y hy).1, fun y hy => (hf y hy).2, hk, hn, hx, nd, by rw [hN], fun y c h => (by cases h), fun y h => ?_, fun i y hy h => ?_⟩
  · rw [e] at h
    rcases h with h | h
    · exact absurd rfl (hf _ (lookup_mem h)).2
    · exact absurd rfl (hf _ (lookup_mem h)).1
  · rcases h with h | h | h
    · rw [e] at h; exact absurd h (vis y (List.mem_of_getElem? hy))
    · rw [e] at h; exact absurd rfl (hf _ (lookup_mem h)).2
    · rw [e] at h; exact absurd rfl (hf _ (lookup_mem h)).1
/-- what an iterator goes through, where the heap is as ok says -/
structure Walk (J : It) (ok : Hp → Prop) (xs : List V) : Prop where
  go : ∀ i H, ok H → i < xs.length → J.go i H
  yld : ∀ i H x H', ok H → J.yld i H x H' → i < xs.length → H' = H ∧ xs[i]? = some x
  stop : ∀ i H, ok H → xs.length ≤ i → J.stop i H
theorem walk_l {K : PySem.W.Frag} {a : Addr} {xs : List V} : Walk (Itl K a) (fun H => SqL K H a xs) xs :=
  ⟨fun i H h hi => ⟨xs, xs[i], h, by simp [hi]⟩, fun i H x H' h y hi => ⟨y.1, y.2 xs h⟩, fun i H h hi => ⟨xs, h, hi⟩⟩
theorem walk_t {K : PySem.W.Frag} {a : Addr} {xs : List V} : Walk (Itt K a) (fun H => SqT K H a xs) xs :=
  ⟨fun i H h hi => ⟨xs, xs[i], h, by simp [hi]⟩, fun i H x H' h y hi => ⟨y.1, y.2 xs h⟩, fun i H h hi => ⟨xs, h, hi⟩⟩
theorem walk_r {lo : Int} {n : Nat} : Walk (Itr lo n) (fun _ => True) ((List.range n).map fun i => V.int (lo + (i : Nat))) :=
  ⟨fun i H _ hi => (by show i < n; simpa using hi), fun i H x H' _ y hi => ⟨y.1, by
    have hi' : i < n := by simpa using hi
    rw [y.2]
    simp [hi']⟩, fun i H _ hi => (by show n ≤ i; simpa using hi)⟩
/-- the comprehension's list: f of the items that p lets through; tests and elements leave the heap as it is -/
theorem comp_by {J : It} {ok : Hp → Prop} {xs : List V} {σ : St} {H : Hp} {Q : VK} {tt : TT} {te : TE} (Wk : Walk J ok xs) (hz : xs.length < sizeLine) (hok : ∀ D ys, H D = none → ok (upd H D (.lst ys))) (p : V → Bool) (f : V → V)
    (ht : ∀ x ∈ xs, ∀ D ys (Q' : Bool → Hp → Prop), H D = none → Q' (p x) (upd H D (.lst ys)) → tt (some x :: σ) (upd H D (.lst ys)) Q')
    (he : ∀ x ∈ xs, p x = true → ∀ D ys (Q' : VK), H D = none → Q' (f x) (upd H D (.lst ys)) → te (some x :: σ) (upd H D (.lst ys)) Q')
    (h : ∀ D, H D = none → Q (.ref D) (upd H D (.lst ((xs.filter p).map f)))) :
    ∀ D, H D = none → ∃ W : Nat → Nat → List V → Hp → Prop, (∃ m, W 0 m [] (upd H D (.lst []))) ∧
      ∀ i m ys H2, W i m ys H2 → H2 D = some (.lst ys) ∧ ((J.stop i H2 ∧ Q (.ref D) H2) ∨ (J.go i H2 ∧ ys.length < sizeLine ∧ ∃ m', m' < m ∧ ∀ x H3, J.yld i H2 x H3 →
        tt (some x :: σ) H3 fun b H4 => if b = true then te (some x :: σ) H4 fun y H5 => H5 D = some (.lst ys) ∧ W (i + 1) m' (ys ++ [y]) (upd H5 D (.lst (ys ++ [y]))) else W (i + 1) m' ys H4)) := by
  intro D hD
  refine ⟨fun i m ys H2 => i ≤ xs.length ∧ m = xs.length - i ∧ ys = ((xs.take i).filter p).map f ∧ H2 = upd H D (.lst ys), ⟨_, Nat.zero_le _, rfl, by simp, rfl⟩, ?_⟩
  rintro i m ys H2 ⟨hi, rfl, hys, rfl⟩
  refine ⟨upd_same, ?_⟩
  by_cases hlt : i < xs.length
  · have hl : ys.length ≤ i := by
      rw [hys, List.length_map]
      exact Nat.le_trans (List.length_filter_le _ _) (by rw [List.length_take]; omega)
    refine .inr ⟨Wk.go i _ (hok D ys hD) hlt, by omega, xs.length - (i + 1), by omega, fun x H3 hy => ?_⟩
    obtain ⟨e3, ex⟩ := Wk.yld i _ x H3 (hok D ys hD) hy hlt
    subst e3
    have hm : x ∈ xs := List.mem_of_getElem? ex
    have et : xs.take (i + 1) = xs.take i ++ [x] := by rw [List.take_add_one, ex]; rfl
    refine ht x hm D ys _ hD ?_
    cases hp : p x with
    | false =>
      rw [if_neg Bool.false_ne_true]
      refine ⟨hlt, rfl, ?_, rfl⟩
      rw [et, List.filter_append, hys]
      simp [hp]
    | true =>
      rw [if_pos rfl]
      refine he x hm hp D ys _ hD ⟨upd_same, hlt, rfl, ?_, by rw [upd_upd]⟩
      rw [et, List.filter_append, hys]
      simp [hp]
  · have e : i = xs.length := by omega
    subst e
    refine .inl ⟨Wk.stop _ _ (hok D ys hD) (Nat.le_refl _), ?_⟩
    rw [hys, List.take_length]
    exact h D hD
theorem rd_rng1 {ta : TA} {σ : St} {H : Hp} {R : It → Hp → Prop} (h : ta σ H fun vs H1 => ∃ j : Int, vs = [.int j] ∧ -(2 ^ 62) ≤ j ∧ j < 2 ^ 62 ∧ R (Itr 0 j.toNat) H1) : iRng1 ta σ H R := h
theorem rd_rng2 {ta : TA} {σ : St} {H : Hp} {R : It → Hp → Prop} (h : ta σ H fun vs H1 => ∃ i j : Int, vs = [.int i, .int j] ∧ (-(2 ^ 62) ≤ i ∧ i < 2 ^ 62 ∧ -(2 ^ 62) ≤ j ∧ j < 2 ^ 62) ∧ R (Itr i (j - i).toNat) H1) : iRng2 ta σ H R := h
theorem rd_comp {wi : TI} {tt : TT} {te : TE} {σ : St} {H : Hp} {Q : VK} (h : wi σ H (CompR tt te σ Q)) : tComp wi tt te σ H Q := h
theorem comp_go {J : It} {ok : Hp → Prop} {xs : List V} {σ : St} {H : Hp} {Q : VK} {tt : TT} {te : TE} (Wk : Walk J ok xs) (hz : xs.length < sizeLine) (hok : ∀ D ys, H D = none → ok (upd H D (.lst ys))) (p : V → Bool) (f : V → V)
    (ht : ∀ x ∈ xs, ∀ D ys (Q' : Bool → Hp → Prop), H D = none → Q' (p x) (upd H D (.lst ys)) → tt (some x :: σ) (upd H D (.lst ys)) Q')
    (he : ∀ x ∈ xs, p x = true → ∀ D ys (Q' : VK), H D = none → Q' (f x) (upd H D (.lst ys)) → te (some x :: σ) (upd H D (.lst ys)) Q')
    (h : ∀ D, H D = none → Q (.ref D) (upd H D (.lst ((xs.filter p).map f)))) : CompR tt te σ Q J H := comp_by Wk hz hok p f ht he h
theorem comp_t {K : PySem.W.Frag} {i : Nat} {a : Addr} {xs : List V} {σ : St} {H : Hp} {Q : VK} {tt : TT} {te : TE} (ei : σ[i]? = some (some (.ref a))) (hS : SqT K H a xs) (hz : xs.length < sizeLine) (p : V → Bool) (f : V → V)
    (ht : ∀ x ∈ xs, ∀ D ys (Q' : Bool → Hp → Prop), H D = none → Q' (p x) (upd H D (.lst ys)) → tt (some x :: σ) (upd H D (.lst ys)) Q')
    (he : ∀ x ∈ xs, p x = true → ∀ D ys (Q' : VK), H D = none → Q' (f x) (upd H D (.lst ys)) → te (some x :: σ) (upd H D (.lst ys)) Q')
    (h : ∀ D, H D = none → Q (.ref D) (upd H D (.lst ((xs.filter p).map f)))) : tComp (iTup K (tVar i)) tt te σ H Q :=
  ⟨_, ei, a, rfl, ⟨_, hS⟩, comp_by walk_t hz (fun D ys hD => (same_new hD _).tup hS) p f ht he h⟩
theorem rd_true {σ : St} {H : Hp} {Q : Bool → Hp → Prop} (h : Q true H) : tTrue σ H Q := h

/-- a comprehension that names what its frame holds in cells -/
theorem compOk_freeM {x : Str} {scope : Scope} {cl : List (Str × Addr)} (M N : List Str) (hl : M.length = N.length) (hN : X.N = N) (clos : closureFor scope X.env = pure cl) (hc : (scope.names.all fun y => y.2 != .cell) = true) (hk : scope.kind = .function)
    (hn : (scope.names.all fun y => y.2 != .local || scope.names.lookup y.1 == some .local) = true) (hx : scope.names.lookup x = some .local) (nd : (x :: M).Nodup)
    (hs : ∀ p ∈ cl, X.env.cells.lookup p.1 = some p.2)
    (hh : ((relabel scope X.env).names.all fun p => (p.2 != .cell && p.2 != .free) || (cl.lookup p.1).isSome) = true)
    (hv : ((M.zip N).all fun q => match (relabel scope X.env).names.lookup q.1 with
      | some .local => false
      | some .cell => q.1 == q.2 && (X.env.scope.names.lookup q.1 == some .cell || X.env.scope.names.lookup q.1 == some .free)
      | some .free => q.1 == q.2 && (X.env.scope.names.lookup q.1 == some .cell || X.env.scope.names.lookup q.1 == some .free)
      | _ => true) = true) : CompOk X M x scope cl := by
  refine ⟨clos, fun y hy => ?_, hk, fun y hy hl => ?_, hx, nd, by rw [hN]; exact hl, fun y c h => hs _ (lookup_mem h), fun y h => ?_, fun i y hy h => ?_⟩
  · have := List.all_eq_true.mp hc y hy
    simpa using this
  · have := List.all_eq_true.mp hn y hy
    simpa [hl] using this
  · rcases h with h | h
    · have := List.all_eq_true.mp hh _ (lookup_mem h)
      exact Option.isSome_iff_exists.mp (by simpa using this)
    · have := List.all_eq_true.mp hh _ (lookup_mem h)
      exact Option.isSome_iff_exists.mp (by simpa using this)
  · have hi : i < N.length := by
      have := (List.getElem?_eq_some_iff.mp hy).1
      omega
    have hz : (y, N[i]) ∈ M.zip N := by
      have : (M.zip N)[i]? = some (y, N[i]) := List.getElem?_zip_eq_some.mpr ⟨hy, by simp [hi]⟩
      exact List.mem_of_getElem? this
    have z := List.all_eq_true.mp hv _ hz
    have fin : y = N[i] → X.N[i]? = some y := fun e => by rw [hN, e]; simp [hi]
    rcases h with h | h | h
    · dsimp only at z
      rw [h] at z; cases z
    · dsimp only at z
      rw [h] at z
      simp only [Bool.and_eq_true, beq_iff_eq, Bool.or_eq_true] at z
      exact ⟨fin z.1, .inl h, z.2⟩
    · dsimp only at z
      rw [h] at z
      simp only [Bool.and_eq_true, beq_iff_eq, Bool.or_eq_true] at z
      exact ⟨fin z.1, .inr h, z.2⟩
def ItrS (lo c : Int) (n : Nat) : It := ⟨fun i _ => i < n, fun i H x H' => H' = H ∧ x = .int (lo + i * c), fun i _ => n ≤ i⟩
def iRng3 (ta : TA) : TI := fun σ H R => ta σ H fun vs H1 => ∃ i j c : Int, vs = [.int i, .int j, .int c] ∧ 0 < c ∧ c < 1073741824 ∧ Builtin.Range.small i j c = true ∧ ∃ n : Nat, (n : Int) = Builtin.Range.rangeSize i j c ∧ R (ItrS i c n) H1
theorem rd_rng3 {ta : TA} {σ : St} {H : Hp} {R : It → Hp → Prop} (h : ta σ H fun vs H1 => ∃ i j c : Int, vs = [.int i, .int j, .int c] ∧ 0 < c ∧ c < 1073741824 ∧ Builtin.Range.small i j c = true ∧ ∃ n : Nat, (n : Int) = Builtin.Range.rangeSize i j c ∧ R (ItrS i c n) H1) : iRng3 ta σ H R := h
theorem dec_int0 {a b : Int} : decide (V.int a = V.int b) = decide (a = b) := by
  rw [Bool.eq_iff_iff]
  simp
theorem rd_append {K : PySem.W.Frag} {i : Nat} {t : TA} {σ : St} {H : Hp} {Q : VK} {l : Addr} {xs : List V} (e : σ[i]? = some (some (.ref l))) (h : H l = some (.lst xs))
    (g : t σ H fun ys H2 => rAppend (.ref l) ys H2 Q) : tBM K "list" rAppend (tVar i) t σ H Q := ⟨_, e, .inl ⟨rfl, _, SqL.of h⟩, g⟩
theorem rd_app {l : Addr} {xs : List V} {y : V} {H : Hp} {Q : VK} (h : H l = some (.lst xs)) (hz : xs.length < sizeLine) (q : Q .non (upd H l (.lst (xs ++ [y])))) : rAppend (.ref l) [y] H Q := ⟨l, xs, y, rfl, rfl, h, hz, q⟩
theorem rd_for {wi : TI} {g : TG} {tb : TS} {D : Ends} {σ : St} {H : Hp} (h : wi σ H fun J H1 => ∃ W : Nat → Nat → St → Hp → Prop, (∃ m, W 0 m σ H1) ∧ ∀ i m σ H, W i m σ H →
  (J.stop i H ∧ D.nx σ H) ∨ (J.go i H ∧ ∃ N : St → Hp → Prop, (∀ σ' H', N σ' H' → ∃ m', m' < m ∧ W (i + 1) m' σ' H') ∧ ∀ x H', J.yld i H x H' → g x σ H' fun σ2 H2 => tb { D with nx := N, ct := N, bk := D.nx } σ2 H2)) : tFor wi g tb D σ H := h
theorem rd_iL {K : PySem.W.Frag} {tl : TE} {σ : St} {H : Hp} {R : It → Hp → Prop} (h : tl σ H fun x H1 => ∃ a, x = .ref a ∧ (∃ xs, SqL K H1 a xs) ∧ R (Itl K a) H1) : iList K tl σ H R := h
theorem rd_iT {K : PySem.W.Frag} {tl : TE} {σ : St} {H : Hp} {R : It → Hp → Prop} (h : tl σ H fun x H1 => ∃ a, x = .ref a ∧ (∃ xs, SqT K H1 a xs) ∧ R (Itt K a) H1) : iTup K tl σ H R := h
theorem same_app {H H' : Hp} {l : Addr} {o : HO} (h : H l = none) (s : Same H H') : Same H (upd H' l o) := fun b u e => by
  rw [upd_ne (ne_of_none e h)]
  exact s b u e
end
end L2

set_option Elab.async false
set_option linter.all false
set_option maxRecDepth 100000
set_option maxHeartbeats 4000000
namespace L2
open PySem PySem.Spec PyProof.Rows
/-- the object at e: its class, its dict, its head of tracebacks -/
def XObj (h : Heap) (e : Addr) (cls : Value) (dd : Option Addr) (head : Value) : Prop := ∃ vs sl, h.get? e = some ⟨cls, dd, .fields vs, sl⟩ ∧ vs[1]? = some head
/-- a traceback stands at its head, with the flight mark fl -/
def XTr (h base : Heap) (e : Addr) (cls : Value) (dd : Option Addr) (fl : Value) : Prop := ∃ T, XObj h e cls dd (.ref T) ∧ base.get? T = none ∧ T ≠ e ∧ ∃ oT ts, h.get? T = some oT ∧ oT.data = .fields ts ∧ ts[3]? = some fl
structure Sea (base : Heap) (l : List Env) (e : Addr) (h : Heap) : Prop where
  stays : base.StaysIn h
  new : base.get? e = none
  frames : h.FunFrames base l
section
variable {M : Model} {A : Around} {E : Value → Shared → Prop} {s : Shared} {base : Heap} {env : Env} {outer l : List Env} {L e : Addr} {cls : Value} {dd : Option Addr}
theorem fields_set {o : Obj} {vs : Array Value} (hd : o.data = .fields vs) (i : Nat) (x : Value) : Obj.mapFields (·.setIfInBounds i x) o = ⟨o.cls, o.dict, .fields (vs.setIfInBounds i x), o.slots⟩ := by
  obtain ⟨c, d, dt, sl⟩ := o
  cases hd
  rfl
/-- the entry is laid and put at the exception's head -/
theorem entry_x {head : Value} {nx : Bool} {Q : Unit → Shared → Prop} (hfr : A.frames = some (env :: outer)) (hf : env.frame = some L) (S : Sea base (env :: outer) e s.heap) {hd0 : Value} (O : XObj s.heap e cls dd hd0)
    (k : ∀ h', Sea base (env :: outer) e h' → XTr h' base e cls dd (rawInt L) → s.heap.UpToSlots h' → Q () { s with heap := h' }) :
    wpAny M A (do let a ← frameOf env; let pl ← entryPlaceOf L nx; let b ← EntryCells.newEntry head a .none (rawInt L) .none pl; setField (.ref e) 1 b) Q E s := by
  obtain ⟨vs, sl, he, h1⟩ := O
  have nofr : e ∉ (env :: outer).filterMap (·.frame) := fun z => by
    obtain ⟨_, o, ho, hn⟩ := S.frames.mem z
    rw [he] at ho
    cases ho
    exact hn vs rfl
  refine wpAny_bind (wpAny_frameOf_fun hfr S.frames hf fun g1 so => wpAny_bind (wpAny_entryPlaceOf fun pl hpl => ?_))
  unfold EntryCells.newEntry newFields; refine wpAny_bind (wpAny_newObj_type ?_ (hpl.sizeOk5 _ _ _ _ _))
  generalize hob : ({ cls := .type "traceback", dict := none, data := .fields ([head, .ref L, .none, rawInt L, .none] ++ (if pl.isEmpty then List.replicate 6 Value.none else pl)).toArray } : Obj) = tb
  have e1 : g1.get? e = some ⟨cls, dd, .fields vs, sl⟩ := (so.2.1 e nofr).trans he
  have b1 : base.StaysIn g1 := fun b o q => (so.2.1 b fun z => by rw [(S.frames.mem z).1] at q; cases q).trans (S.stays b o q)
  have e2 : (g1.push tb).get? e = some ⟨cls, dd, .fields vs, sl⟩ := Heap.get?_push_of_some _ e1
  have ne : g1.objs.size ≠ e := Nat.ne_of_gt (Heap.lt_size e1)
  have sz : 1 < vs.size := (Array.getElem?_eq_some_iff.mp h1).1
  have tbf : tb.isFreed = false := by rw [← hob]; rfl
  refine wpAny_setField e2 rfl sz (k _ ⟨fun b o q => ?_, S.new, ?_⟩ ?_ ?_)
  · have hbe : b ≠ e := fun z => by rw [z, S.new] at q; cases q
    rw [Heap.get?_update_other _ _ (Ne.symm hbe)]
    exact Heap.get?_push_of_some _ (b1 b o q)
  · refine S.frames.of_keeps fun b o q hn => ?_
    have hbe : b ≠ e := fun z => by rw [z, he] at q; cases q; exact hn vs rfl
    obtain ⟨sl', q'⟩ := so.2.2 b o q
    refine ⟨{ o with slots := sl' }, ?_, rfl⟩
    rw [Heap.get?_update_other _ _ (Ne.symm hbe)]
    exact Heap.get?_push_of_some _ q'
  · refine ⟨g1.objs.size, ⟨vs.setIfInBounds 1 (.ref g1.objs.size), sl, ?_, ?_⟩, b1.fresh, ne, tb, ([head, .ref L, .none, rawInt L, .none] ++ (if pl.isEmpty then List.replicate 6 Value.none else pl)).toArray, ?_, by rw [← hob], ?_⟩
    · rw [Heap.get?_update_self _ e2 (by rw [fields_set rfl]; rfl), fields_set rfl]
    · rw [Array.getElem?_setIfInBounds_self_of_lt sz]
    · rw [Heap.get?_update_other _ _ (Ne.symm ne)]
      exact Heap.get?_push_size _ tbf
    · simp
  · intro b o q hn
    have hbe : b ≠ e := fun z => by rw [z, he] at q; cases q; exact hn vs rfl
    obtain ⟨sl', q'⟩ := so.2.2 b o q
    refine ⟨sl', ?_⟩
    rw [Heap.get?_update_other _ _ (Ne.symm hbe)]
    exact Heap.get?_push_of_some _ q'
/-- the exception is new: no frame has noted it -/
theorem note_new {Q : Unit → Shared → Prop} (hfr : A.frames = some (env :: outer)) (hf : env.frame = some L) (S : Sea base (env :: outer) e s.heap) (O : XObj s.heap e cls dd .none)
    (k : ∀ h', Sea base (env :: outer) e h' → XTr h' base e cls dd (rawInt L) → s.heap.UpToSlots h' → Q () { s with heap := h' }) : wpAny M A (noteFrame (.ref e) env) Q E s := by
  obtain ⟨vs, sl, he, h1⟩ := id O
  unfold noteFrame
  simp only [hf]
  refine wpAny_bind (wpAny_field he rfl h1 ?_)
  rw [if_neg (by decide)]
  exact entry_x hfr hf S O k
/-- it flies in from a callee -/
theorem note_on {Q : Unit → Shared → Prop} (hfr : A.frames = some (env :: outer)) (hf : env.frame = some L) (S : Sea base (env :: outer) e s.heap) (O : XTr s.heap base e cls dd .none)
    (k : ∀ h', Sea base (env :: outer) e h' → XTr h' base e cls dd (rawInt L) → s.heap.UpToSlots h' → Q () { s with heap := h' }) : wpAny M A (noteFrame (.ref e) env) Q E s := by
  obtain ⟨T, ⟨vs, sl, he, h1⟩, tb, ne, oT, ts, hT, dT, h3⟩ := O
  unfold noteFrame
  simp only [hf]
  refine wpAny_bind (wpAny_field he rfl h1 ?_)
  rw [if_pos (show (Value.ref T != Value.none) = true by simp)]
  refine wpAny_bind (wpAny_field hT dT h3 ?_)
  rw [if_neg (show ¬ ((Value.none == rawInt L) = true) by simp [rawInt])]
  refine wpAny_bind (wpAny_setField hT dT (Array.getElem?_eq_some_iff.mp h3).1 ?_)
  have oth : ∀ b, b ≠ T → (s.heap.update T (Obj.mapFields (·.setIfInBounds 3 Value.none))).get? b = s.heap.get? b := fun b hb => Heap.get?_update_other _ _ (Ne.symm hb)
  have nT : ∀ b o, s.heap.get? b = some o → (∀ ws, o.data ≠ .fields ws) → b ≠ T := fun b o q hn z => by
    rw [z, hT] at q
    cases q
    exact hn ts dT
  refine entry_x (hd0 := .ref T) (s := { s with heap := s.heap.update T (Obj.mapFields (·.setIfInBounds 3 Value.none)) }) hfr hf ⟨fun b o q => ?_, S.new, ?_⟩ ⟨vs, sl, (oth e (Ne.symm ne)).trans he, h1⟩ fun h' a b c => k h' a b fun x o q hn => ?_
  · exact (oth b fun z => by rw [z, tb] at q; cases q).trans (S.stays b o q)
  · exact S.frames.of_keeps fun b o q hn => ⟨o, (oth b (nT b o q hn)).trans q, rfl⟩
  · exact c x o ((oth x (nT x o q hn)).trans q) hn
theorem flight_off {fl : Value} {Q : Unit → Shared → Prop} (S : Sea base l e s.heap) (O : XTr s.heap base e cls dd fl)
    (k : ∀ h', Sea base l e h' → XTr h' base e cls dd .none → s.heap.UpToSlots h' → Q () { s with heap := h' }) : wpAny M A (setFlight (.ref e) none) Q E s := by
  obtain ⟨T, ⟨vs, sl, he, h1⟩, tb, ne, oT, ts, hT, dT, h3⟩ := O
  have sz : 3 < ts.size := (Array.getElem?_eq_some_iff.mp h3).1
  unfold setFlight
  refine wpAny_bind (wpAny_field he rfl h1 ?_)
  rw [if_pos (show (Value.ref T != Value.none) = true by simp)]
  have oth : ∀ b, b ≠ T → (s.heap.update T (Obj.mapFields (·.setIfInBounds 3 ((none : Option Addr).elim Value.none fun f => rawInt f)))).get? b = s.heap.get? b := fun b hb => Heap.get?_update_other _ _ (Ne.symm hb)
  have nT : ∀ b o, s.heap.get? b = some o → (∀ ws, o.data ≠ .fields ws) → b ≠ T := fun b o q hn z => by
    rw [z, hT] at q
    cases q
    exact hn ts dT
  refine wpAny_setField hT dT sz (k _ ⟨fun b o q => ?_, S.new, ?_⟩ ⟨T, ⟨vs, sl, (oth e (Ne.symm ne)).trans he, h1⟩, tb, ne, _, ts.setIfInBounds 3 .none, Heap.get?_update_self _ hT ?_, ?_, ?_⟩ fun b o q hn => ⟨o.slots, (oth b (nT b o q hn)).trans q⟩)
  · exact (oth b fun z => by rw [z, tb] at q; cases q).trans (S.stays b o q)
  · exact S.frames.of_keeps fun b o q hn => ⟨o, (oth b (nT b o q hn)).trans q, rfl⟩
  · rw [fields_set dT]; rfl
  · rw [fields_set dT]; rfl
  · rw [Array.getElem?_setIfInBounds_self_of_lt sz]
theorem Sea.tail (S : Sea base (env :: outer) e s.heap) : Sea base outer e s.heap := ⟨S.stays, S.new, S.frames.2.2⟩
theorem leave_new {Q : Unit → Shared → Prop} (hfr : A.frames = some (env :: outer)) (hf : env.frame = some L) (S : Sea base (env :: outer) e s.heap) (O : XObj s.heap e cls dd .none)
    (k : ∀ h', Sea base outer e h' → XTr h' base e cls dd .none → s.heap.UpToSlots h' → Q () { s with heap := h' }) : wpAny M A (leaving env (.ref e)) Q E s := by
  unfold leaving
  refine wpAny_bind (note_new hfr hf S O fun h1 S1 O1 u1 => ?_)
  exact flight_off (s := { s with heap := h1 }) S1 O1 fun h2 S2 O2 u2 => k h2 (Sea.tail (s := { s with heap := h2 }) S2) O2 (u1.trans u2)
theorem leave_on {Q : Unit → Shared → Prop} (hfr : A.frames = some (env :: outer)) (hf : env.frame = some L) (S : Sea base (env :: outer) e s.heap) (O : XTr s.heap base e cls dd .none)
    (k : ∀ h', Sea base outer e h' → XTr h' base e cls dd .none → s.heap.UpToSlots h' → Q () { s with heap := h' }) : wpAny M A (leaving env (.ref e)) Q E s := by
  unfold leaving
  refine wpAny_bind (note_on hfr hf S O fun h1 S1 O1 u1 => ?_)
  exact flight_off (s := { s with heap := h1 }) S1 O1 fun h2 S2 O2 u2 => k h2 (Sea.tail (s := { s with heap := h2 }) S2) O2 (u1.trans u2)
end
end L2

set_option Elab.async false
set_option linter.all false
set_option maxRecDepth 100000
set_option maxHeartbeats 4000000
namespace L2
open PySem PySem.Spec PyProof.Rows
/-- B holds what stood in h (but the frames at fs), what H does not track unchanged -/
def Old (fs : List Addr) (H : Hp) (h B : Heap) : Prop := ∀ b u, h.get? b = some u → b ∉ fs → ∃ u', B.get? b = some u' ∧ (H b = none → u' = u)
/-- B holds what is tracked -/
def Tra (H : Hp) (h B : Heap) : Prop := ∀ b o, H b = some o → ∃ u, h.get? b = some u ∧ B.get? b = some u
section
variable {P : Program} {w : World} {fs : List Addr} {H H' : Hp} {h h1 h2 B : Heap}
theorem un_flown (u : Un fs [] H H' h h1) (o : Old fs H h B) (st : B.StaysIn h2) (up : h1.UpToSlots h2) (fr : ∀ b ∈ fs, ∃ ob, h1.get? b = some ob ∧ ∀ vs, ob.data ≠ .fields vs) : Un fs [] H H' h h2 where
  keep := fun b ob q n hb hx => by
    obtain ⟨u', e, z⟩ := o b ob q hb
    rw [z n] at e
    exact st _ _ e
  slot := fun b ob q n hb hx => by
    obtain ⟨sl, e⟩ := u.slot b ob q n hb hx
    obtain ⟨o2, e2, nf⟩ := fr b hb
    rw [e] at e2
    cases e2
    obtain ⟨sl', e3⟩ := up b _ e nf
    exact ⟨sl', e3⟩
  free := u.free
  there := fun b ob q hx => by
    by_cases hb : b ∈ fs
    · obtain ⟨o2, e2, nf⟩ := fr b hb
      obtain ⟨sl, e3⟩ := up b _ e2 nf
      exact ⟨_, e3⟩
    · obtain ⟨u', e, _⟩ := o b ob q hb
      exact ⟨u', st _ _ e⟩
  tups := u.tups
  frzs := u.frzs
  tbls := u.tbls
theorem hok_flown (ok : HOk P w H' h1) (t : Tra H' h1 B) (st : B.StaysIn h2) : HOk P w H' h2 := fun a o e => by
  refine (ok a o e).stay (fun b u hb q => ?_) (fun _ q => q) fun _ _ q => q
  have go : ∀ ob, H' b = some ob → h2.get? b = some u := fun ob z => by
    obtain ⟨u', e1, e2⟩ := t b ob z
    rw [q] at e1
    cases e1
    exact st _ _ e2
  rcases hb with z | z
  · exact go o (z ▸ e)
  · exact go _ z
theorem Tra.later (t : Tra H' h1 B) (st : B.StaysIn h2) : Tra H' h2 B := fun b o e => by
  obtain ⟨u, _, q⟩ := t b o e
  exact ⟨u, st _ _ q, q⟩
end
/-- how an exception lies behind a call -/
def CX1 (P : Program) (w : World) : CXT := fun outer H s E e s' => ∃ (ea : Addr) (cls : Value) (dx : Option Addr) (B : Heap) (H' : Hp), e = .ref ea ∧ s'.os = s.os ∧ AllBare s'.gens ∧ Un (frs outer) [] H H' s.heap s'.heap ∧
  HOk P w H' s'.heap ∧ Sea B outer ea s'.heap ∧ XTr s'.heap B ea cls dx .none ∧ Old (frs outer) H s.heap B ∧ Tra H' s'.heap B ∧ E cls dx H'
/-- how a new exception lies, ahead of the first frame that notes it -/
def CXM (P : Program) (w : World) : CXT := fun outer H s E e s' => ∃ (ea : Addr) (cls : Value) (dx : Option Addr) (B : Heap) (H' : Hp), e = .ref ea ∧ s'.os = s.os ∧ AllBare s'.gens ∧ Un (frs outer) [] H H' s.heap s'.heap ∧
  HOk P w H' s'.heap ∧ Sea B outer ea s'.heap ∧ XObj s'.heap ea cls dx .none ∧ Old (frs outer) H s.heap B ∧ Tra H' s'.heap B ∧ E cls dx H'
/-- what a context makes of exceptions; EE: what is wanted of the class, the dict, the names and the heap -/
structure Thr (X : Cx) (EE : Value → Option Addr → St → Hp → Prop) : Prop where
  call : ∀ (pins : List (Addr × Obj)) (σ : St) (H : Hp) (s : Shared) (e : Value) (s' : Shared), Inv X pins σ H s → CX1 X.prog X.w X.stack H s (fun c d H' => EE c d σ H') e s' → X.xe e s'
  made : ∀ (pins : List (Addr × Obj)) (σ : St) (H : Hp) (s : Shared) (e : Value) (s' : Shared), Inv X pins σ H s → CXM X.prog X.w X.stack H s (fun c d H' => EE c d σ H') e s' → X.xe e s'
section
variable {X : Cx} {pins : List (Addr × Obj)} {σ : St} {H H' : Hp} {s : Shared}
theorem frames_are (I : Inv X pins σ H s) {s' : Shared} (u : Un (frs X.stack) [] H H' s.heap s'.heap) : ∀ b ∈ frs X.stack, ∃ ob, s'.heap.get? b = some ob ∧ ∀ vs, ob.data ≠ .fields vs := fun b hb => by
  obtain ⟨_, o, ho, hn⟩ := I.stack.mem hb
  obtain ⟨sl, e⟩ := u.any ho (I.stkFree b hb) (by simp)
  exact ⟨_, e, hn⟩
/-- from a body's frame to its callers' -/
theorem un_out {s2 : Heap} (I : Inv X pins σ H s) (hx : X.ex = []) (hst : X.stack = X.env :: X.outer) (hfr : X.env.frame = some X.env.locals) (u : Un (frs X.stack) [] H H' s.heap s2) : Un X.fs [] X.H₀ H' X.s₀.heap s2 := by
  have nl : ∀ b o, X.s₀.heap.get? b = some o → b ≠ X.env.locals := fun b o e => Nat.ne_of_lt (Nat.lt_of_lt_of_le (Heap.lt_size e) I.ok.above)
  have sub : ∀ b, b ∈ frs X.stack → b = X.env.locals ∨ b ∈ X.fs := fun b hb => List.mem_cons.mp (I.stkSub b hb)
  have sup : ∀ b, b ∈ X.fs → b ∈ frs X.stack := fun b hb => by
    rw [hst]
    show b ∈ (X.env :: X.outer).filterMap (·.frame)
    rw [List.filterMap_cons, hfr]
    exact List.mem_cons_of_mem _ hb
  have ie : ∀ b, b ∉ X.ex := fun b => by rw [hx]; simp
  exact {
    keep := fun b o e n hb _ => u.keep b o (I.base.keep b o e n hb (ie b)) (I.base.free b o e n (ie b)) (fun z => (sub b z).elim (nl b o e) hb) (by simp)
    slot := fun b o e n hb _ => by
      obtain ⟨sl, e1⟩ := I.base.slot b o e n hb (ie b)
      obtain ⟨sl', e2⟩ := u.slot b _ e1 (I.base.free b o e n (ie b)) (sup b hb) (by simp)
      exact ⟨sl', e2⟩
    free := fun b o e n _ => by
      obtain ⟨o', e1⟩ := I.base.there b o e (ie b)
      exact u.free b o' e1 (I.base.free b o e n (ie b)) (by simp)
    there := fun b o e _ => by
      obtain ⟨o', e1⟩ := I.base.there b o e (ie b)
      exact u.there b o' e1 (by simp)
    tups := fun b xs e => u.tups b xs (I.base.tups b xs e)
    frzs := fun b o xs e => u.frzs b o xs (I.base.frzs b o xs e)
    tbls := fun b ps e => by
      obtain ⟨m1, e1⟩ := I.base.tbls b ps e
      obtain ⟨m2, e2⟩ := u.tbls b _ e1
      exact ⟨m1 ++ m2, by rw [e2, Array.append_assoc]⟩ }
theorem old_out {B : Heap} (I : Inv X pins σ H s) (hx : X.ex = []) (o : Old (frs X.stack) H s.heap B) : Old X.fs X.H₀ X.s₀.heap B := fun b u e hb => by
  have ie : b ∉ X.ex := by rw [hx]; simp
  have hs : b ∉ frs X.stack := fun z => (List.mem_cons.mp (I.stkSub b z)).elim (fun q => Nat.lt_irrefl _ (Nat.lt_of_lt_of_le (Heap.lt_size e) (q ▸ I.ok.above))) hb
  obtain ⟨o', e1⟩ := I.base.there b u e ie
  obtain ⟨u', e2, z⟩ := o b o' e1 hs
  refine ⟨u', e2, fun n => ?_⟩
  have e3 := I.base.keep b u e n hb ie
  rw [e1] at e3
  cases e3
  exact z (I.base.free b _ e n ie)
end
theorem ObjOk.obj {P : Program} {w : World} {H : Hp} {h : Heap} {a : Addr} {o : HO} (x : ObjOk P w H h a o) : ∃ u, h.get? a = some u := by
  cases o with
  | lst xs => obtain ⟨_, _, _, _, e⟩ := x; exact ⟨_, e⟩
  | tup xs => obtain ⟨_, _, _, ob, e, _⟩ := x; exact ⟨_, e⟩
  | dK kvs => obtain ⟨_, _, _, _, ob, _, _, e, _⟩ := x; exact ⟨_, e⟩
  | dT kvs => obtain ⟨_, _, _, _, ob, _, _, e, _⟩ := x; exact ⟨_, e⟩
  | set S n => obtain ⟨ob, _, _, _, e, _⟩ := x; exact ⟨_, e⟩
  | ins C dx fs => obtain ⟨_, _, _, e, _⟩ := x; exact ⟨_, e⟩
  | own y => exact x
  | xd fs => obtain ⟨_, ⟨ob, _, _, e, _⟩, _⟩ := x; exact ⟨_, e⟩
  | rng lo hi => obtain ⟨_, _, _, e⟩ := x; exact ⟨_, e⟩
  | frz ob u => exact ⟨_, x.1⟩
  | tbl ps => exact ⟨_, x⟩
  | met f y => exact ⟨_, x⟩
  | ext φ => exact x.2.1
/-- an exception just made -/
theorem cxm_made {X : Cx} {pins : List (Addr × Obj)} {σ : St} {H H' : Hp} {s s' : Shared} {e : Addr} {cls : Value} {dx : Option Addr} {E : XK} (I : Inv X pins σ H s) (I' : Inv X pins σ H' s') (un : Un (frs X.stack) [] H H' s.heap s'.heap) (os : s'.os = s.os) (O : XObj s'.heap e cls dx .none) (hn : s.heap.get? e = none) (hn' : H' e = none)
    (q : E cls dx H') : CXM X.prog X.w X.stack H s E (.ref e) s' := by
  refine ⟨e, cls, dx, PySem.W.hideAll s'.heap (e :: frs X.stack), H', rfl, os, I'.bare, un, I'.hok, ⟨fun b o z => PySem.W.of_hideAll _ z, PySem.W.hideAll_none _ (by simp), ?_⟩, O, fun b u z hb => ?_, fun b o z => ?_, q⟩
  · refine PySem.W.funFrames_hide I'.stack fun env he a ha => List.mem_cons_of_mem _ ?_
    exact List.mem_filterMap.mpr ⟨env, he, ha⟩
  · have ne : b ∉ e :: frs X.stack := fun hm => (List.mem_cons.mp hm).elim (fun r => by rw [r, hn] at z; cases z) hb
    obtain ⟨u', e1⟩ := un.there b u z (by simp)
    refine ⟨u', PySem.W.hideAll_get _ e1 ne, fun n => ?_⟩
    have e2 := un.keep b u z n hb (by simp)
    rw [e1] at e2
    cases e2
    rfl
  · obtain ⟨u, hu⟩ := (I'.hok b o z).obj
    refine ⟨u, hu, PySem.W.hideAll_get _ hu fun hm => ?_⟩
    rcases List.mem_cons.mp hm with r | r
    · rw [r, hn'] at z; cases z
    · rw [I'.stkFree b r] at z; cases z
/-- a def's body: an exception leaves the frame -/
theorem thr_fn {P : Program} {w : World} {K : PySem.W.Frag} {mg : Str → Option Value} {base : Heap} {N : List Str} {qual : Str} {scope : Scope} {f : Addr} {cd : Value} {A : Around} {outer : List Env} {s₀ : Shared} {H₀ : Hp} {E : XK} :
    Thr (cxOf (CX1 P w) P w K mg base N qual scope f cd A outer s₀ H₀ E) (fun c d _ H' => E c d H') where
  call := by
    rintro pins σ H s e s' I ⟨ea, cls, dx, B, H', rfl, os, bare, un, hok, sea, tr, old, tra, q⟩
    refine leave_on (A := (cxOf (CX1 P w) P w K mg base N qual scope f cd A outer s₀ H₀ E).A) (I.ok.frames) rfl sea tr fun h2 S2 O2 u2 => ?_
    refine ⟨ea, cls, dx, B, H', rfl, os.trans I.os, bare, ?_, hok_flown hok tra S2.stays, S2, O2, old_out I rfl old, tra.later S2.stays, q⟩
    exact un_out I rfl rfl rfl (un_flown un old S2.stays u2 (frames_are I un))
  made := by
    rintro pins σ H s e s' I ⟨ea, cls, dx, B, H', rfl, os, bare, un, hok, sea, tr, old, tra, q⟩
    refine leave_new (A := (cxOf (CX1 P w) P w K mg base N qual scope f cd A outer s₀ H₀ E).A) (I.ok.frames) rfl sea tr fun h2 S2 O2 u2 => ?_
    refine ⟨ea, cls, dx, B, H', rfl, os.trans I.os, bare, ?_, hok_flown hok tra S2.stays, S2, O2, old_out I rfl old, tra.later S2.stays, q⟩
    exact un_out I rfl rfl rfl (un_flown un old S2.stays u2 (frames_are I un))
end L2

set_option Elab.async false
set_option linter.all false
set_option maxRecDepth 100000
set_option maxHeartbeats 4000000
namespace L2
open PySem PySem.Spec PyProof.Rows
section
variable {P : Program} {w : World} {K : PySem.W.Frag} {mg : Str → Option Value} {base : Heap}
theorem Fun.okE {x qual : Str} {st : Stmt} {f : Addr} {fd : FuncData} {N ps : List Str} {k : Nat} {sp : Sp} (F : Fun K x qual st f fd) (S : FnScope N ps (defScope st)) (len : ∀ vs H Q E, sp vs H Q E → vs.length = ps.length)
    (hbody : ∀ (cdv : Value) (A : Around) (outer : List Env) (s : Shared) (H : Hp) (vs : List V) (Q : VK) (E : XK), Room k (A.deeper (envOfC qual (defScope st) s.heap.objs.size f cdv)) → sp vs H Q E →
      Thr (cxOf (CX1 P w) P w K mg base N qual (defScope st) f cdv A outer s H E) (fun c d _ H' => E c d H') →
      ∃ t, PSs (cxOf (CX1 P w) P w K mg base N qual (defScope st) f cdv A outer s H E) (defBody st) t ∧ t { nx := fun _ H' => Q .non H', rt := Q } (start N vs) H) : FnOk P w K mg base (CX1 P w) (k + 1) f fd ps sp := by
  obtain ⟨oc, od, kV, doc, pm, an, cdv, ct, osl, rfl, lk, hcd⟩ := F.ex
  exact fn_of lk hcd S len fun A outer s H vs Q E hr hsp => hbody cdv A outer s H vs Q E hr hsp thr_fn
end
def tCallE (sp : Sp) (EE : Value → Option Addr → St → Hp → Prop) (t : TA) : TE := fun σ H Q => t σ H fun vs H1 => sp (vs ++ []) H1 Q (fun c d H' => EE c d σ H')
section
variable {X : Cx} {EE : Value → Option Addr → St → Hp → Prop}
theorem exc_cls {K : PySem.W.Frag} {h : Heap} {C : Addr} {bmB : List Value} {newId : String} (KX : K.In h) (q : PySem.W.excIn K C bmB newId = true) :
    ∃ bm N nm qn bs hd sn sub ab col dd k0 k1 k2 k3 k5 mN, h.get? C = some (excClassObj nm qn C N bs bm hd sn sub ab col dd k0 k1 k2 k3 k5 newId) ∧ h.Ns N mN ∧ mN "__init__" = none ∧ OwnTail h bmB bm := by
  unfold PySem.W.excIn at q
  split at q
  · rename_i dd cd sl ho
    split at q
    · rename_i C' bm k0 k1 k2 k3 n k5 hm hs
      simp only [Bool.and_eq_true, beq_iff_eq, Bool.not_eq_true'] at q
      obtain ⟨⟨⟨⟨⟨e1, e2⟩, hdel⟩, ht⟩, hok⟩, hni⟩ := q
      subst e1 e2
      obtain ⟨nm, bs, mro, ns, qn, hd, sn, sub, ab, col, del⟩ := cd
      dsimp only at hm hdel hok hni
      subst hm hdel
      obtain ⟨l⟩ := sl
      dsimp only at hs
      subst hs
      exact ⟨bm, ns, nm, qn, bs, hd, sn, sub, ab, col, dd, k0, k1, k2, k3, k5, _, KX _ _ ho, .of_isNs (PySem.W.isNs_of_in KX hok), PySem.W.nsMap_none_of_in KX hok hni, PySem.W.tail_of_in KX ht⟩
    · cases q
  · cases q
abbrev bmV : List Value := [.type "ValueError", .type "Exception", .type "BaseException", .type "object"]
/-- a class of the text under ValueError, without an __init__ of its own or of those between -/
structure XCls (K : PySem.W.Frag) (mg : Str → Option Value) (x : Str) (C : Addr) : Prop where
  bound : mg x = some (.ref C)
  exc : PySem.W.excIn K C bmV "ValueError.__new__" = true
def tRaise (C : Addr) (EE : Value → Option Addr → St → Hp → Prop) (ta : TA) : TS := fun _ σ H => ta σ H fun vs H1 => vs.length ≤ sizeLine ∧ EE (.ref C) none σ H1
theorem ps_raise {x : Str} {C : Addr} {e : Expr} {es : List Expr} {t : TA} {np cpos pos : Pos} (T : Thr X EE) (hc : X.calm = true) (O : XCls X.K X.mg x C) (hg : Gl X x) (ha : PA X (e :: es) t)
    (hdb : (x == ("__debug__" : Str)) = false := by decide) (he : starEach (e :: es) X.env = (false, eval e X.env) :: starEach es X.env := by rfl) (hpl : (backTo cpos (starEach es X.env)).any (·.1) = false := by rfl) :
    PS X (.Raise (some (.Call (.Name x np) (e :: es) [] cpos)) none pos) (tRaise C EE t) := by
  intro pins s σ H D I h
  obtain ⟨tl, N, nm, qn, bs, hd, sn, sub, ab, col, dd, k0, k1, k2, k3, k5, mN, hC, hN, hni, TL⟩ := exc_cls I.ok.mod.kin O.exc
  have FV := PySem.F.excBase_ValueError
  refine wpAny_Raise_call_subU (C := C) (nm := nm) (q := qn) (N := N) (bs := bs) (bm := tl) (hdct := hd) (sn := sn) (sub := sub) (ab := ab) (col := col) (dd := dd) (k0 := k0) (k1 := k1) (k2 := k2) (k3 := k3) (k5 := k5)
    FV (by decide +kernel) FV (mN := mN) (TL.hasType FV.hasBase) (I.ok.hd hc) ?_ hni (ld_glob I hg O.bound ⟨rfl, ?_⟩ hdb)
  · rw [he]
    show (false || (backTo cpos (starEach es X.env)).any (·.1)) = false
    rw [hpl]; rfl
  have hh := thn (ha cpos pins s σ H _ I h) (Q' := fun vs s₂ => vs.length ≤ sizeLine ∧ (∀ b o, X.base.get? b = some o → s₂.heap.get? b = some o) ∧ ∀ h' ea, Heap.MadeExcOf s₂.heap h' ea (.ref C) vs → X.xe (.ref ea) { s₂ with heap := h' }) fun us s1 ⟨vs, H1, I1, r, hz, q⟩ => by
    refine ⟨by rw [← r.length]; exact hz, I1.bk, fun h' ea M => ?_⟩
    obtain ⟨ta, e1, _, _⟩ := M.there
    have I2 : Inv X pins σ H1 { s1 with heap := h' } := I1.kept (t' := s1.toks) M.keeps
    have hn : H1 ea = none := by
      cases z : H1 ea with
      | none => rfl
      | some o =>
        obtain ⟨u, hu⟩ := (I1.hok ea o z).obj
        rw [M.new] at hu; cases hu
    exact T.made pins σ H1 s1 _ _ I1 (cxm_made I1 I2 (Un.kept M.keeps) rfl ⟨_, #[], e1, rfl⟩ M.new hn q)
  rw [he] at hh ⊢
  exact Calls.evalArgs_plain (thn hh fun vs s₂ h₂ => ⟨rfl, h₂.1, h₂.2.1 _ _ hC, hN.keeps h₂.2.1, TL.keeps h₂.2.1, h₂.2.2⟩)
end
end L2

set_option Elab.async false
set_option linter.all false
set_option maxRecDepth 100000
set_option maxHeartbeats 4000000
namespace L2
open PySem PySem.Spec PyProof.Rows
theorem Inv.re {X Y : Cx} {pins pins' : List (Addr × Obj)} {σ : St} {H : Hp} {s : Shared} (I : Inv X pins σ H s) (ok : Y.Ok) (e1 : Y.prog = X.prog) (e2 : Y.w = X.w) (e3 : Y.s₀ = X.s₀) (e4 : Y.outer = X.outer) (e5 : Y.ex = X.ex) (e6 : Y.H₀ = X.H₀) (e7 : Y.env = X.env) (e8 : Y.N = X.N)
    (hp : ∀ p ∈ Y.pn ++ pins', p ∈ X.pn ++ pins) : Inv Y pins' σ H s := by
  obtain ⟨P, w, K, mg, base, A, N, s₀, H₀, env, outer, stack, ex, fn, calm, pn, xe⟩ := X
  obtain ⟨P', w', K', mg', base', A', N', s₀', H₀', env', outer', stack', ex', fn', calm', pn', xe'⟩ := Y
  dsimp only at e1 e2 e3 e4 e5 e6 e7 e8
  subst e1 e2 e3 e4 e5 e6 e7 e8
  exact ⟨ok, I.os, I.bare, I.base, I.loc, I.cell, I.free, I.freeC, fun p h => I.pin p (hp p h), I.hok, I.len⟩
/-- within a try: another wish, the pins kept -/
abbrev Cx.tr (X : Cx) (xe : Value → Shared → Prop) (pn : List (Addr × Obj)) : Cx := { X with xe := xe, pn := pn }
/-- within a handler: the exception is marked, nothing is raised -/
abbrev Cx.hd (X : Cx) (e : Addr) : Cx := { X with A := X.A.mark (some (.ref e)), calm := false, xe := fun _ _ => False }
theorem Cx.Ok.tr {X : Cx} (ok : X.Ok) (xe : Value → Shared → Prop) (pn : List (Addr × Obj)) : (X.tr xe pn).Ok :=
  ⟨ok.mod, ok.kind, ok.glob, ok.blt, ok.above, ok.inj, ok.has, ok.cab, ok.hd, ok.frames, ok.stk, ok.exf, ok.bs, ok.bsz, ok.noex, ok.exfs, ok.funs, ok.frf⟩
theorem Cx.Ok.hdl {X : Cx} (ok : X.Ok) (e : Addr) : (X.hd e).Ok :=
  ⟨ok.mod, ok.kind, ok.glob, ok.blt, ok.above, ok.inj, ok.has, ok.cab, (fun h => nomatch h), ok.frames, ok.stk, ok.exf, ok.bs, ok.bsz, ok.noex, ok.exfs, ok.funs, ok.frf⟩
/-- the exception object at ea, tracked: its class and its dict -/
def ExcO (a : Addr) (cls : Value) (dx : Option Addr) : HO := .ext fun h => ∃ vs sl, h.get? a = some ⟨cls, dx, .fields vs, sl⟩
structure Fl (X : Cx) (pins : List (Addr × Obj)) (σ : St) (H : Hp) (s' : Shared) (ea : Addr) (cls : Value) (dx : Option Addr) : Prop where
  ex : ∃ (s₀ : Shared) (H₀ : Hp) (B : Heap), Inv X pins σ H₀ s₀ ∧ s'.os = s₀.os ∧ AllBare s'.gens ∧ Un (frs X.stack) [] H₀ H s₀.heap s'.heap ∧ HOk X.prog X.w H s'.heap ∧ Sea B X.stack ea s'.heap ∧ XTr s'.heap B ea cls dx .none ∧ Old (frs X.stack) H₀ s₀.heap B ∧ Tra H s'.heap B
section
variable {X : Cx} {pins : List (Addr × Obj)} {σ : St} {H : Hp} {s : Shared} {ea : Addr} {cls : Value} {dx : Option Addr}
theorem Fl.inv (F : Fl X pins σ H s ea cls dx) : Inv X pins σ H s := by
  obtain ⟨s₀, H₀, B, I, os, bare, un, hok, _⟩ := F.ex
  exact I.call' (ch := []) os un hok bare (fun b z => nomatch z)
theorem Fl.obj (F : Fl X pins σ H s ea cls dx) : ∃ vs sl, s.heap.get? ea = some ⟨cls, dx, .fields vs, sl⟩ := by
  obtain ⟨s₀, H₀, B, I, os, bare, un, hok, sea, ⟨T, ⟨vs, sl, e, _⟩, _⟩, _⟩ := F.ex
  exact ⟨vs, sl, e⟩
/-- it was not there at the call -/
theorem Fl.free (F : Fl X pins σ H s ea cls dx) : H ea = none := by
  obtain ⟨s₀, H₀, B, I, os, bare, un, hok, sea, _, _, tra⟩ := F.ex
  cases z : H ea with
  | none => rfl
  | some o =>
    obtain ⟨u, _, q⟩ := tra ea o z
    rw [sea.new] at q; cases q
/-- the exception's flight is ended, and it is tracked from here on -/
theorem Fl.land {Q : Unit → Shared → Prop} {A : Around} {E : Value → Shared → Prop} (F : Fl X pins σ H s ea cls dx) (k : ∀ s', Inv X pins σ (upd H ea (ExcO ea cls dx)) s' → Q () s') : wpAny (model X.prog X.w) A (setFlight (.ref ea) none) Q E s := by
  have hn := F.free
  obtain ⟨s₀, H₀, B, I, os, bare, un, hok, sea, tr, old, tra⟩ := F.ex
  refine flight_off sea tr fun h2 S2 O2 u2 => k _ ?_
  have un2 := un_flown un old S2.stays u2 (frames_are I un)
  have hok2 := hok_flown hok tra S2.stays
  obtain ⟨T, ⟨vs, sl, e, _⟩, _⟩ := O2
  have nf : ea ∉ frs X.stack := fun z => by
    obtain ⟨_, o, ho, hn⟩ := S2.frames.mem z
    rw [e] at ho
    cases ho
    exact hn vs rfl
  have new0 : s₀.heap.get? ea = none := by
    cases z : s₀.heap.get? ea with
    | none => rfl
    | some u =>
      obtain ⟨u', q, _⟩ := old ea u z nf
      rw [S2.new] at q; cases q
  have ne : ∀ b u, s₀.heap.get? b = some u → b ≠ ea := fun b u q z => by rw [z, new0] at q; cases q
  refine I.call' (ch := []) (s' := { s with heap := h2 }) os ?_ ?_ bare (fun b z => nomatch z)
  · exact ⟨un2.keep, un2.slot, fun b o q n hx => by rw [upd_ne (ne b o q)]; exact un2.free b o q n hx, un2.there, fun b xs q => by rw [upd_ne (ne_of_none (un2.tups b xs q) hn)]; exact un2.tups b xs q,
      fun b o u q => by rw [upd_ne (ne_of_none (un2.frzs b o u q) hn)]; exact un2.frzs b o u q, fun b ps q => by
        obtain ⟨more, z⟩ := un2.tbls b ps q
        exact ⟨more, by rw [upd_ne (ne_of_none z hn)]; exact z⟩⟩
  · intro a o q
    by_cases ha : a = ea
    · subst ha
      rw [upd_same] at q
      cases q
      refine ⟨⟨vs, sl, e⟩, ⟨_, e⟩, ?_⟩
      rintro h1 h3 ⟨vs', sl', q⟩ kk
      exact ⟨vs', sl', kk _ q⟩
    · rw [upd_ne ha] at q
      refine (hok2 a o q).stay (fun b u _ z => z) (fun b z => ?_) fun b xs z => ?_
      · rw [upd_ne (ne_of_none z hn)]; exact z
      · rw [upd_ne (ne_of_none z hn)]; exact z
structure HCls (K : PySem.W.Frag) (mg : Str → Option Value) (x : Str) (C : Addr) : Prop where
  bound : mg x = some (.ref C)
  ty : PySem.W.typeIn K (.ref C) = some (.type "type")
  cls : (PySem.W.clsIn K C).isSome = true
  base : PySem.W.mroIn K C (.type "BaseException") = some true
theorem exc_match {K : PySem.W.Frag} {mg : Str → Option Value} {x : Str} {M : Model} {A : Around} {E : Value → Shared → Prop} {s : Shared} {e C C' : Addr} {dx : Option Addr} {vs : Array Value} {sl : Array (Option Value)} {b : Bool} {Q : Bool → Shared → Prop} (KX : K.In s.heap) (O : HCls K mg x C)
    (he : s.heap.get? e = some ⟨.ref C', dx, .fields vs, sl⟩) (hm : PySem.W.mroIn K C' (.ref C) = some b) (q : Q b s) : wpAny M A (excMatches (.ref e) (.ref C)) Q E s := by
  have L1 : PySem.W.Looks M s.heap (isInstance (.ref C) (.type "tuple")) false := (PySem.W.looks_typeIn KX O.ty).andThen (.of_pure tc_notTuple)
  have L2 : PySem.W.Looks M s.heap (isType (.ref C)) true := by
    have hc := O.cls
    unfold PySem.W.clsIn at hc
    split at hc
    · rename_i c' d' cd' sl' ho
      intro A' Q' E' s' k q
      unfold isType loadHead
      exact wpAny_bind (wpAny_loadPart (k _ _ (KX _ _ ho)) (wpAny_pure q))
    · cases hc
  have L3 := PySem.W.looks_mroIn (M := M) KX O.base
  have L4 : PySem.W.Looks M s.heap (typeOf (.ref e)) (.ref C') := (PySem.W.Looks.ld he).andThen .now
  have L5 := PySem.W.looks_mroIn (M := M) KX hm
  unfold excMatches
  refine wpAny_bind (L1.here ?_)
  simp only [Bool.false_eq_true, if_false]
  refine wpAny_bind (wpAny_pure ?_)
  refine wpAny_bind ?_
  rw [List.forIn_cons]
  refine wpAny_bind (wpAny_bind ?_)
  unfold isExcClass
  refine wpAny_bind (L2.here ?_)
  rw [if_pos rfl]
  refine L3.here ?_
  simp only [Bool.not_true, Bool.false_eq_true, if_false]
  refine wpAny_pure ?_
  dsimp only
  rw [List.forIn_nil]
  refine wpAny_pure (wpAny_bind (L4.here (wpAny_bind ?_)))
  rw [List.forIn_cons]
  refine wpAny_bind (wpAny_bind (L5.here ?_))
  cases b with
  | true =>
    rw [if_pos rfl]
    exact wpAny_pure (wpAny_pure (wpAny_pure q))
  | false =>
    rw [if_neg Bool.false_ne_true]
    refine wpAny_pure ?_
    dsimp only
    rw [List.forIn_nil]
    exact wpAny_pure (wpAny_pure q)
end
end L2

set_option Elab.async false
set_option linter.all false
set_option maxRecDepth 100000
set_option maxHeartbeats 4000000
namespace L2
open PySem PySem.Spec PyProof.Rows
theorem SP.re {X Y : Cx} {pins pins' : List (Addr × Obj)} {D : Ends} {f : Flow} {s : Shared} (h : SP X pins D f s) (k : ∀ σ H, Inv X pins σ H s → Inv Y pins' σ H s) : SP Y pins' D f s := by
  cases f with
  | next => obtain ⟨σ, H, I, q⟩ := h; exact ⟨σ, H, k _ _ I, q⟩
  | brk => obtain ⟨σ, H, I, q⟩ := h; exact ⟨σ, H, k _ _ I, q⟩
  | cont => obtain ⟨σ, H, I, q⟩ := h; exact ⟨σ, H, k _ _ I, q⟩
  | ret u => obtain ⟨v, σ, H, I, r, q⟩ := h; exact ⟨v, σ, H, k _ _ I, r, q⟩
section
variable {X : Cx} {pins : List (Addr × Obj)} {σ : St} {H : Hp} {s : Shared}
theorem Inv.toHd (I : Inv X pins σ H s) (e : Addr) : Inv (X.hd e) pins σ H s := I.re (I.ok.hdl e) rfl rfl rfl rfl rfl rfl rfl rfl fun _ h => h
theorem Inv.ofHd {e : Addr} (o : X.Ok) (I : Inv (X.hd e) pins σ H s) : Inv X pins σ H s := I.re o rfl rfl rfl rfl rfl rfl rfl rfl fun _ h => h
theorem Inv.toTr (I : Inv X pins σ H s) (xe : Value → Shared → Prop) : Inv (X.tr xe (X.pn ++ pins)) [] σ H s := I.re (I.ok.tr _ _) rfl rfl rfl rfl rfl rfl rfl rfl fun p h => by simpa using h
theorem Inv.ofTr {pins' : List (Addr × Obj)} {xe : Value → Shared → Prop} (o : X.Ok) (I : Inv (X.tr xe (X.pn ++ pins)) pins' σ H s) : Inv X pins σ H s :=
  I.re o rfl rfl rfl rfl rfl rfl rfl rfl fun p h => List.mem_append_left _ h
/-- a name goes -/
theorem unbind_ok {M : Model} {A : Around} {E : Value → Shared → Prop} {i : Nat} {n : Str} {pos : Pos} {Q : Unit → Shared → Prop} (I : Inv X pins σ H s) (hN : X.N.Nodup) (hi : X.N[i]? = some n) (hk : X.env.scope.names.lookup n = some .local)
    (h : ∀ s', Inv X pins (σ.set i none) H s' → Q () s') : wpAny M A (do bindName X.env n .none; unbindBehindTheSuite X.env n pos) Q E s := by
  obtain ⟨m, hn, hl⟩ := id I.loc
  have hcls : (X.env.scope.kind == .class || (X.env.scope.kind == .module && X.env.locals != X.env.globals)) = false := by rw [I.ok.kind]; rfl
  have hiσ : i < σ.length := by rw [I.len]; exact (List.getElem?_eq_some_iff.mp hi).1
  have cne := I.cne
  refine wpAny_nameGoes_keeps hk hn hcls fun h' v hn' hs => h _ ?_
  obtain ⟨oL, _, _, hoL, _⟩ := id hn
  have nl : ∀ b o, X.s₀.heap.get? b = some o → h'.get? b = s.heap.get? b := fun b o e => hs.2 b (Nat.ne_of_lt (Nat.lt_of_lt_of_le (Heap.lt_size e) I.ok.above))
  refine ⟨I.ok, I.os, I.bare, ⟨fun b o e z hb hx => (nl b o e).trans (I.base.keep b o e z hb hx), fun b o e z hb hx => ?_, I.base.free, fun b o e hx => ?_, I.base.tups, I.base.frzs, I.base.tbls⟩, ⟨_, hn', fun j y v' e1 e2 e3 => ?_⟩, fun y c e => ?_, I.free, I.freeC, fun p hp => ?_, fun b ob e => ?_, by simpa using I.len⟩
  · obtain ⟨sl, e1⟩ := I.base.slot b o e z hb hx
    exact ⟨sl, (nl b o e).trans e1⟩
  · obtain ⟨o', e1⟩ := I.base.there b o e hx
    exact ⟨o', (nl b o e).trans e1⟩
  · by_cases hj : j = i
    · subst hj
      rw [List.getElem?_set_self hiσ] at e2
      cases e2
    · rw [List.getElem?_set_ne (Ne.symm hj)] at e2
      obtain ⟨u', r', q⟩ := hl j y v' e1 e2 e3
      refine ⟨u', r', ?_⟩
      rcases q with ⟨k, e⟩ | ⟨k, c, e, z⟩
      · refine .inl ⟨k, ?_⟩
        have hy : y ≠ n := fun z => hj (nodup_ix hN e1 (z ▸ hi))
        simp [hy, e]
      · exact .inr ⟨k, c, e, z.sameBut hs (cne y c e)⟩
  · obtain ⟨w', z⟩ := I.cell y c e
    exact ⟨w', z.sameBut hs (cne y c e)⟩
  · obtain ⟨e, z, ne, nf, d⟩ := I.pin p hp
    exact ⟨(hs.2 p.1 ne).trans e, z, ne, nf, d⟩
  · refine (I.hok b ob e).stay (fun c w' hc q => (hs.2 c ?_).trans q) (fun _ q => q) fun _ _ q => q
    rintro rfl
    rcases hc with rfl | hc
    · rw [I.free] at e; cases e
    · rw [I.free] at hc; cases hc
end
abbrev TH := Value → Option Addr → Addr → Ends → St → Hp → Prop
def PHs (X : Cx) (hs : List ExceptHandler) (t : TH) : Prop := ∀ (pins : List (Addr × Obj)) (s : Shared) (σ : St) (H : Hp) (D : Ends) (ea : Addr) (cls : Value) (dx : Option Addr), Fl X pins σ H s ea cls dx → t cls dx ea D σ H →
  wpAny (model X.prog X.w) X.A (handleBy (.ref ea) X.env hs) (SP X pins D) X.xe s
def tNoHand : TH := fun _ _ _ _ _ _ => False
/-- except C as n: n stands in slot i, and goes behind the suite -/
def gone (i : Nat) (D : Ends) : Ends := { nx := fun σ H => D.nx (σ.set i none) H, rt := D.rt, bk := fun σ H => D.bk (σ.set i none) H, ct := fun σ H => D.ct (σ.set i none) H }
def tHandAs (K : PySem.W.Frag) (C : Addr) (i : Nat) (ts : Addr → TS) (tr : TH) : TH := fun cls dx ea D σ H => ∃ C' b, cls = .ref C' ∧ PySem.W.mroIn K C' (.ref C) = some b ∧ if b = true then ts ea (gone i D) (σ.set i (some (.ref ea))) (upd H ea (ExcO ea cls dx)) else tr cls dx ea D σ H
section
variable {X : Cx}
theorem phs_nil : PHs X [] tNoHand := fun _ _ _ _ _ _ _ _ _ h => h.elim
theorem phs_consA {x n : Str} {C : Addr} {i : Nat} {b₀ : Stmt} {suite : List Stmt} {np pos : Pos} {rest : List ExceptHandler} {ts : Addr → TS} {tr : TH} (O : HCls X.K X.mg x C) (hg : Gl X x) (hN : X.N.Nodup) (hi : X.N[i]? = some n) (hk : X.env.scope.names.lookup n = some .local)
    (hs : ∀ ea, PSs (X.hd ea) (b₀ :: suite) (ts ea)) (hr : PHs X rest tr) (hdb : (x == ("__debug__" : Str)) = false := by decide) : PHs X (.ExceptHandler (some (.Name x np)) (some n) (b₀ :: suite) pos :: rest) (tHandAs X.K C i ts tr) := by
  intro pins s σ H D ea cls dx F h
  obtain ⟨C', b, rfl, hm, q⟩ := h
  obtain ⟨vs, sl, he⟩ := F.obj
  have I := F.inv
  refine wpAny_handleBy_cons (codeAny_handlers_test ?_) (by intro z; cases z)
  refine ld_glob (X := X.hd ea) (I.toHd ea) hg O.bound ?_ hdb
  refine exc_match I.kIn O he hm ?_
  cases b with
  | true =>
    rw [if_pos rfl] at q
    refine codeAny_handlers_suite_as (F.land fun s' I' => ?_)
    refine store_ok (v := .ref ea) I' hN hi (.inl hk) rfl (fun s3 I3 => ?_) (.inr hk)
    refine wpAny_mono (hs ea pins s3 _ _ (gone i D) (I3.toHd ea) q) (fun f s4 z => ?_) (fun _ _ z => z.elim)
    cases f with
    | next => obtain ⟨σ4, H4, I4, z⟩ := z; exact unbind_ok (I4.ofHd I.ok) hN hi hk fun s5 I5 => ⟨_, _, I5, z⟩
    | brk => obtain ⟨σ4, H4, I4, z⟩ := z; exact unbind_ok (I4.ofHd I.ok) hN hi hk fun s5 I5 => ⟨_, _, I5, z⟩
    | cont => obtain ⟨σ4, H4, I4, z⟩ := z; exact unbind_ok (I4.ofHd I.ok) hN hi hk fun s5 I5 => ⟨_, _, I5, z⟩
    | ret u => obtain ⟨v, σ4, H4, I4, r, z⟩ := z; exact unbind_ok (I4.ofHd I.ok) hN hi hk fun s5 I5 => ⟨v, _, _, I5, r, z⟩
  | false =>
    rw [if_neg Bool.false_ne_true] at q
    exact hr pins s σ H D ea _ dx F q
abbrev XE := Value → Option Addr → St → Hp → Prop
def tTry (tb : XE → TS) (th : TH) : TS := fun D σ H => tb (fun c d σ' H' => ∀ ea, H' ea = none → th c d ea D σ' H') D σ H
theorem ps_try {body : List Stmt} {h₀ : ExceptHandler} {hs : List ExceptHandler} {pos : Pos} {tb : XE → TS} {th : TH} (hst : X.stack = X.env :: X.outer) (hf : X.env.frame = some X.env.locals)
    (hb : ∀ xe pn EE, Thr (X.tr xe pn) EE → PSs (X.tr xe pn) body (tb EE)) (hh : PHs X (h₀ :: hs) th) : PS X (.Try body (h₀ :: hs) [] [] pos) (tTry tb th) := by
  intro pins s σ H D I h
  refine wpAny_Try_except ?_
  have fr : X.A.frames = some (X.env :: X.outer) := by rw [← hst]; exact I.ok.frames
  generalize hxe : (fun (e : Value) (s1 : Shared) => wpAny (model X.prog X.w) X.A (noteFrame e X.env) (fun _ s2 => wpAny (model X.prog X.w) X.A (setFlight e none) (fun _ s3 => wpAny (model X.prog X.w) X.A (handleBy e X.env (h₀ :: hs)) (SP X pins D) X.xe s3) X.xe s2) X.xe s1) = xe
  have fin : ∀ (pins' : List (Addr × Obj)) (σ' : St) (H2 H' : Hp) (s2 s' : Shared) (ea : Addr) (cls : Value) (dx : Option Addr) (B h4 : Heap), Inv (X.tr xe (X.pn ++ pins)) pins' σ' H2 s2 → s'.os = s2.os → AllBare s'.gens → Un (frs X.stack) [] H2 H' s2.heap s'.heap → HOk X.prog X.w H' s'.heap →
      Old (frs X.stack) H2 s2.heap B → Tra H' s'.heap B → Sea B X.stack ea h4 → XTr h4 B ea cls dx .none → s'.heap.UpToSlots h4 → (∀ ea, H' ea = none → th cls dx ea D σ' H') →
      wpAny (model X.prog X.w) X.A (handleBy (.ref ea) X.env (h₀ :: hs)) (SP X pins D) X.xe { s' with heap := h4 } := by
    intro pins' σ' H2 H' s2 s' ea cls dx B h4 I2 os bare un hok old tra S4 O4 u4 q
    have I3 := I2.ofTr I.ok
    refine hh pins _ σ' H' D ea cls dx ⟨s2, H2, B, I3, os, bare, un_flown un old S4.stays u4 (frames_are I3 un), hok_flown hok tra S4.stays, S4, O4, old, tra.later S4.stays⟩ (q ea ?_)
    cases z : H' ea with
    | none => rfl
    | some o =>
      obtain ⟨u, _, e⟩ := tra ea o z
      rw [S4.new] at e; cases e
  have T : Thr (X.tr xe (X.pn ++ pins)) (fun c d σ' H' => ∀ ea, H' ea = none → th c d ea D σ' H') := by
    constructor
    · rintro pins' σ' H2 s2 e s' I2 ⟨ea, cls, dx, B, H', rfl, os, bare, un, hok, sea, tr, old, tra, q⟩
      show xe (.ref ea) s'
      rw [← hxe]
      have sea' : Sea B (X.env :: X.outer) ea s'.heap := by rw [← hst]; exact sea
      refine note_on fr hf sea' tr fun h3 S3 O3 u3 => flight_off (s := { s' with heap := h3 }) S3 O3 fun h4 S4 O4 u4 => ?_
      exact fin pins' σ' H2 H' s2 s' ea cls dx B h4 I2 os bare un hok old tra (by rw [hst]; exact S4) O4 (u3.trans u4) q
    · rintro pins' σ' H2 s2 e s' I2 ⟨ea, cls, dx, B, H', rfl, os, bare, un, hok, sea, tr, old, tra, q⟩
      show xe (.ref ea) s'
      rw [← hxe]
      have sea' : Sea B (X.env :: X.outer) ea s'.heap := by rw [← hst]; exact sea
      refine note_new fr hf sea' tr fun h3 S3 O3 u3 => flight_off (s := { s' with heap := h3 }) S3 O3 fun h4 S4 O4 u4 => ?_
      exact fin pins' σ' H2 H' s2 s' ea cls dx B h4 I2 os bare un hok old tra (by rw [hst]; exact S4) O4 (u3.trans u4) q
  refine wpAny_mono (hb xe _ _ T [] s σ H D (I.toTr xe) h) (fun f s1 z => ?_) (fun e s1 z => ?_)
  · have z' : SP X pins D f s1 := z.re fun _ _ J => J.ofTr I.ok
    cases f with
    | next => exact wpAny_execs_nil z'
    | brk => exact z'
    | cont => exact z'
    | ret u => exact z'
  · exact z
end
end L2

set_option Elab.async false
set_option linter.all false
set_option maxRecDepth 100000
set_option maxHeartbeats 4000000
namespace L2
open PySem PySem.Spec PyProof.Rows
section
variable {prog : Program} {w : World} {A : Around} {E : Value → Shared → Prop} {s : Shared} {K : PySem.W.Frag} {x D : Addr} {ox : Obj} {odo : Option Obj} {name : Str}
/-- what the class of an exception must have of the text -/
structure XGet (K : PySem.W.Frag) (D : Addr) : Prop where
  ga : PySem.W.findIn K (.ref D) "__getattribute__" = some (some (.builtin "BaseException.__getattribute__"))
  gk : PySem.W.findIn K (.ref D) "__getattr__" = some none
  be : PySem.W.mroIn K D (.type "BaseException") = some true
  ob : PySem.W.mroIn K D (.type "object") = some true
  ca : PySem.W.findIn K (.ref D) "__class__" = some (some (.builtin "object.__class__"))
  cl : (PySem.W.clsIn K D).isSome = true
  sp : PySem.W.specialIn K (.builtin "object.__class__") "__get__" = some (some (.builtin "getset_descriptor.__get__"))
  tk : PySem.W.takesIn K (.builtin "object.__class__") = some true
theorem xget_check {M : Model} {nv : Value} {Q : Unit → Shared → Prop} (KX : K.In s.heap) (I : PySem.W.InstAt s.heap x ox D odo) (G : XGet K D) (q : Q () s) : wpAny M A (checkBuiltinCall "BaseException.__getattribute__" ⟨[.ref x, nv], []⟩) Q E s := by
  have hk : builtinKind "BaseException.__getattribute__" = some .slot := by decide +kernel
  have hs : splitId "BaseException.__getattribute__" = some ("BaseException", "__getattribute__") := by decide +kernel
  have ha := F.args_bexc_ga (.ref x) nv
  obtain ⟨hh, g, d, t, os⟩ := s
  have L0 := I.type (M := M)
  have L1 := PySem.W.looks_mroIn (M := M) KX G.be
  simp only [checkBuiltinCall, hk, hs]
  repeat lk
  exact q
theorem xget_entryB {nv : Tok} {gv a : Value} {Q : Fin → Shared → Prop} (KX : K.In s.heap) (I : PySem.W.InstAt s.heap x ox D odo) (hf : PySem.W.findObj K D odo name = some (.bind gv a))
    (q : wpAny (model prog w) A (Builtin.ObjectAttr.bindTo gv a (.ref x) (.ref D)) Q E s) :
    wpAny (model prog w) A (Builtin.«object.__getattribute__» ⟨[.ref x, .str name nv], []⟩) Q E s := by
  obtain ⟨hh, g, d, t, os⟩ := s
  have L0 := I.type (M := model prog w)
  have L1 := PySem.W.looks_find (M := model prog w) KX I hf
  refine wpAny_bind (wpAny_pure (wpAny_bind (wpAny_pure (wpAny_bind (L0.at (wpAny_bind (L1.at ?_)))))))
  exact q
theorem xget_by {nv : Tok} {fill expr : Bool} {Q : Value → Shared → Prop} (KX : K.In s.heap) (I : PySem.W.InstAt s.heap x ox D odo) (G : XGet K D)
    (h : wpAny (model prog w) A.in1 (Builtin.«object.__getattribute__» ⟨[.ref x, .str name nv], []⟩) (fun fin s' => match fin with | .done (.ret v) => wpAny (model prog w) A (handedOut v) Q E s' | _ => False) (fun _ _ => False) s) :
    wpAny (model prog w) A (getAttrBy (.ref x) (.str name nv) fill expr) Q E s := by
  obtain ⟨hh, g, d, t, os⟩ := s
  have L0 := I.type (M := model prog w)
  have L1 := PySem.W.looks_findIn (M := model prog w) KX G.ga
  have L2 := PySem.W.looks_findIn (M := model prog w) KX G.gk
  have FX := F.excAttr_ValueError
  unfold getAttrBy
  refine wpAny_holding (wpAny_bind (L0.at (wpAny_bind (L1.at ?_))))
  have e0 : (Value.builtin "BaseException.__getattribute__" == Value.builtin "object.__getattribute__") = false := by decide +kernel
  have e1 : (onTheHeap (Value.ref D) && Value.builtin "BaseException.__getattribute__" == Value.builtin "object.__getattribute__") = false := by rw [e0]; rfl
  dsimp only
  rw [e1, if_neg Bool.false_ne_true]
  unfold getAttrByItsOwn hookBefore
  refine wpAny_bind ?_
  rw [if_pos (show onTheHeap (Value.ref D) = true from rfl)]
  refine L2.at ?_
  refine wpAny_bind (wpAny_attempt (wpAny_holding ?_))
  unfold callGetattribute
  rw [if_neg (by cases expr <;> decide)]
  unfold boundAndCalled
  rw [FX.ga.bind (.ref x)]
  refine wpAny_bind (wpAny_pure ?_)
  refine wpAny_call (codeAny_call_builtin FX.ga.plain F.entry_bexc_ga (xget_check KX I G ?_))
  refine wpAny_mono h (fun fin s' z => ?_) (fun _ _ z => z.elim)
  rcases fin with (_ | _ | _ | _) | _ <;> first | exact z | exact z.elim
theorem xget_class {Q : Option Value → Shared → Prop} (KX : K.In s.heap) (I : PySem.W.InstAt s.heap x ox D odo) (G : XGet K D) (hf : PySem.W.findObj K D odo "__class__" = some (.bind (.builtin "getset_descriptor.__get__") (.builtin "object.__class__")))
    (q : Q (some (.ref D)) { s with toks := s.toks + 1 }) : wpAny (model prog w) A (getAttr? (.ref x) "__class__") Q E s := by
  unfold getAttr? getAttrBy?
  refine wpAny_bind (wpAny_mkText (wpAny_bind (wpAny_attempt (xget_by (s := { s with toks := s.toks + 1 }) KX I G (xget_entryB (s := { s with toks := s.toks + 1 }) KX I hf ?_)))))
  show wpAny _ _ (holding [_] (call (.builtin "getset_descriptor.__get__") [.builtin "object.__class__", .ref x, .ref D]) >>= ret) _ _ _
  refine wpAny_bind (wpAny_holding (wpAny_call (PySem.W.class_get (s := { s with toks := s.toks + 1 }) KX I G.ob ?_)))
  refine wpAny_pure ?_
  show wpAny _ _ (handedOut _) _ _ _
  rw [PySem.W.handedOut_of rfl]
  exact wpAny_pure (wpAny_pure q)
theorem find_dataX {a g : Value} (hc : (PySem.W.clsIn K D).isSome = true) (ha : PySem.W.findIn K (.ref D) name = some (some a)) (hg : PySem.W.specialIn K a "__get__" = some (some g)) (ht : PySem.W.takesIn K a = some true) : PySem.W.findObj K D odo name = some (.bind g a) := by
  obtain ⟨cd, hcd⟩ := Option.isSome_iff_exists.mp hc
  unfold PySem.W.findObj
  rw [hcd, Option.bind_some, ha, Option.bind_some]; simp [hg, ht]
theorem kitx_exc (G : XGet K D) : PySem.W.KitX K (.ref x) (.ref D) (fun h => ∃ ox odo, PySem.W.InstAt h x ox D odo) where
  ty := fun _ _ _ ⟨ox, odo, I⟩ => I.type
  it := fun M h KX _ => by
    have hc := G.cl
    unfold PySem.W.clsIn at hc
    split at hc
    · rename_i c' d' cd' sl' ho
      intro A' Q' E' s' k q
      unfold isType loadHead
      exact wpAny_bind (wpAny_loadPart (k _ _ (KX _ _ ho)) (wpAny_pure q))
    · cases hc
  ne := fun h tp dd its n sl KX htp => by
    have hc := G.cl
    refine Bool.eq_false_iff.mpr fun q => ?_
    have e : D = tp := Value.ref.inj (beq_iff_eq.mp q)
    subst e
    unfold PySem.W.clsIn at hc
    split at hc
    · rename_i c' d' cd' sl' ho
      have z := (KX _ _ ho).symm.trans htp
      cases z
    · cases hc
  ca := fun {prog w A E Q s} KX ⟨ox, odo, I⟩ k => xget_class KX I G (find_dataX G.cl G.ca G.sp G.tk) k
end
/-- a class as a value -/
def clsV : V → Option Value
  | .ref c => some (.ref c)
  | .ty n => some (.type n)
  | _ => none
/-- the exception's dict, where it has one -/
def XDict (H : Hp) : Option Addr → Prop
  | none => True
  | some d => ∃ fs, H d = some (.xd fs)
def rIsiX (K : PySem.W.Frag) : List V → Hp → VK → Prop := fun xs H Q => ∃ a cv C c b dx, xs = [.ref a, cv] ∧ H a = some (ExcO a (.ref C) dx) ∧ XDict H dx ∧ XGet K C ∧ clsV cv = some c ∧ PySem.W.kitOne K (.ref C) c = some b ∧ Q (.bl b) H
section
variable {X : Cx}
theorem call_isiX : CallR X (.builtin "isinstance") (rIsiX X.K) := by
  intro pins s σ H xs us Q I r h
  obtain ⟨a, cv, C, c, b, dx, rfl, hH, hd, G, hc, e, q⟩ := h
  obtain ⟨u, w', rfl, r1, r2⟩ := vals2 r
  cases (show u = Value.ref a from r1)
  have hw : w' = c := by
    cases cv with
    | ref c' => cases hc; exact r2
    | ty n => cases hc; exact r2
    | _ => cases hc
  subst hw
  obtain ⟨⟨vs, sl, ho⟩, _⟩ := (show ObjOk X.prog X.w H s.heap a (ExcO a (.ref C) dx) from I.hok a _ hH)
  have J : ∃ ox odo, PySem.W.InstAt s.heap a ox C odo := by
    cases dx with
    | none => exact ⟨_, none, ho, rfl, rfl, trivial⟩
    | some d =>
      obtain ⟨fs, hd⟩ := hd
      obtain ⟨od, hod⟩ := (I.hok d _ hd).obj
      exact ⟨_, some od, ho, rfl, rfl, hod⟩
  exact PySem.W.kia_one (kitx_exc G) I.kIn J e (fun z => nomatch z) fun tk => ⟨.bl b, H, I.tok tk, rfl, q⟩
theorem rd_isiX {K : PySem.W.Frag} {a C : Addr} {cv : V} {c : Value} {b : Bool} {dx : Option Addr} {H : Hp} {Q : VK} (hH : H a = some (ExcO a (.ref C) dx)) (hd : XDict H dx) (G : XGet K C) (hc : clsV cv = some c) (e : PySem.W.kitOne K (.ref C) c = some b) (q : Q (.bl b) H) : rIsiX K [.ref a, cv] H Q :=
  ⟨a, cv, C, c, b, dx, rfl, hH, hd, G, hc, e, q⟩
end
end L2

set_option Elab.async false
set_option linter.all false
set_option maxRecDepth 100000
set_option maxHeartbeats 4000000
namespace L2
open PySem PySem.Spec PyProof.Rows
structure RoomN (k : Nat) (A : Around) : Prop where
  dp : A.depth + 3 * k + 5 < recursionLimit
  un : A.units + 16 * k + 200 < cLine
  gd : A.guards = some []
theorem RoomN.mono {j k : Nat} {A : Around} (r : RoomN k A) (h : j ≤ k) : RoomN j A := ⟨by have := r.dp; omega, by have := r.un; omega, r.gd⟩
theorem RoomN.deeper {k : Nat} {A : Around} (r : RoomN (k + 1) A) (env : Env) : RoomN k (A.deeper env) :=
  ⟨by have := r.dp; show A.depth + 1 + 3 * k + 5 < _; omega, by have := r.un; show A.units + 3 + 16 * k + 200 < _; omega, r.gd⟩
theorem Room.marked {k : Nat} {A : Around} (r : Room k A) (e : Option Value) : RoomN k (A.mark e) := ⟨r.dp, r.un, r.gd⟩
theorem Room.toN {k : Nat} {A : Around} (r : Room k A) : RoomN k A := ⟨r.dp, r.un, r.gd⟩
theorem RoomN.depth {k : Nat} {A : Around} (r : RoomN k A) : A.depth < recursionLimit := by have := r.dp; omega
theorem RoomN.units0 {k : Nat} {A : Around} (r : RoomN k A) : A.units < cLine := by have := r.un; omega
section
variable {P : Program} {w : World} {K : PySem.W.Frag} {mg : Str → Option Value} {base : Heap}
end
section
variable {X : Cx}
end
theorem has_cls {K : PySem.W.Frag} {C : Addr} (h : PySem.W.hasDictIn K C = true) : (PySem.W.clsIn K C).isSome = true := by
  obtain ⟨cd, e, _⟩ := PySem.W.any_some h
  rw [e]; rfl
theorem rel_ref (a : Addr) : RelV (.ref a) (.ref a) := rfl
theorem rd_callE {sp : Sp} {EE : XE} {t : TA} {σ : St} {H : Hp} {Q : VK} (h : t σ H fun vs H1 => sp (vs ++ []) H1 Q (fun c d H' => EE c d σ H')) : tCallE sp EE t σ H Q := h
theorem rd_raise {C : Addr} {EE : XE} {ta : TA} {D : Ends} {σ : St} {H : Hp} (h : ta σ H fun vs H1 => vs.length ≤ sizeLine ∧ EE (.ref C) none σ H1) : tRaise C EE ta D σ H := h
theorem rd_try {tb : XE → TS} {th : TH} {D : Ends} {σ : St} {H : Hp} (h : tb (fun c d σ' H' => ∀ ea, H' ea = none → th c d ea D σ' H') D σ H) : tTry tb th D σ H := h
theorem rd_handA {K : PySem.W.Frag} {C C' : Addr} {i : Nat} {ts : Addr → TS} {tr : TH} {dx : Option Addr} {ea : Addr} {D : Ends} {σ : St} {H : Hp} (hm : PySem.W.mroIn K C' (.ref C) = some true) (h : ts ea (gone i D) (σ.set i (some (.ref ea))) (upd H ea (ExcO ea (.ref C') dx))) : tHandAs K C i ts tr (.ref C') dx ea D σ H :=
  ⟨C', true, rfl, hm, by rw [if_pos rfl]; exact h⟩
section
variable {X : Cx}
end
end L2

set_option Elab.async false
set_option linter.all false
set_option maxRecDepth 100000
set_option maxHeartbeats 4000000
namespace L2
open PySem PySem.Spec PyProof.Rows
section
variable {prog : Program} {w : World} {A : Around} {E : Value → Shared → Prop} {h : Heap} {g : Array GenState} {d : Drawn} {t : Nat} {os : OsState} {K : PySem.W.Frag} {f : Addr}
variable {nm q : Str} {C N : Addr} {bs bm : List Value} {hdct : Bool} {sn : List Str} {sub : List Value} {ab : Bool} {col : Option Bool} {dd : Option Addr} {k0 k1 k2 k3 k5 : Option Value}
theorem make_exc {rest : List Value} {Q : Value → Shared → Prop} (T : OwnTail h bmV bm) (KX : K.In h)
    (hC : h.get? C = some (excClassObj nm q C N bs bm hdct sn sub ab col dd k0 k1 k2 k3 k5 "ValueError.__new__")) (hi : PySem.W.findIn K (.ref C) "__init__" = some (some (.ref f))) (hf : PySem.W.typeIn K (.ref f) = some (.type "function"))
    (hrest : rest.length ≤ sizeLine)
    (hq : ∀ h' e, Heap.MadeExcOf h h' e (.ref C) rest → codeAny (model prog w) (A.under (.builtin "type.__call__" ⟨.ref C :: rest, []⟩)) (.call (.ref f) ⟨.ref e :: rest, []⟩) (fun r s' => match r with | .ok (.ret u) => u = .none ∧ Q (.ref e) s' | .ok _ => False | .error x => E x s') ⟨h', g, d, t, os⟩) :
    wpAny (model prog w) A (call (.ref C) rest) Q E ⟨h, g, d, t, os⟩ := by
  have FV := PySem.F.excBase_ValueError
  have f1 := tc_lookup
  have f2 := tc_bind (.ref C)
  have hT : (⟨h, g, d, t, os⟩ : Shared).TypeIs (.ref C) "type" := ⟨_, hC, rfl⟩
  refine wpAny_call (codeAny_of_tree ?_)
  show wpAny _ _ (callAny (.ref C) _) _ _ _
  repeat (any_goals (first | assumption | with_reducible refine wpAny_loadPart_at hC ?_ | wp_step))
  refine ⟨rfl, ?_⟩
  refine codeAny_call_builtin_at (Code.quiet_builtin _ (by decide +kernel)) entry_typeCall (wpAny_check_type_call_sub hC ?_)
  repeat (first | with_reducible refine wpAny_loadPart_at hC ?_ | with_reducible refine wpAny_madeBy_exc hC ?_ | wp_step)
  refine codeAny_call_builtin_code (Code.quiet_builtin _ FV.quiet) (wpAny_check_new_subU FV (by decide +kernel) T hC ?_)
  refine codeAny_exc_new_subU FV (by decide +kernel) FV T hC ?_ hrest
  have keeps : ∀ b o, h.get? b = some o → ((h.push { cls := .type "tuple", data := .seq rest.toArray }).push { cls := .ref C, data := .fields #[.ref h.objs.size, .none, .none, .none, .bool false, .none] }).get? b = some o := fun b o z => Heap.get?_push_of_some _ (Heap.get?_push_of_some _ z)
  have he : ((h.push { cls := .type "tuple", data := .seq rest.toArray }).push { cls := .ref C, data := .fields #[.ref h.objs.size, .none, .none, .none, .bool false, .none] }).get? (h.objs.size + 1) = some { cls := .ref C, data := .fields #[.ref h.objs.size, .none, .none, .none, .bool false, .none] } :=
    Heap.get?_push_at (by simp only [Heap.size_push]) rfl
  have ht : ((h.push { cls := .type "tuple", data := .seq rest.toArray }).push { cls := .ref C, data := .fields #[.ref h.objs.size, .none, .none, .none, .bool false, .none] }).get? h.objs.size = some { cls := .type "tuple", data := .seq rest.toArray } :=
    Heap.get?_push_of_some _ (Heap.get?_push_size _ rfl)
  have M : Heap.MadeExcOf h ((h.push { cls := .type "tuple", data := .seq rest.toArray }).push { cls := .ref C, data := .fields #[.ref h.objs.size, .none, .none, .none, .bool false, .none] }) (h.objs.size + 1) (.ref C) rest :=
    ⟨keeps, Heap.get?_none_of_le (Nat.le_succ _), h.objs.size, he, Heap.get?_none_of_le (Nat.le_refl _), ht⟩
  have go := hq _ _ M
  show wpAny _ _ _ _ _ (⟨((h.push { cls := .type "tuple", data := .seq rest.toArray }).push { cls := .ref C, data := .fields #[.ref h.objs.size, .none, .none, .none, .bool false, .none] }), g, d, t, os⟩ : Shared)
  generalize ((h.push { cls := .type "tuple", data := .seq rest.toArray }).push { cls := .ref C, data := .fields #[.ref h.objs.size, .none, .none, .none, .bool false, .none] }) = h2 at keeps he M go ⊢
  have KX2 : K.In h2 := KX.keeps keeps
  have L0 : PySem.W.Looks (model prog w) h2 (typeOf (.ref (h.objs.size + 1))) (.ref C) := (PySem.W.Looks.ld he).andThen .now
  have L1 := PySem.W.looks_findIn (M := model prog w) KX2 hi
  have L2 := PySem.W.bind_fn (M := model prog w) KX2 (.ref (h.objs.size + 1)) hf
  have hC2 := keeps _ _ hC
  have hcC : (Value.ref C :: bm).contains (.ref C) = true := by simp
  unfold isInstance
  refine wpAny_bind (wpAny_bind (L0.at (wpAny_isSubtype_exc hC2 ?_)))
  rw [hcC]
  simp only [Bool.not_true, Bool.false_eq_true, if_false]
  refine wpAny_bind (wpAny_holding ?_)
  unfold callSpecial? specialOf
  refine wpAny_bind (wpAny_bind (L0.at (L1.at ?_)))
  refine wpAny_holding (wpAny_bind (L2.at (wpAny_bind (wpAny_call (codeAny_mono go fun r s' z => ?_)))))
  cases r with
  | error x => exact z
  | ok fl =>
    cases fl with
    | ret u =>
      obtain ⟨rfl, z⟩ := z
      exact wpAny_pure (wpAny_pure z)
    | next => exact z.elim
    | brk => exact z.elim
    | cont => exact z.elim
end
end L2

set_option Elab.async false
set_option linter.all false
set_option maxRecDepth 100000
set_option maxHeartbeats 4000000
namespace L2
open PySem PySem.Spec PyProof.Rows
section
variable {prog : Program} {w : World} {A : Around} {E : Value → Shared → Prop} {h : Heap} {g : Array GenState} {d : Drawn} {t : Nat} {os : OsState} {K : PySem.W.Frag} {e : Addr}
variable {nm q : Str} {C N : Addr} {bs bm : List Value} {hdct : Bool} {sn : List Str} {sub : List Value} {ab : Bool} {col : Option Bool} {dd : Option Addr} {k0 k1 k2 k3 k5 : Option Value} {newId : String}
/-- ValueError.__init__(e, v ..): the exception's args -/
theorem init_exc {rest : List Value} {dx : Option Addr} {vs : Array Value} {sl : Array (Option Value)} {Q : Value → Shared → Prop} (T : OwnTail h bmV bm)
    (hC : h.get? C = some (excClassObj nm q C N bs bm hdct sn sub ab col dd k0 k1 k2 k3 k5 newId)) (he : h.get? e = some ⟨.ref C, dx, .fields vs, sl⟩) {t1 : Addr} (h0 : vs[0]? = some (.ref t1)) (hrest : rest.length ≤ sizeLine)
    (hq : ∀ h' t0, (∀ b o, b ≠ e → h.get? b = some o → h'.get? b = some o) → h'.get? e = some ⟨.ref C, dx, .fields (vs.setIfInBounds 0 (.ref t0)), sl⟩ → Q .none ⟨h', g, d, t, os⟩) :
    wpAny (model prog w) A (call (.builtin "ValueError.__init__") (.ref e :: rest)) Q E ⟨h, g, d, t, os⟩ := by
  have FV := PySem.F.excBase_ValueError
  refine wpAny_call (codeAny_call_builtin FV.init.plain FV.initEntry (wpAny_check_init_subU FV T hC he rfl ?_))
  wp_walk
  rw [h0]
  refine wpAny_pure ?_
  have sz : 0 < vs.size := (Array.getElem?_eq_some_iff.mp h0).1
  have he2 : (h.push { cls := .type "tuple", data := .seq rest.toArray }).get? e = some ⟨.ref C, dx, .fields vs, sl⟩ := Heap.get?_push_of_some _ he
  refine wpAny_bind (wpAny_setField he2 rfl sz ?_)
  refine wpAny_letGo (wpAny_pure (hq _ h.objs.size (fun b o hb z => ?_) ?_))
  · rw [Heap.get?_update_other _ _ (Ne.symm hb)]
    exact Heap.get?_push_of_some _ z
  · rw [Heap.get?_update_self _ he2 (by rw [fields_set rfl]; rfl), fields_set rfl]
variable {x CF : Addr} {cd : ClassData} {name : Str} {v : Value} {vs : Array Value} {sl : Array (Option Value)}
/-- up to the dict -/
theorem xset_open {dx : Option Addr} {Q : Unit → Shared → Prop} (KX : K.In h) (hx : h.get? x = some ⟨.ref C, dx, .fields vs, sl⟩) (hcd : PySem.W.clsIn K C = some cd) (hm : cd.mro = .ref C :: .ref CF :: bmV)
    (hs : PySem.W.findIn K (.ref C) "__setattr__" = some (some (.builtin "object.__setattr__"))) (hna : PySem.W.findIn K (.ref C) name = some none)
    (hq : wpAny (model prog w) A.in1 (Builtin.ObjectAttr.storeInOwnDict (.ref x) (.ref C) (.str name t) name v false) (fun fin s' => match fin with | .done (.ret _) => Q () s' | _ => False) (fun _ _ => False) ⟨h, g, d, t + 1, os⟩) :
    wpAny (model prog w) A (setAttr (.ref x) name v) Q E ⟨h, g, d, t, os⟩ := by
  have SF := PySem.F.store_ValueError
  have L0 : PySem.W.Looks (model prog w) h (typeOf (.ref x)) (.ref C) := (PySem.W.Looks.ld hx).andThen .now
  have L1 := PySem.W.looks_findIn (M := model prog w) KX hs
  have L2 := PySem.W.looks_findIn (M := model prog w) KX hna
  have L3 : PySem.W.Looks (model prog w) h (mroOf (.ref C)) cd.mro := (PySem.W.looks_clsIn KX hcd).andThen .now
  have ob : PySem.W.mroIn K C (.type "object") = some true := by
    unfold PySem.W.mroIn
    rw [hcd, Option.bind_some, hm]
    rfl
  have L4 : PySem.W.Looks (model prog w) h (isInstance (.ref x) (.type "object")) true := L0.andThen (PySem.W.looks_mroIn KX ob)
  unfold setAttr
  refine wpAny_bind (wpAny_mkText (wpAny_bind ?_))
  unfold callSpecial? specialOf
  refine wpAny_bind (wpAny_bind (L0.at (L1.at ?_)))
  refine wpAny_holding (wpAny_bind ?_)
  rw [SF.slot.bind (.ref x)]
  refine wpAny_pure (wpAny_bind (wpAny_call (codeAny_call_builtin SF.slot.plain SF.entry
    (@PySem.W.check_slot (model prog w) _ _ (⟨h, g, d, t + 1, os⟩ : Shared) "object.__setattr__" "object" "__setattr__" (.ref x) [.str name t, v] [] _ SF.kind SF.split L4 (SF.args (.ref x) (.str name t) v) ?_))))
  show wpAny _ _ (Builtin.«object.__setattr__» ⟨[.ref x, .str name t, v], []⟩) _ _ _
  rw [PySem.W.osa_eq, refuse_eq]
  refine wpAny_bind (wpAny_bind (L0.at (wpAny_bind (L3.at ?_))))
  rw [hm, refuseLoop_ref, refuseLoop_ref, SF.passes]
  refine wpAny_pure (wpAny_bind (L0.at (wpAny_bind (L2.at (wpAny_bind (wpAny_pure ?_))))))
  refine wpAny_mono hq (fun fin s' z => ?_) (fun _ _ z => z.elim)
  rcases fin with (_ | _ | _ | _) | _ <;> first | exact z.elim | exact wpAny_pure (wpAny_pure z)
theorem xset_new {Q : Unit → Shared → Prop} (KX : K.In h) (hx : h.get? x = some ⟨.ref C, none, .fields vs, sl⟩) (hcd : PySem.W.clsIn K C = some cd) (hm : cd.mro = .ref C :: .ref CF :: bmV) (hh : cd.hasDict = true)
    (hs : PySem.W.findIn K (.ref C) "__setattr__" = some (some (.builtin "object.__setattr__"))) (hna : PySem.W.findIn K (.ref C) name = some none)
    (hq : ∀ h' tk', h'.get? x = some ⟨.ref C, some h.objs.size, .fields vs, sl⟩ → h'.Ns1 h.objs.size (fun y => if y = name then some v else none) → (∀ b o, b ≠ x → h.get? b = some o → h'.get? b = some o) → Q () ⟨h', g, d, tk', os⟩) :
    wpAny (model prog w) A (setAttr (.ref x) name v) Q E ⟨h, g, d, t, os⟩ := by
  refine xset_open KX hx hcd hm hs hna ?_
  refine wpAny_bind (wpAny_pure (wpAny_bind (wpAny_bind (wpAny_loadPart hx (wpAny_bind ((PySem.W.looks_clsIn KX hcd).at ?_))))))
  rw [hh]
  have hx1 : (h.push { cls := .type "dict", data := .dict #[] }).get? x = some ⟨.ref C, none, .fields vs, sl⟩ := Heap.get?_push_of_some _ hx
  have hxs : x ≠ h.objs.size := Nat.ne_of_lt (Heap.lt_size hx)
  refine wpAny_bind (wpAny_alloc' (wpAny_bind (wpAny_update' hx1 (wpAny_pure ?_))))
  have hgd : ((h.push { cls := .type "dict", data := .dict #[] }).update x fun o => { cls := o.cls, dict := some h.objs.size, data := o.data, slots := o.slots }).get? h.objs.size = some { cls := .type "dict", data := .dict #[] } :=
    (Heap.get?_update_ne _ _ _ _ hxs.symm).trans (Heap.get?_push_at rfl rfl)
  have hgx : ((h.push { cls := .type "dict", data := .dict #[] }).update x fun o => { cls := o.cls, dict := some h.objs.size, data := o.data, slots := o.slots }).get? x = some ⟨.ref C, some h.objs.size, .fields vs, sl⟩ := Heap.get?_update_self _ hx1 rfl
  have hgo : ∀ b o, b ≠ x → h.get? b = some o → ((h.push { cls := .type "dict", data := .dict #[] }).update x fun o => { cls := o.cls, dict := some h.objs.size, data := o.data, slots := o.slots }).get? b = some o := fun b o hb z =>
    (Heap.get?_update_ne _ _ _ _ hb).trans (Heap.get?_push_of_some _ z)
  generalize ((h.push { cls := .type "dict", data := .dict #[] }).update x fun o => { cls := o.cls, dict := some h.objs.size, data := o.data, slots := o.slots }) = h2 at hgd hgx hgo ⊢
  have hnd : h2.Ns h.objs.size (fun _ => none) := ⟨_, #[], _, hgd, rfl, fun e he => absurd he (by simp), fun _ => rfl⟩
  show wpAny _ _ (Builtin.ObjectAttr.storeInDict h.objs.size (.str name t) name v) _ _ _
  unfold Builtin.ObjectAttr.storeInDict Builtin.ObjectAttr.newKeyGuard
  refine wpAny_bind (wpAny_pure (wpAny_bind (wpAny_nsSet1 (Heap.Ns1.of_empty hnd) fun h' hn' hs' => ?_)))
  obtain ⟨oD, esD, epD, hoD, hdD, hcD⟩ := hn'.count (Within.cons name v Within.nil)
  refine wpAny_bind (wpAny_lookBehind hoD (by rw [hdD]; exact pastItsLine_dict (Nat.le_trans hcD (by rw [List.length_cons, List.length_nil, sizeLine_eq]; omega))) (wpAny_pure ?_))
  exact hq h' _ ((hs'.2 x hxs).trans hgx) hn' fun b o hb z => (hs'.2 b (Nat.ne_of_lt (Heap.lt_size z))).trans (hgo b o hb z)
theorem xset_old {d0 : Addr} {mA : Str → Option Value} {ns : List Str} {Q : Unit → Shared → Prop} (KX : K.In h) (hx : h.get? x = some ⟨.ref C, some d0, .fields vs, sl⟩) (hcd : PySem.W.clsIn K C = some cd) (hm : cd.mro = .ref C :: .ref CF :: bmV) (hh : cd.hasDict = true)
    (hs : PySem.W.findIn K (.ref C) "__setattr__" = some (some (.builtin "object.__setattr__"))) (hna : PySem.W.findIn K (.ref C) name = some none) (hn : h.Ns1 d0 mA) (hw : Within mA ns) (hsz : ns.length ≤ 1000)
    (hq : ∀ h' tk', h'.Ns1 d0 (fun y => if y = name then some v else mA y) → (∀ b o, b ≠ d0 → h.get? b = some o → h'.get? b = some o) → Q () ⟨h', g, d, tk', os⟩) :
    wpAny (model prog w) A (setAttr (.ref x) name v) Q E ⟨h, g, d, t, os⟩ := by
  refine xset_open KX hx hcd hm hs hna ?_
  refine wpAny_bind (wpAny_pure (wpAny_bind (wpAny_bind (wpAny_loadPart hx (wpAny_bind ((PySem.W.looks_clsIn KX hcd).at ?_))))))
  rw [hh]
  refine wpAny_pure (a := some d0) ?_
  show wpAny _ _ (Builtin.ObjectAttr.storeInDict d0 (.str name t) name v) _ _ _
  unfold Builtin.ObjectAttr.storeInDict Builtin.ObjectAttr.newKeyGuard
  refine wpAny_bind (wpAny_pure (wpAny_bind (wpAny_nsSet1 hn fun h' hn' hs' => ?_)))
  obtain ⟨oD, esD, epD, hoD, hdD, hcD⟩ := hn'.count (Within.cons name v hw)
  refine wpAny_bind (wpAny_lookBehind hoD (by rw [hdD]; exact pastItsLine_dict (Nat.le_trans hcD (by rw [List.length_cons, sizeLine_eq]; omega))) (wpAny_pure ?_))
  exact hq h' _ hn' fun b o hb z => (hs'.2 b hb).trans z
end
end L2

set_option Elab.async false
set_option linter.all false
set_option maxRecDepth 100000
set_option maxHeartbeats 4000000
namespace L2
open PySem PySem.Spec PyProof.Rows
structure XOwn (K : PySem.W.Frag) (C CF : Addr) : Prop where
  obj : ∃ dd cd k0 k1 k2 k3 k5, K.lookup C = some ⟨.type "type", dd, .cls cd, #[k0, k1, k2, k3, some (.builtin "ValueError.__new__"), k5]⟩ ∧ cd.mro = .ref C :: .ref CF :: bmV ∧ cd.hasDel = false ∧ cd.hasDict = true
  base : PySem.W.excIn K CF bmV "ValueError.__new__" = true
  sa : PySem.W.findIn K (.ref C) "__setattr__" = some (some (.builtin "object.__setattr__"))
section
variable {K : PySem.W.Frag} {C CF : Addr} {h : Heap}
theorem XOwn.cls (O : XOwn K C CF) : ∃ cd, PySem.W.clsIn K C = some cd ∧ cd.mro = .ref C :: .ref CF :: bmV ∧ cd.hasDict = true := by
  obtain ⟨dd, cd, k0, k1, k2, k3, k5, e, m, _, hd⟩ := O.obj
  refine ⟨cd, ?_, m, hd⟩
  unfold PySem.W.clsIn
  rw [e]
theorem XOwn.tail (O : XOwn K C CF) (KX : K.In h) : OwnTail h bmV (.ref CF :: bmV) := by
  obtain ⟨tl, N, nm, qn, bs, hd, sn, sub, ab, col, dd, k0, k1, k2, k3, k5, mN, hC, hN, hni, TL⟩ := exc_cls KX O.base
  exact .own hC hN hni .base
theorem XOwn.at (O : XOwn K C CF) (KX : K.In h) : ∃ N nm qn bs hd sn sub ab col dd k0 k1 k2 k3 k5, h.get? C = some (excClassObj nm qn C N bs (.ref CF :: bmV) hd sn sub ab col dd k0 k1 k2 k3 k5 "ValueError.__new__") := by
  obtain ⟨dd, cd, k0, k1, k2, k3, k5, e, m, hdel, hd⟩ := O.obj
  obtain ⟨nm, bs, mro, ns, qn, hd, sn, sub, ab, col, del⟩ := cd
  dsimp only at m hdel
  subst m hdel
  exact ⟨_, _, _, _, _, _, _, _, _, _, _, _, _, _, _, KX _ _ e⟩
end
/-- a new exception at a, tracked: its class and its dict; it has not been raised -/
def ExcN (a : Addr) (cls : Value) (dx : Option Addr) : HO := .ext fun h => ∃ vs sl t1, h.get? a = some ⟨cls, dx, .fields vs, sl⟩ ∧ vs[0]? = some (.ref t1) ∧ vs[1]? = some .none
section
variable {X : Cx} {pins : List (Addr × Obj)} {σ : St} {H : Hp} {s : Shared} {h' : Heap}
/-- x is changed, a new d is laid -/
theorem Inv.write2 {x d : Addr} {o od : HO} {t' : Nat} (I : Inv X pins σ H s) (mu : Mut (H x)) (hd : s.heap.objs.size ≤ d) (k : ∀ b u, b ≠ x → s.heap.get? b = some u → h'.get? b = some u) (hx : ∃ u, h'.get? x = some u)
    (nx : ObjOk X.prog X.w (upd (upd H d od) x o) h' x o) (nd : ObjOk X.prog X.w (upd (upd H d od) x o) h' d od) : Inv X pins σ (upd (upd H d od) x o) { s with heap := h', toks := t' } := by
  have hn : H d = none := I.hok.fresh hd
  have hnx : ∀ b, H b = none → b ≠ x := fun b n z => by subst z; rw [n] at mu; exact mu
  have dx : d ≠ x := hnx d hn
  have hm : ∀ b u, H b = some u → ¬ Mut (some u) → b ≠ x := fun b u q nm z => by subst z; rw [q] at mu; exact nm mu
  have go : ∀ b u, H b = some u → ¬ Mut (some u) → upd (upd H d od) x o b = some u := fun b u q nm => by
    rw [upd_ne (hm b u q nm), upd_ne (ne_of_none q hn)]; exact q
  refine I.un ⟨fun b u q n _ _ => k b u (hnx b n) q, fun b u q n _ _ => ⟨u.slots, k b u (hnx b n) q⟩, fun b u q n _ => ?_, fun b u q _ => ?_, fun b xs q => go b _ q fun z => z, fun b u xs q => go b _ q fun z => z, fun b ps q => ⟨#[], by rw [go b _ q fun z => z]; simp⟩⟩ fun b u q => ?_
  · rw [upd_ne (hnx b n), upd_ne (Nat.ne_of_lt (Nat.lt_of_lt_of_le (Heap.lt_size q) hd))]; exact n
  · by_cases hb : b = x
    · subst hb; exact hx
    · exact ⟨u, k b u hb q⟩
  · by_cases hb : b = x
    · subst hb; rw [upd_same] at q; cases q; exact nx
    · rw [upd_ne hb] at q
      by_cases hbd : b = d
      · subst hbd; rw [upd_same] at q; cases q; exact nd
      · rw [upd_ne hbd] at q
        refine (I.hok b u q).stay (fun c v hc r => k c v ?_ r) (fun c r => go c _ r fun z => z) fun c xs r => go c _ r fun z => z
        rcases hc with rfl | hc
        · exact hb
        · exact hm c _ hc fun z => z
/-- an exception's dict is changed -/
theorem Inv.writeD {d : Addr} {fs fs' : List (Str × V)} {t' : Nat} (I : Inv X pins σ H s) (hd : H d = some (.xd fs)) (k : ∀ b u, b ≠ d → s.heap.get? b = some u → h'.get? b = some u)
    (nd : ObjOk X.prog X.w (upd H d (.xd fs')) h' d (.xd fs')) : Inv X pins σ (upd H d (.xd fs')) { s with heap := h', toks := t' } := by
  have hnd : ∀ b, H b = none → b ≠ d := fun b n z => by subst z; rw [n] at hd; cases hd
  have hm : ∀ b u, H b = some u → (∀ z, u ≠ .xd z) → b ≠ d := fun b u q nm z => by subst z; rw [q] at hd; cases hd; exact nm _ rfl
  have go : ∀ b u, H b = some u → (∀ z, u ≠ .xd z) → upd H d (.xd fs') b = some u := fun b u q nm => by rw [upd_ne (hm b u q nm)]; exact q
  refine I.un ⟨fun b u q n _ _ => k b u (hnd b n) q, fun b u q n _ _ => ⟨u.slots, k b u (hnd b n) q⟩, fun b u q n _ => by rw [upd_ne (hnd b n)]; exact n, fun b u q _ => ?_, fun b xs q => go b _ q fun z e => (nomatch e), fun b u xs q => go b _ q fun z e => (nomatch e), fun b ps q => ⟨#[], by rw [go b _ q fun z e => (nomatch e)]; simp⟩⟩ fun b u q => ?_
  · by_cases hb : b = d
    · subst hb; exact nd.obj
    · exact ⟨u, k b u hb q⟩
  · by_cases hb : b = d
    · subst hb; rw [upd_same] at q; cases q; exact nd
    · rw [upd_ne hb] at q
      refine (I.hok b u q).stay (fun c v hc r => k c v ?_ r) (fun c r => go c _ r fun z e => (nomatch e)) fun c xs r => go c _ r fun z e => (nomatch e)
      rcases hc with rfl | hc
      · exact hb
      · exact hm c _ hc fun z e => (nomatch e)
theorem excN_obj {a : Addr} {cls : Value} {dx : Option Addr} (I : Inv X pins σ H s) (h : H a = some (ExcN a cls dx)) : ∃ vs sl t1, s.heap.get? a = some ⟨cls, dx, .fields vs, sl⟩ ∧ vs[0]? = some (.ref t1) ∧ vs[1]? = some .none :=
  (show ObjOk X.prog X.w H s.heap a (ExcN a cls dx) from I.hok a _ h).1
theorem excN_ok {P : Program} {w : World} {H : Hp} {h : Heap} {a : Addr} {cls : Value} {dx : Option Addr} {vs : Array Value} {sl : Array (Option Value)} {t1 : Addr} (e : h.get? a = some ⟨cls, dx, .fields vs, sl⟩) (e0 : vs[0]? = some (.ref t1)) (e1 : vs[1]? = some .none) : ObjOk P w H h a (ExcN a cls dx) :=
  ⟨⟨vs, sl, t1, e, e0, e1⟩, ⟨_, e⟩, fun h1 h3 ⟨vs', sl', t', q, r⟩ kk => ⟨vs', sl', t', kk _ q, r⟩⟩
def sXF1 (K : PySem.W.Frag) (ta tv : TE) (f : Str) : TS := fun D σ H => tv σ H fun y H1 => ta σ H1 fun x H2 => ∃ a C CF, x = .ref a ∧ H2 a = some (ExcN a (.ref C) none) ∧ XOwn K C CF ∧ PySem.W.findIn K (.ref C) f = some none ∧
  ∀ d, H2 d = none → D.nx σ (upd (upd H2 d (.xd [(f, y)])) a (ExcN a (.ref C) (some d)))
def sXF2 (K : PySem.W.Frag) (ta tv : TE) (f : Str) : TS := fun D σ H => tv σ H fun y H1 => ta σ H1 fun x H2 => ∃ a C CF d fs, x = .ref a ∧ H2 a = some (ExcN a (.ref C) (some d)) ∧ H2 d = some (.xd fs) ∧ fs.length ≤ 900 ∧ XOwn K C CF ∧ PySem.W.findIn K (.ref C) f = some none ∧
  D.nx σ (upd H2 d (.xd (putF f y fs)))
variable {o value : Expr} {f : Str} {pos pos' : Pos} {ta tv : TE}
theorem ps_xf1 (ha : PE X o ta) (hv : PE X value tv) (hs : swapsWith value (some (.Attribute o f pos')) pos.line X.env = pure false) : PS X (.Assign [.Attribute o f pos'] value pos) (sXF1 X.K ta tv f) := by
  intro pins s σ H D I h
  refine plainObj_wpAny_Assign_Attribute (thn (hv pins s σ H _ I h) fun u s1 ⟨y, H1, I1, ry, q⟩ => thn (ha pins s1 σ H1 _ I1 q) fun ov s2 ⟨x, H2, I2, rx, a, C, CF, ex, ea, O, hna, q2⟩ => ?_) hs
  subst ex
  obtain rfl : ov = Value.ref a := rx
  obtain ⟨vs, sl, t1, e, e0, e1⟩ := excN_obj I2 ea
  obtain ⟨cd, hcd, hm, hh⟩ := O.cls
  obtain ⟨hh2, g2, d2, t2, os2⟩ := s2
  refine xset_new I2.kIn e hcd hm hh O.sa hna fun h' tk' hx hn k => ?_
  have hne : hh2.objs.size ≠ a := Nat.ne_of_gt (Heap.lt_size e)
  refine ⟨σ, _, ?_, q2 hh2.objs.size (I2.hok.fresh (Nat.le_refl _))⟩
  refine I2.write2 (by rw [ea]; trivial) (Nat.le_refl _) k ⟨_, hx⟩ (excN_ok hx e0 e1) ?_
  refine ⟨_, hn, fun z => ?_⟩
  show RelO (List.lookup z [(f, y)]) (if z = f then some u else none)
  by_cases q : z = f
  · subst q; rw [if_pos rfl, List.lookup_cons_self]; exact ry
  · rw [if_neg q, List.lookup_cons, beq_eq_false_iff_ne.mpr q]; trivial
theorem ps_xf2 (ha : PE X o ta) (hv : PE X value tv) (hs : swapsWith value (some (.Attribute o f pos')) pos.line X.env = pure false) : PS X (.Assign [.Attribute o f pos'] value pos) (sXF2 X.K ta tv f) := by
  intro pins s σ H D I h
  refine plainObj_wpAny_Assign_Attribute (thn (hv pins s σ H _ I h) fun u s1 ⟨y, H1, I1, ry, q⟩ => thn (ha pins s1 σ H1 _ I1 q) fun ov s2 ⟨x, H2, I2, rx, a, C, CF, d, fs, ex, ea, ed, hl, O, hna, q2⟩ => ?_) hs
  subst ex
  obtain rfl : ov = Value.ref a := rx
  obtain ⟨vs, sl, t1, e, e0, e1⟩ := excN_obj I2 ea
  obtain ⟨cd, hcd, hm, hh⟩ := O.cls
  obtain ⟨hh2, g2, d2, t2, os2⟩ := s2
  obtain ⟨mA, hn, r⟩ := I2.hok d _ ed
  have hw : Within mA (fs.map (·.1)) := fun z hz => by
    cases e' : fs.lookup z with
    | none =>
      have := r z
      rw [e'] at this
      cases e2 : mA z with
      | none => exact absurd e2 hz
      | some v => rw [e2] at this; exact this.elim
    | some v =>
      clear ea ed hl hn r q2 I2
      induction fs with
      | nil => cases e'
      | cons p fs ih =>
        rw [List.lookup_cons] at e'
        by_cases q : z = p.1
        · rw [q]; simp
        · rw [beq_eq_false_iff_ne.mpr q] at e'
          exact List.mem_cons_of_mem _ (ih e')
  refine xset_old I2.kIn e hcd hm hh O.sa hna hn hw (by rw [List.length_map]; omega) fun h' tk' hn' k => ?_
  refine ⟨σ, _, I2.writeD ed k ⟨_, hn', fun z => ?_⟩, q2⟩
  show RelO ((putF f y fs).lookup z) (if z = f then some u else mA z)
  rw [lookup_putF]
  by_cases q : z = f
  · rw [if_pos q, if_pos q]; exact ry
  · rw [if_neg q, if_neg q]; exact r z
structure FInit (K : PySem.W.Frag) (mg : Str → Option Value) (x : Str) (CF : Addr) : Prop where
  bound : mg x = some (.ref CF)
  sp : PySem.W.specialIn K (.ref CF) "__getattribute__" = some (some (.builtin "type.__getattribute__"))
  rd : PySem.W.readsIn K CF (.type "type") = true
  fc : PySem.W.findCls K (.ref CF) (.type "type") "__init__" = some (.val (.builtin "ValueError.__init__"))
def tXI (K : PySem.W.Frag) (t : TA) : TE := fun σ H Q => t σ H fun vs H1 => ∃ a C CF dx rest, vs = .ref a :: rest ∧ H1 a = some (ExcN a (.ref C) dx) ∧ XOwn K C CF ∧ rest.length ≤ sizeLine ∧ Q .non H1
theorem call_init {C CF a : Addr} {dx : Option Addr} {rest : List Value} {Q : VK} (I : Inv X pins σ H s) (ea : H a = some (ExcN a (.ref C) dx)) (O : XOwn X.K C CF) (hl : rest.length ≤ sizeLine) (q : Q .non H) :
    wpAny (model X.prog X.w) X.A (call (.builtin "ValueError.__init__") (.ref a :: rest)) (EP X pins σ Q) X.xe s := by
  obtain ⟨vs, sl, t1, e, e0, e1⟩ := excN_obj I ea
  obtain ⟨N, nm, qn, bs, hd, sn, sub, ab, col, dd, k0, k1, k2, k3, k5, hC⟩ := O.at I.kIn
  obtain ⟨hh, g, d, t, os⟩ := s
  have sz : 0 < vs.size := (Array.getElem?_eq_some_iff.mp e0).1
  refine init_exc (O.tail I.kIn) hC e e0 hl fun h' t0 k he => ?_
  have J : Inv X pins σ (upd H a (ExcN a (.ref C) dx)) (⟨h', g, d, t, os⟩ : Shared) := I.write (x := a) (e := a) (t' := t) (by rw [ea]; trivial) (.inl rfl) k ⟨_, he⟩
    (excN_ok he (by rw [Array.getElem?_setIfInBounds_self_of_lt sz]) (by rw [Array.getElem?_setIfInBounds_ne (by decide)]; exact e1))
  have eq : upd H a (ExcN a (.ref C) dx) = H := by
    funext b
    by_cases hb : b = a
    · subst hb; rw [upd_same, ea]
    · rw [upd_ne hb]
  rw [eq] at J
  exact ⟨.non, H, J, rfl, q⟩
theorem pe_xinit {x : Str} {CF : Addr} {e : Expr} {es : List Expr} {t : TA} {p apos pos : Pos} {pl : Sem Bool} (N : FInit X.K X.mg x CF) (hg : Gl X x) (ha : PA X (e :: es) t)
    (hdb : (x == ("__debug__" : Str)) = false := by decide) (hst : starEach (e :: es) X.env = (false, eval e X.env) :: starEach es X.env := by rfl) (hpl : (backTo pos (starEach es X.env)).any (·.1) = false := by rfl)
    (ht : eval (.Call (.Attribute (.Name x p) "__init__" apos) (e :: es) [] pos) X.env = (do
      let ov ← eval (.Name x p) X.env
      standAt apos.atName
      let (f, first) ← holding [ov] (getMethod ov "__init__" pl)
      callWith pos f first (backTo pos (starEach (e :: es) X.env)) (backToKw pos (keywordEach [] X.env))) := by rfl) :
    PE X (.Call (.Attribute (.Name x p) "__init__" apos) (e :: es) [] pos) (tXI X.K t) := by
  intro pins s σ H Q I h
  refine PySem.W.methodCall_KW (pl := pl) (ld_glob I hg N.bound ?_ hdb) ht
  refine PySem.W.method_cls I.kIn N.sp (PySem.W.cls_value I.kIn N.rd N.fc rfl ?_)
  have I1 : Inv X pins σ H { s with toks := s.toks + 1 } := I.tok _
  refine callWith_builtin1 (thn (ha pos pins _ σ H _ I1 h) fun us s2 ⟨vs, H2, I2, r, a, C, CF, dx, rest, ev, ea, O, hl, q2⟩ => ?_) hst hpl
  subst ev
  cases r with
  | cons r1 r2 =>
    cases (show _ = Value.ref a from r1)
    exact call_init I2 ea O (by rw [← r2.length]; exact hl) q2
def era (H : Hp) (a : Addr) : Hp := fun b => if b = a then none else H b
theorem era_ne {H : Hp} {a b : Addr} (h : b ≠ a) : era H a b = H b := by unfold era; rw [if_neg h]
theorem era_same {H : Hp} {a : Addr} : era H a a = none := by unfold era; rw [if_pos rfl]
theorem era_none {H : Hp} {a b : Addr} (h : H b = none) : era H a b = none := by
  unfold era; split
  · rfl
  · exact h
theorem un_era {fs ex : List Addr} {H1 H2 : Hp} {h1 h2 : Heap} {a : Addr} {φ : Heap → Prop} (u : Un fs ex H1 H2 h1 h2) (ha : H2 a = some (.ext φ)) : Un fs ex H1 (era H2 a) h1 h2 where
  keep := u.keep
  slot := u.slot
  free := fun b o q n hx => era_none (u.free b o q n hx)
  there := u.there
  tups := fun b xs q => by
    have z := u.tups b xs q
    rw [era_ne (ne_of z ha (fun e => nomatch e))]; exact z
  frzs := fun b o xs q => by
    have z := u.frzs b o xs q
    rw [era_ne (ne_of z ha (fun e => nomatch e))]; exact z
  tbls := fun b ps q => by
    obtain ⟨more, z⟩ := u.tbls b ps q
    exact ⟨more, by rw [era_ne (ne_of z ha (fun e => nomatch e))]; exact z⟩
theorem hok_era {P : Program} {w : World} {H : Hp} {h : Heap} {a : Addr} {φ : Heap → Prop} (ok : HOk P w H h) (ha : H a = some (.ext φ)) : HOk P w (era H a) h := fun b o q => by
  by_cases hb : b = a
  · subst hb; rw [era_same] at q; cases q
  · rw [era_ne hb] at q
    refine (ok b o q).stay (fun _ _ _ z => z) (fun c z => ?_) fun c xs z => ?_
    · rw [era_ne (ne_of z ha (fun e => nomatch e))]; exact z
    · rw [era_ne (ne_of z ha (fun e => nomatch e))]; exact z
theorem Inv.era {a : Addr} {φ : Heap → Prop} (I : Inv X pins σ H s) (ha : H a = some (.ext φ)) : Inv X pins σ (era H a) s := by
  have e : s = { s with heap := s.heap, toks := s.toks } := rfl
  rw [e]
  exact I.un (un_era Un.refl ha) (hok_era I.hok ha)
theorem un_new {fs ex : List Addr} {H : Hp} {h h' : Heap} {a : Addr} {o : HO} (k : ∀ b u, h.get? b = some u → h'.get? b = some u) (hnew : h.get? a = none) (hn : H a = none) : Un fs ex H (upd H a o) h h' where
  keep := fun b u q _ _ _ => k b u q
  slot := fun b u q _ _ _ => ⟨u.slots, k b u q⟩
  free := fun b u q n _ => by rw [upd_ne (fun z => by rw [z, hnew] at q; cases q)]; exact n
  there := fun b u q _ => ⟨u, k b u q⟩
  tups := fun b xs q => by rw [upd_ne (ne_of_none q hn)]; exact q
  frzs := fun b u xs q => by rw [upd_ne (ne_of_none q hn)]; exact q
  tbls := fun b ps q => ⟨#[], by rw [upd_ne (ne_of_none q hn), q]; simp⟩
theorem hok_new {P : Program} {w : World} {H : Hp} {h h' : Heap} {a : Addr} {o : HO} (x : HOk P w H h) (k : ∀ b u, h.get? b = some u → h'.get? b = some u) (hn : H a = none) (new : ObjOk P w (upd H a o) h' a o) : HOk P w (upd H a o) h' := fun b u e => by
  by_cases hb : b = a
  · subst hb; rw [upd_same] at e; cases e; exact new
  · rw [upd_ne hb] at e
    exact (x b u e).stay (fun c v _ q => k c v q) (fun c q => by rw [upd_ne (ne_of_none q hn)]; exact q) fun c xs q => by rw [upd_ne (ne_of_none q hn)]; exact q
end
section
variable {M : Model} {A : Around} {E : Value → Shared → Prop}
theorem raise_own {env : Env} {s : Shared} {x : Sem Value} {Q : Flow → Shared → Prop} (hh : A.handled = none)
    (h : wpAny M A x (fun v s₁ => ∃ e nm q C N bs CF hdct sn sub ab col dd k0 k1 k2 k3 k5 newId dx vs sl, v = .ref e ∧ s₁.heap.get? C = some (excClassObj nm q C N bs (.ref CF :: bmV) hdct sn sub ab col dd k0 k1 k2 k3 k5 newId) ∧
      s₁.heap.get? e = some ⟨.ref C, dx, .fields vs, sl⟩ ∧ vs[1]? = some .none ∧ E (.ref e) s₁) E s) :
    wpAny M A (raiseStmt env (some x) none) Q E s := by
  unfold raiseStmt
  refine wpAny_bind (wpAny_mono h (fun v s₁ h₁ => ?_) fun _ _ x => x)
  obtain ⟨e, nm, q, C, N, bs, CF, hdct, sn, sub, ab, col, dd, k0, k1, k2, k3, k5, newId, dx, vs, sl, rfl, hC, he, h1, hE⟩ := h₁
  have hcB : (Value.ref C :: .ref CF :: bmV).contains (.type "BaseException") = true := by
    rw [List.contains_cons, List.contains_cons]; rfl
  obtain ⟨hp, g, d, tk, os⟩ := s₁
  repeat (first | with_reducible refine wpAny_field he rfl h1 ?_ | with_reducible refine wpAny_loadPart_at he ?_ | with_reducible refine wpAny_loadPart_at hC ?_ | (with_reducible refine wpAny_isSubtype_exc hC ?_; rw [hcB]) | wp_step)
  exact wpAny_raiseNew_none hh hE
end
end L2

set_option Elab.async false
set_option linter.all false
set_option maxRecDepth 100000
set_option maxHeartbeats 4000000
namespace L2
open PySem PySem.Spec PyProof.Rows
/-- what a class with an own __init__ at f must have to be made -/
structure XMk (K : PySem.W.Frag) (mg : Str → Option Value) (x : Str) (C CF f : Addr) : Prop extends XOwn K C CF where
  bound : mg x = some (.ref C)
  kp : PySem.W.keepIn K (.ref C) = true
  init : PySem.W.findIn K (.ref C) "__init__" = some (some (.ref f))
  fn : PySem.W.typeIn K (.ref f) = some (.type "function")
def tRaiseX (C : Addr) (sp : Sp) (EE : Value → Option Addr → St → Hp → Prop) (ta : TA) : TS := fun _ σ H => ta σ H fun vs H1 => vs.length ≤ sizeLine ∧ ∀ e, H1 e = none →
  sp (.ref e :: (vs ++ [])) (upd H1 e (ExcN e (.ref C) none)) (fun v H2 => v = .non ∧ ∃ dx, H2 e = some (ExcN e (.ref C) dx) ∧ EE (.ref C) dx σ (era H2 e)) E0
section
variable {X : Cx} {EE : Value → Option Addr → St → Hp → Prop}
theorem ps_raiseX {k : Nat} {x : Str} {C CF f : Addr} {fd : FuncData} {ps : List Str} {sp : Sp} {e : Expr} {es : List Expr} {t : TA} {np cpos pos : Pos} (T : Thr X EE) (hc : X.calm = true) (O : XMk X.K X.mg x C CF f) (F : FnOk X.prog X.w X.K X.mg X.base CX0 k f fd ps sp) (hr : Room (k + 1) X.A) (hb : Binds X.K fd ps [])
    (hg : Gl X x) (ha : PA X (e :: es) t)
    (hdb : (x == ("__debug__" : Str)) = false := by decide) (he : starEach (e :: es) X.env = (false, eval e X.env) :: starEach es X.env := by rfl) (hpl : (backTo cpos (starEach es X.env)).any (·.1) = false := by rfl) :
    PS X (.Raise (some (.Call (.Name x np) (e :: es) [] cpos)) none pos) (tRaiseX C sp EE t) := by
  intro pins s σ H D I h
  rw [arm_exec_Raise]
  refine wpAny_bind (wpAny_standAt (raise_own (I.ok.hd hc) ?_))
  refine wpAny_bind (wpAny_mono (Q := fun v s₁ => ∃ e nm q C N bs CF hdct sn sub ab col dd k0 k1 k2 k3 k5 newId dx vs sl, v = .ref e ∧ s₁.heap.get? C = some (excClassObj nm q C N bs (.ref CF :: bmV) hdct sn sub ab col dd k0 k1 k2 k3 k5 newId) ∧
      s₁.heap.get? e = some ⟨.ref C, dx, .fields vs, sl⟩ ∧ vs[1]? = some .none ∧ X.xe (.ref e) s₁) ?_ (fun v s₃ h₃ => wpAny_bind (wpAny_standAt (wpAny_pure h₃))) fun _ _ x => x)
  refine wpAny_Call_Name_kw (ld_glob I hg O.bound ?_ hdb)
  refine PySem.W.callWith_K (h₀ := X.base) I.ok.mod.kin O.kp (thn (ha cpos pins s σ H _ I h) fun us s1 ⟨vs, H1, I1, r, hz, q⟩ => ⟨I1.kIn, ?_⟩) he hpl
  obtain ⟨N, nm, qn, bs, hd, sn, sub, ab, col, dd, k0, k1, k2, k3, k5, hC⟩ := O.toXOwn.at I1.kIn
  obtain ⟨hp, g, d, tk, os⟩ := s1
  have hzu : us.length ≤ sizeLine := by rw [← r.length]; exact hz
  show wpAny _ _ (call (.ref C) us) _ _ _
  refine make_exc (f := f) (O.toXOwn.tail I1.kIn) I1.kIn hC O.init O.fn hzu fun h' ea M => ?_
  obtain ⟨ta, e1, _, _⟩ := M.there
  have hn : H1 ea = none := by
    cases z : H1 ea with
    | none => rfl
    | some o =>
      obtain ⟨u, hu⟩ := (I1.hok ea o z).obj
      rw [M.new] at hu; cases hu
  have I2 : Inv X pins σ (upd H1 ea (ExcN ea (.ref C) none)) (⟨h', g, d, tk, os⟩ : Shared) :=
    I1.un (t' := tk) (un_new M.keeps M.new hn) (hok_new I1.hok M.keeps hn (excN_ok e1 rfl rfl))
  have hq := q ea hn
  have r2 : Vals (V.ref ea :: (vs ++ [])) (Value.ref ea :: us) := .cons rfl (by rw [List.append_nil]; exact r)
  have hl : (Value.ref ea :: us).length = ps.length := by rw [← r2.length]; exact F.len _ _ _ _ hq
  have hb' := hb ⟨h', g, d, tk, os⟩ (Value.ref ea :: us) I2.kIn (by rw [List.append_nil]; exact hl)
  rw [List.append_nil] at hb'
  refine codeAny_mono (F.run _ X.stack _ _ ⟨Value.ref ea :: us, []⟩ (Value.ref ea :: us) _ _ E0 (hr.make C us []) (I2.env0.make C us []) hb' r2 hq) fun z s' hq' => ?_
  cases z with
  | error x => exact hq'.elim
  | ok fl =>
    cases fl with
    | next => exact hq'.elim
    | brk => exact hq'.elim
    | cont => exact hq'.elim
    | ret u =>
      obtain ⟨v, H2, os2, bare, un, hok, rv, rfl, dx, hH, qe⟩ := hq'
      have I3 : Inv X pins σ H2 s' := I2.call' (ch := []) os2 un hok bare (fun b z => nomatch z)
      obtain ⟨vs', sl', t1, g1, g2, g3⟩ := excN_obj I3 hH
      have I4 : Inv X pins σ (era H2 ea) s' := I3.era hH
      have un2 : Un (frs X.stack) [] H1 (era H2 ea) hp s'.heap := un_era ((un_new M.keeps M.new hn).trans un) hH
      obtain ⟨N', nm', qn', bs', hd', sn', sub', ab', col', dd', k0', k1', k2', k3', k5', hC'⟩ := O.toXOwn.at I3.kIn
      refine ⟨rv, ea, nm', qn', C, N', bs', CF, hd', sn', sub', ab', col', dd', k0', k1', k2', k3', k5', _, dx, vs', sl', rfl, hC', g1, g3, ?_⟩
      exact T.made pins σ H1 ⟨hp, g, d, tk, os⟩ _ _ I1 (cxm_made (dx := dx) I1 I4 un2 os2 ⟨vs', sl', g1, g3⟩ M.new era_same qe)
end
end L2

set_option Elab.async false
set_option linter.all false
set_option maxRecDepth 100000
set_option maxHeartbeats 4000000
namespace L2
open PySem PySem.Spec PyProof.Rows
def intT (i : Int) : Str := Str.ofString (toString i)
def shI (is : List Int) : Str := tupleText (is.map intT)
/-- the text that an f-string makes of a value -/
inductive FmtV (K : PySem.W.Frag) (H : Hp) : V → Str → Prop
  | int {i : Int} : i.natAbs.log2 < 1920 → FmtV K H (.int i) (intT i)
  | str {z : Str} : z.length ≤ sizeLine → FmtV K H (.str z) z
  | tup {a : Addr} {is : List Int} : SqT K H a (is.map V.int) → (∀ i ∈ is, i.natAbs.log2 < 1920) → (shI is).length ≤ sizeLine → FmtV K H (.ref a) (shI is)
theorem shownAll_ints : ∀ is : List Int, PyData.shownAll (is.map PyData.int) = is.map intT
  | [] => by simp [PyData.shownAll]
  | i :: is => by simp only [List.map_cons, PyData.shownAll, PyData.shown, shownAll_ints is]; rfl
theorem showableAll_ints : ∀ is : List Int, (∀ i ∈ is, i.natAbs.log2 < 1920) → PyData.showableAll (is.map PyData.int) = true
  | [], _ => by simp [PyData.showableAll]
  | i :: is, h => by
    simp only [List.map_cons, PyData.showableAll, PyData.showable, showableAll_ints is fun j hj => h j (List.mem_cons_of_mem _ hj), Bool.and_true, decide_eq_true_eq]
    exact h i (List.mem_cons_self ..)
theorem hasDictAll_ints : ∀ is : List Int, PyData.hasDictAll (is.map PyData.int) = false
  | [] => by simp [PyData.hasDictAll]
  | i :: is => by simp only [List.map_cons, PyData.hasDictAll, PyData.hasDict, hasDictAll_ints is, Bool.or_self]
theorem depthAll_ints : ∀ is : List Int, PyData.depthAll (is.map PyData.int) ≤ 1
  | [] => by simp [PyData.depthAll]
  | i :: is => by
    have := depthAll_ints is
    simp only [List.map_cons, PyData.depthAll, PyData.depth]
    omega
theorem readsAll_ints {h : Heap} : ∀ {is : List Int} {us : List Value}, Vals (is.map V.int) us → ReadsAll h us (is.map PyData.int) []
  | [], _, .nil => .nil
  | i :: is, _, .cons r t => by
    obtain ⟨tk, rfl⟩ := (show ∃ tk, _ = Value.int i tk from r)
    exact .cons (as := []) (bs := []) (.int i tk) (readsAll_ints t)
section
variable {X : Cx} {pins : List (Addr × Obj)} {σ : St} {H : Hp} {s : Shared}
theorem fmt_ok {k : Nat} {x : V} {u : Value} {y : Str} {Q : VK} (hr : RoomN k X.A) (I : Inv X pins σ H s) (r : RelV x u) (f : FmtV X.K H x y) (q : Q (.str y) H) : wpAny (model X.prog X.w) X.A (formatField u Str.empty) (EP X pins σ Q) X.xe s := by
  cases f with
  | int h =>
    obtain ⟨t, rfl⟩ := (show ∃ t, u = Value.int _ t from r)
    exact wpAny_formatField_int h ⟨.str (intT _), H, I.tok _, ⟨_, rfl⟩, q⟩
  | str h =>
    obtain ⟨t, rfl⟩ := (show ∃ t, u = Value.str y t from r)
    exact wpAny_formatField_str ⟨.str y, H, I, ⟨_, rfl⟩, q⟩ ⟨.str y, H, I.tok _, ⟨_, rfl⟩, q⟩ h
  | @tup a is hs hi hz =>
    cases (show u = Value.ref a from r)
    obtain ⟨its, vr, ⟨o, ho, hc, n, hd⟩, hl⟩ := I.tuple hs
    have rd : Reads s.heap (.ref a) (.tuple (is.map PyData.int)) [] := .tuple ho hc hd (readsAll_ints vr)
    have e : (PyData.tuple (is.map PyData.int)).shown = shI is := by simp only [PyData.shown, shownAll_ints]; rfl
    have hdp : (PyData.tuple (is.map PyData.int)).depth ≤ 3 := by
      have := depthAll_ints is
      simp only [PyData.depth]
      omega
    refine formatField_of_reads rd (by simp only [PyData.showable]; exact showableAll_ints is hi) (PyData.noDict_hsm (by simp only [PyData.hasDict]; exact hasDictAll_ints is)) hr.gd (by have := hr.un; omega) (fun _ _ z => z) (fun h' u tk hk => ?_) (by rw [e]; exact hz)
    rw [e]
    exact ⟨.str (shI is), H, I.kept hk, ⟨_, rfl⟩, q⟩
end
def tFmt (K : PySem.W.Frag) (tv : TE) : TE := fun σ H Q => tv σ H fun x H1 => ∃ y, FmtV K H1 x y ∧ Q (.str y) H1
abbrev TJ := Str → St → Hp → VK → Prop
def PJ (X : Cx) (es : List Expr) (t : TJ) : Prop := ∀ (pins : List (Addr × Obj)) (s : Shared) (σ : St) (H : Hp) (out : Str) (Q : VK), Inv X pins σ H s → t out σ H Q → wpAny (model X.prog X.w) X.A (joinParts out (evalEach es X.env)) (EP X pins σ Q) X.xe s
def jNil : TJ := fun out _ H Q => out.length ≤ sizeLine ∧ Q (.str out) H
def jCons (te : TE) (t : TJ) : TJ := fun out σ H Q => te σ H fun x H1 => ∃ y, x = .str y ∧ (out ++ y).length ≤ sizeLine ∧ t (out ++ y) σ H1 Q
def tJoin (t : TJ) : TE := fun σ H Q => t Str.empty σ H Q
section
variable {X : Cx} {k : Nat} {e e₂ : Expr} {es : List Expr} {te : TE} {t : TJ} {pos : Pos}
theorem pe_fmt (hr : RoomN k X.A) (h : PE X e te) : PE X (.FormattedValue e (-1) none pos) (tFmt X.K te) := by
  intro pins s σ H Q I hw
  refine FormattedValue_plain (thn (h pins s σ H _ I hw) fun u s1 ⟨x, H1, I1, r, y, f, q⟩ => ?_)
  exact fmt_ok hr I1 r f q
theorem pj_nil : PJ X [] jNil := fun pins s σ H out Q I h => joinParts_nil ⟨.str out, H, I.tok _, ⟨_, rfl⟩, h.2⟩ h.1
theorem pj_cons (h1 : PE X e te) (h2 : PJ X es t) : PJ X (e :: es) (jCons te t) := by
  intro pins s σ H out Q I h
  show wpAny _ _ (joinParts out (eval e X.env :: evalEach es X.env)) _ _ _
  refine joinParts_cons (thn (h1 pins s σ H _ I h) fun u s1 ⟨x, H1, I1, r, y, ex, hz, q⟩ => ?_)
  subst ex
  obtain ⟨tk, rfl⟩ := (show ∃ tk, u = Value.str y tk from r)
  exact ⟨hz, h2 pins s1 σ H1 (out ++ y) Q I1 q⟩
theorem pe_join (h : PJ X (e :: e₂ :: es) t) : PE X (.JoinedStr (e :: e₂ :: es) pos) (tJoin t) := fun pins s σ H Q I hw => JoinedStr_many (h pins s σ H Str.empty Q I hw)
end
def tXGet (K : PySem.W.Frag) (ta : TE) (f : Str) : TE := fun σ H Q => ta σ H fun x H1 => ∃ a C d fs v, x = .ref a ∧ H1 a = some (ExcO a (.ref C) (some d)) ∧ H1 d = some (.xd fs) ∧ XGet K C ∧ PySem.W.hasDictIn K C = true ∧ PySem.W.findIn K (.ref C) f = some none ∧ fs.lookup f = some v ∧ Q v H1
section
variable {X : Cx} {e : Expr} {f : Str} {pos : Pos} {ta : TE}
end
end L2

set_option Elab.async false
set_option linter.all false
set_option maxRecDepth 100000
set_option maxHeartbeats 4000000
namespace L2
open PySem PySem.Spec PyProof.Rows
/-- an error class with an own __init__, which keeps its promise -/
structure CalX (P : Program) (w : World) (K : PySem.W.Frag) (mg : Str → Option Value) (base : Heap) (k : Nat) (x : Str) (C CF : Addr) (ps : List Str) (sp : Sp) : Prop where
  ex : ∃ (f : Addr) (fd : FuncData), FnOk P w K mg base CX0 k f fd ps sp ∧ Binds K fd ps [] ∧ XMk K mg x C CF f
section
variable {X : Cx} {EE : Value → Option Addr → St → Hp → Prop}
theorem ps_raiseC {k : Nat} {x : Str} {C CF : Addr} {ps : List Str} {sp : Sp} {e : Expr} {es : List Expr} {t : TA} {np cpos pos : Pos} (T : Thr X EE) (hc : X.calm = true) (O : CalX X.prog X.w X.K X.mg X.base k x C CF ps sp) (hr : Room (k + 1) X.A)
    (hg : Gl X x) (ha : PA X (e :: es) t)
    (hdb : (x == ("__debug__" : Str)) = false := by decide) (he : starEach (e :: es) X.env = (false, eval e X.env) :: starEach es X.env := by rfl) (hpl : (backTo cpos (starEach es X.env)).any (·.1) = false := by rfl) :
    PS X (.Raise (some (.Call (.Name x np) (e :: es) [] cpos)) none pos) (tRaiseX C sp EE t) := by
  intro pins s σ H D I h
  obtain ⟨f, fd, F, hb, M⟩ := O.ex
  exact ps_raiseX T hc M F hr hb hg ha hdb he hpl pins s σ H D I h
structure CalM (P : Program) (w : World) (K : PySem.W.Frag) (mg : Str → Option Value) (base : Heap) (CX : CXT) (k : Nat) (C : Addr) (m : Str) (ps : List Str) (sp : Sp) : Prop where
  ex : ∃ (f : Addr) (fd : FuncData), FnOk P w K mg base CX k f fd ps sp ∧ Binds K fd ps [] ∧ Meth K C m f
structure CalI (P : Program) (w : World) (K : PySem.W.Frag) (mg : Str → Option Value) (base : Heap) (CX : CXT) (k : Nat) (x : Str) (C : Addr) (ps : List Str) (sp : Sp) : Prop where
  ex : ∃ (f : Addr) (fd : FuncData), FnOk P w K mg base CX k f fd ps sp ∧ Binds K fd ps [] ∧ Mk K C f ∧ mg x = some (.ref C)
variable {C : Addr} {m x : Str} {k : Nat} {ps : List Str} {sp : Sp} {o e : Expr} {es : List Expr} {ta : TE} {t : TA} {apos pos p : Pos}
theorem pe_mcal {pl : Sem Bool} (O : CalM X.prog X.w X.K X.mg X.base CX0 k C m ps sp) (c : Cls X.K C) (hr : Room k X.A) (he : PE X o ta) (ha : PA X (e :: es) t)
    (hst : starEach (e :: es) X.env = (false, eval e X.env) :: starEach es X.env := by rfl) (hpl : (backTo pos (starEach es X.env)).any (·.1) = false := by rfl)
    (ht : eval (.Call (.Attribute o m apos) (e :: es) [] pos) X.env = (do
      let ov ← eval o X.env
      standAt apos.atName
      let (f, first) ← holding [ov] (getMethod ov m pl)
      callWith pos f first (backTo pos (starEach (e :: es) X.env)) (backToKw pos (keywordEach [] X.env))) := by rfl) :
    PE X (.Call (.Attribute o m apos) (e :: es) [] pos) (tMeth C m sp [] E0 ta t) := by
  obtain ⟨f, fd, F, hb, M⟩ := O.ex
  exact pe_meth (pl := pl) he c M F hr hb .nil pass0 ha hst hpl ht
theorem pe_mk (O : CalI X.prog X.w X.K X.mg X.base CX0 k x C ps sp) (hr : Room (k + 1) X.A) (hg : Gl X x) (ha : PA X (e :: es) t)
    (hdb : (x == ("__debug__" : Str)) = false := by decide) (he : starEach (e :: es) X.env = (false, eval e X.env) :: starEach es X.env := by rfl) (hpl : (backTo pos (starEach es X.env)).any (·.1) = false := by rfl) :
    PE X (.Call (.Name x p) (e :: es) [] pos) (tMake C sp [] E0 t) := by
  obtain ⟨f, fd, F, hb, M, hm⟩ := O.ex
  exact pe_make M F hr hg hm hb .nil pass0 ha hdb he hpl
/-- o.m(..) that may raise -/
def tMethE (C : Addr) (m : Str) (sp : Sp) (EE : Value → Option Addr → St → Hp → Prop) (ta : TE) (t : TA) : TE := fun σ H Q => ta σ H fun x H1 => ∃ a dx fs, x = .ref a ∧ H1 a = some (.ins C dx fs) ∧ fs.lookup m = none ∧
  t σ H1 fun vs H2 => sp (x :: (vs ++ [])) H2 Q (fun c d H' => EE c d σ H')
def tMakeE (C : Addr) (sp : Sp) (EE : Value → Option Addr → St → Hp → Prop) (t : TA) : TE := fun σ H Q => t σ H fun vs H1 => ∀ x dx, H1 x = none → H1 dx = none → dx ≠ x →
  sp (.ref x :: (vs ++ [])) (upd (upd H1 dx (.own x)) x (.ins C dx [])) (fun v H2 => v = .non ∧ Q (.ref x) H2) (fun c d H' => EE c d σ H')
theorem run_fnE {pins : List (Addr × Obj)} {σ : St} {H : Hp} {s : Shared} {Q : VK} {f : Addr} {fd : FuncData} {us : List Value} {vs : List V} (T : Thr X EE) (F : FnOk X.prog X.w X.K X.mg X.base (CX1 X.prog X.w) k f fd ps sp) (hr : Room k X.A) (hb : Binds X.K fd ps [])
    (I : Inv X pins σ H s) (r : Vals vs us) (h : sp (vs ++ []) H Q (fun c d H' => EE c d σ H')) : wpAny (model X.prog X.w) X.A (call (.ref f) us) (EP X pins σ Q) X.xe s := by
  have r2 : Vals (vs ++ []) (us ++ []) := r.append .nil
  have hl : (us ++ []).length = ps.length := by rw [← r2.length]; exact F.len _ _ _ _ h
  refine wpAny_call (codeAny_mono (F.run X.A X.stack s H ⟨us, []⟩ (us ++ []) (vs ++ []) Q _ hr I.env0 (hb s us I.kIn hl) r2 h) fun r s' hq => ?_)
  cases r with
  | error e => exact T.call pins σ H s e s' I hq
  | ok fl =>
    cases fl with
    | ret u => exact I.after hq
    | next => exact False.elim hq
    | brk => exact False.elim hq
    | cont => exact False.elim hq
theorem pe_mkE (T : Thr X EE) (O : CalI X.prog X.w X.K X.mg X.base (CX1 X.prog X.w) k x C ps sp) (hr : Room (k + 1) X.A) (hg : Gl X x) (ha : PA X (e :: es) t)
    (hdb : (x == ("__debug__" : Str)) = false := by decide) (he : starEach (e :: es) X.env = (false, eval e X.env) :: starEach es X.env := by rfl) (hpl : (backTo pos (starEach es X.env)).any (·.1) = false := by rfl) :
    PE X (.Call (.Name x p) (e :: es) [] pos) (tMakeE C sp EE t) := by
  intro pins s0 σ H0 Q I0 h0
  obtain ⟨f, fd, F, hb, M, hm⟩ := O.ex
  refine wpAny_Call_Name_kw (ld_glob I0 hg hm ?_ hdb)
  refine PySem.W.callWith_K (h₀ := X.base) I0.ok.mod.kin M.kp (thn (ha pos pins s0 σ H0 _ I0 h0) fun us s ⟨vs, H, I, r, h⟩ => ⟨I.kIn, ?_⟩) he hpl
  have hq := h (s.heap.objs.size + 1) s.heap.objs.size (I.hok.fresh (Nat.le_succ _)) (I.hok.fresh (Nat.le_refl _)) (Nat.ne_of_lt (Nat.lt_succ_self _))
  have I2 := Inv.made (C := C) I
  have r2 : Vals (V.ref (s.heap.objs.size + 1) :: (vs ++ [])) (Value.ref (s.heap.objs.size + 1) :: (us ++ [])) := .cons rfl (r.append .nil)
  have hl : (Value.ref (s.heap.objs.size + 1) :: us ++ []).length = ps.length := by
    have e := r2.length
    rw [F.len _ _ _ _ hq] at e
    exact e.symm
  have hb2 : BindsTo _ fd ⟨Value.ref (s.heap.objs.size + 1) :: us, []⟩ (ps.zip (Value.ref (s.heap.objs.size + 1) :: (us ++ []))) := hb _ (Value.ref (s.heap.objs.size + 1) :: us) I2.kIn hl
  show wpAny _ _ (call (.ref C) us) _ _ _
  refine wpAny_call (make_map (f := f) I.kIn M.makes M.init (beq_iff_eq.mp M.fn) (codeAny_mono (F.run _ X.stack _ _ ⟨Value.ref (s.heap.objs.size + 1) :: us, []⟩ (Value.ref (s.heap.objs.size + 1) :: (us ++ [])) _ _ _ (hr.make C us [])
    (I2.env0.make C us []) hb2 r2 hq) fun r s' hq' => ?_))
  cases r with
  | error e => exact T.call pins σ _ _ e s' I2 hq'
  | ok fl =>
    cases fl with
    | ret u =>
      obtain ⟨v, H', I3, rv, ev, q3⟩ := I2.after hq'
      subst ev
      exact ⟨rv, ⟨V.ref (s.heap.objs.size + 1), H', I3, rfl, q3⟩⟩
    | next => exact False.elim hq'
    | brk => exact False.elim hq'
    | cont => exact False.elim hq'
end
end L2

set_option Elab.async false
set_option linter.all false
set_option maxRecDepth 100000
set_option maxHeartbeats 4000000
namespace L2
open PySem PySem.Spec PyProof.Rows
theorem intT_len {i : Int} (h : i.natAbs.log2 < 1920) : (intT i).length ≤ 1921 := by
  have e := int_text_length_le (k := 1920) (by decide) h
  unfold intT
  rw [PySem.ofString_length]; omega
theorem fits {s : Str} {n : Nat} (h : s.length ≤ n) (hn : n ≤ 100000) : s.length ≤ sizeLine := Nat.le_trans h (Nat.le_trans hn (by decide))
theorem rd_join {t : TJ} {σ : St} {H : Hp} {Q : VK} (h : t Str.empty σ H Q) : tJoin t σ H Q := h
theorem rd_jnil {out : Str} {σ : St} {H : Hp} {Q : VK} (h : out.length ≤ sizeLine) (q : Q (.str out) H) : jNil out σ H Q := ⟨h, q⟩
/-- a written text: out is of at most n signs, the text of m -/
theorem rd_jc {x : Str} {t : TJ} {out : Str} {σ : St} {H : Hp} {Q : VK} (n : Nat) (hn : out.length ≤ n) (hz : n + x.length ≤ 100000) (h : (out ++ x).length ≤ n + x.length → t (out ++ x) σ H Q) : jCons (tC (.str x)) t out σ H Q := by
  have e : (out ++ x).length ≤ n + x.length := by rw [strLen_append]; omega
  exact ⟨x, rfl, fits e hz, h e⟩
/-- a whole number in the braces -/
theorem rd_ji {K : PySem.W.Frag} {j : Nat} {i : Int} {t : TJ} {out : Str} {σ : St} {H : Hp} {Q : VK} (n : Nat) (hn : out.length ≤ n) (hz : n + 1921 ≤ 100000) (hv : σ[j]? = some (some (.int i))) (hi : i.natAbs.log2 < 1920) (h : (out ++ intT i).length ≤ n + 1921 → t (out ++ intT i) σ H Q) :
    jCons (tFmt K (tVar j)) t out σ H Q := by
  have e : (out ++ intT i).length ≤ n + 1921 := by have := intT_len hi; rw [strLen_append]; omega
  exact ⟨.int i, hv, intT i, .int hi, intT i, rfl, fits e hz, h e⟩
theorem rd_xinit {K : PySem.W.Frag} {t : TA} {σ : St} {H : Hp} {Q : VK} (h : t σ H fun vs H1 => ∃ a C CF dx rest, vs = .ref a :: rest ∧ H1 a = some (ExcN a (.ref C) dx) ∧ XOwn K C CF ∧ rest.length ≤ sizeLine ∧ Q .non H1) : tXI K t σ H Q := h
theorem rd_xf1 {K : PySem.W.Frag} {ta tv : TE} {f : Str} {D : Ends} {σ : St} {H : Hp} (h : tv σ H fun y H1 => ta σ H1 fun x H2 => ∃ a C CF, x = .ref a ∧ H2 a = some (ExcN a (.ref C) none) ∧ XOwn K C CF ∧ PySem.W.findIn K (.ref C) f = some none ∧
  ∀ d, H2 d = none → D.nx σ (upd (upd H2 d (.xd [(f, y)])) a (ExcN a (.ref C) (some d)))) : sXF1 K ta tv f D σ H := h
theorem rd_xf2 {K : PySem.W.Frag} {ta tv : TE} {f : Str} {D : Ends} {σ : St} {H : Hp} (h : tv σ H fun y H1 => ta σ H1 fun x H2 => ∃ a C CF d fs, x = .ref a ∧ H2 a = some (ExcN a (.ref C) (some d)) ∧ H2 d = some (.xd fs) ∧ fs.length ≤ 900 ∧ XOwn K C CF ∧ PySem.W.findIn K (.ref C) f = some none ∧
  D.nx σ (upd H2 d (.xd (putF f y fs)))) : sXF2 K ta tv f D σ H := h
theorem rd_xget {K : PySem.W.Frag} {ta : TE} {f : Str} {σ : St} {H : Hp} {Q : VK} (h : ta σ H fun x H1 => ∃ a C d fs v, x = .ref a ∧ H1 a = some (ExcO a (.ref C) (some d)) ∧ H1 d = some (.xd fs) ∧ XGet K C ∧ PySem.W.hasDictIn K C = true ∧ PySem.W.findIn K (.ref C) f = some none ∧ fs.lookup f = some v ∧ Q v H1) : tXGet K ta f σ H Q := h
end L2

set_option Elab.async false
set_option linter.all false
set_option maxRecDepth 100000
set_option maxHeartbeats 4000000
namespace L2
open PySem PySem.Spec PyProof.Rows
section
variable {X : Cx}
/-- where nothing is raised, what may raise may be called too -/
theorem thr_never : Thr X (fun _ _ _ _ => False) where
  call := fun _ _ _ _ _ _ _ h => by
    obtain ⟨_, _, _, _, _, _, _, _, _, _, _, _, _, _, q⟩ := h
    exact q.elim
  made := fun _ _ _ _ _ _ _ h => by
    obtain ⟨_, _, _, _, _, _, _, _, _, _, _, _, _, _, q⟩ := h
    exact q.elim
def rNeT (K : PySem.W.Frag) : R2 := fun x y H Q => ∃ a b xs ys, x = .ref a ∧ y = .ref b ∧ SqT K H a xs ∧ SqT K H b ys ∧ xs.all flatV = true ∧ ys.all flatV = true ∧ Q (.bl (!eqVs xs ys)) H
theorem op_neT (hu : X.A.units < cLine) : OpR X (compareOp .NotEq) (rNeT X.K) := by
  intro pins s σ H x y v u Q I rx ry h
  obtain ⟨a, b, xs, ys, rfl, rfl, ha, hb, fx, fy, q⟩ := h
  cases rx
  cases ry
  obtain ⟨its, r, pl, _⟩ := I.tuple ha
  obtain ⟨its', r', pl', _⟩ := I.tuple hb
  obtain ⟨e, h1, h2⟩ := eqVs_range r r' fx fy
  exact SeqAt.RcNeAt.tuples (e := e) pl pl' hu (fun j k1 k2 => h1 _ _ j k1 k2) _ _ _ _ (by rw [h2]; exact ⟨.bl _, H, I, rfl, q⟩)
theorem rd_neT {K : PySem.W.Frag} {a b : Addr} {xs ys : List V} {H : Hp} {Q : VK} (ha : SqT K H a xs) (hb : SqT K H b ys) (fx : xs.all flatV = true) (fy : ys.all flatV = true) (q : Q (.bl (!eqVs xs ys)) H) : rNeT K (.ref a) (.ref b) H Q := ⟨a, b, xs, ys, rfl, rfl, ha, hb, fx, fy, q⟩
theorem rd_par {i j : Nat} {ta : TA} {D : Ends} {σ : St} {H : Hp} (h : ta σ H fun vs H1 => ∃ v w, vs = [v, w] ∧ D.nx ((σ.set i (some v)).set j (some w)) H1) : tPar i j ta D σ H := h
theorem rd_ifE {t : TT} {ta tb : TE} {σ : St} {H : Hp} {Q : VK} (h : t σ H fun c H1 => if c = true then ta σ H1 Q else tb σ H1 Q) : tIf t ta tb σ H Q := h
def rSum (K : PySem.W.Frag) : List V → Hp → VK → Prop := fun xs H Q => ∃ (p : Addr) (ns : List Int), xs = [.ref p] ∧ SqL K H p (ns.map V.int) ∧ Q (.int ns.sum) H
theorem call_sum (hc : X.calm = true) : CallR X (.builtin "sum") (rSum X.K) := by
  intro pins s σ H xs us Q I r h
  obtain ⟨p, ns, rfl, hq, q⟩ := h
  obtain ⟨u, rfl, ru⟩ := vals1 r
  cases (show u = Value.ref p from ru)
  obtain ⟨its, rv, pl, _⟩ := I.list hq
  have hi := intsAre_of rv
  obtain ⟨xs, hx⟩ := hi.allInts.items
  have hl' : s.heap.IsList p (intItems xs) := hx ▸ pl.isList
  refine sum_intListG (I.ok.hd hc) hl' fun h' tk t' hk => ?_
  have e1 : ns = xs.toList.map (·.1) := by
    rw [← nums_intItems, ← hx]
    exact (show numsOf its.toArray.toList = ns from hi.numsOf).symm
  have e2 : preSum (numAt xs) xs.size = ns.sum := by
    rw [preSum_eq, List.take_of_length_le (by simp), e1]
  rw [e2]
  exact ⟨.int ns.sum, H, I.kept hk, ⟨_, rfl⟩, q⟩
def rMinL (K : PySem.W.Frag) : List V → Hp → VK → Prop := fun xs H Q => ∃ (p : Addr) (ns : List Int), xs = [.ref p] ∧ SqL K H p (ns.map V.int) ∧ ns ≠ [] ∧ ∀ m, m ∈ ns → (∀ a ∈ ns, m ≤ a) → Q (.int m) H
def rMaxL (K : PySem.W.Frag) : List V → Hp → VK → Prop := fun xs H Q => ∃ (p : Addr) (ns : List Int), xs = [.ref p] ∧ SqL K H p (ns.map V.int) ∧ ns ≠ [] ∧ ∀ m, m ∈ ns → (∀ a ∈ ns, a ≤ m) → Q (.int m) H
theorem call_minL (hc : X.calm = true) : CallR X (.builtin "min") (rMinL X.K) := by
  intro pins s σ H xs us Q I r h
  obtain ⟨p, ns, rfl, hq, hne, q⟩ := h
  obtain ⟨u, rfl, ru⟩ := vals1 r
  cases (show u = Value.ref p from ru)
  obtain ⟨its, rv, pl, _⟩ := I.list hq
  have hi := intsAre_of rv
  obtain ⟨xs, e⟩ := hi.allInts.items
  have hns : ns = xs.toList.map (·.1) := by
    rw [← nums_intItems, ← e]
    exact (show numsOf its.toArray.toList = ns from hi.numsOf).symm
  have hsz : 0 < xs.size := by
    have h3 := List.length_pos_iff.mpr hne; rw [hns, List.length_map, Array.length_toList] at h3; exact h3
  have hl' : s.heap.IsList p (intItems xs) := e ▸ pl.isList
  refine min_intList (I.ok.hd hc) hl' hsz fun v h' tk hv hk => ?_
  obtain ⟨t, rfl⟩ := intItems_at hv
  obtain ⟨h1, h2⟩ := argBest_lt (numAt xs) (xs.size - 1)
  refine ⟨.int _, H, I.kept hk, ⟨_, rfl⟩, q _ ?_ fun a ha => ?_⟩
  · rw [hns, numAt_eq]; exact getD_mem (by rw [List.length_map, Array.length_toList]; omega)
  · rw [hns] at ha
    obtain ⟨j, hj, rfl⟩ := mem_getD ha
    rw [List.length_map, Array.length_toList] at hj
    rw [← numAt_eq]; exact h2 j (by omega)
theorem call_maxL (hc : X.calm = true) : CallR X (.builtin "max") (rMaxL X.K) := by
  intro pins s σ H xs us Q I r h
  obtain ⟨p, ns, rfl, hq, hne, q⟩ := h
  obtain ⟨u, rfl, ru⟩ := vals1 r
  cases (show u = Value.ref p from ru)
  obtain ⟨its, rv, pl, _⟩ := I.list hq
  have hi := intsAre_of rv
  obtain ⟨xs, e⟩ := hi.allInts.items
  have hns : ns = xs.toList.map (·.1) := by
    rw [← nums_intItems, ← e]
    exact (show numsOf its.toArray.toList = ns from hi.numsOf).symm
  have hsz : 0 < xs.size := by
    have h3 := List.length_pos_iff.mpr hne; rw [hns, List.length_map, Array.length_toList] at h3; exact h3
  have hl' : s.heap.IsList p (intItems xs) := e ▸ pl.isList
  refine max_intList (I.ok.hd hc) hl' hsz fun v h' tk hv hk => ?_
  obtain ⟨t, rfl⟩ := intItems_at hv
  obtain ⟨h1, h2⟩ := argBest_gt (numAt xs) (xs.size - 1)
  refine ⟨.int _, H, I.kept hk, ⟨_, rfl⟩, q _ ?_ fun a ha => ?_⟩
  · rw [hns, numAt_eq]; exact getD_mem (by rw [List.length_map, Array.length_toList]; omega)
  · rw [hns] at ha
    obtain ⟨j, hj, rfl⟩ := mem_getD ha
    rw [List.length_map, Array.length_toList] at hj
    rw [← numAt_eq]; exact h2 j (by omega)
end
section
variable {X : Cx} {M : List Str} {x : Str} {scope : Scope} {cl : List (Str × Addr)} {C : Addr} {s₀ : Shared} {H₀ : Hp} {fp : List Addr}
theorem ix_tup_c : IxR (compCx X M x scope cl C s₀ H₀ fp) (rIxT X.K) := ix_tup
end
section
variable {X : Cx} {tg : Expr}
def iRng2A (ta : TA) : TI := fun σ H R => ta σ H fun vs H1 => ∃ i j : Int, vs = [.int i, .int j] ∧ R (Itr i (j - i).toNat) H1
theorem rd_rng2A {ta : TA} {σ : St} {H : Hp} {R : It → Hp → Prop} (h : ta σ H fun vs H1 => ∃ i j : Int, vs = [.int i, .int j] ∧ R (Itr i (j - i).toNat) H1) : iRng2A ta σ H R := h
end
end L2

set_option Elab.async false
set_option linter.all false
set_option maxRecDepth 100000
set_option maxHeartbeats 4000000
namespace L2
open PySem PySem.Spec PyProof.Rows
section
variable {X : Cx}
def rBits : V → List V → Hp → VK → Prop := fun x vs H Q => ∃ n : Int, x = .int n ∧ vs = [] ∧ Q (.int ((Builtin.Int.intBits n : Nat) : Int)) H
end
theorem rd_bitsV {K : PySem.W.Frag} {n : Int} {H : Hp} {Q : VK} (h : Q (.int ((Builtin.Int.intBits n : Nat) : Int)) H) : tyV K "int" (.int n) H ∧ rBits (.int n) [] H Q := ⟨rfl, n, rfl, rfl, h⟩
theorem rd_bm0 {K : PySem.W.Frag} {T : String} {r : V → List V → Hp → VK → Prop} {to : TE} {σ : St} {H : Hp} {Q : VK} (h : to σ H fun x H1 => tyV K T x H1 ∧ r x [] H1 Q) : tBM0 K T r to σ H Q := h
theorem rd_gsub {to ti : TE} {t : TSet} {v : V} {σ : St} {H : Hp} {Q : St → Hp → Prop} (h : to σ H fun o H1 => ti σ H1 fun i H2 => t o i v H2 fun H3 => Q σ H3) : gSub to ti t v σ H Q := h
theorem ixN_nat {m k : Nat} (h : k < m) : ixN m (k : Int) = some k := by
  unfold ixN
  rw [if_pos (by omega), if_pos (by omega), Int.toNat_natCast]
theorem rd_setL {p : Addr} {xs : List V} {k : Nat} {v : V} {H : Hp} {Q : Hp → Prop} (h : H p = some (.lst xs)) (hk : k < xs.length) (q : Q (upd H p (.lst (xs.set k v)))) : rSetL (.ref p) (.int (k : Int)) v H Q :=
  ⟨p, xs, k, k, rfl, rfl, h, ixN_nat hk, q⟩
theorem rd_cat {l b : Addr} {xs zs : List V} {H : Hp} {Q : VK} (h : H l = some (.lst xs)) (g : H b = some (.lst zs)) (hz : xs.length + zs.length ≤ sizeLine) (q : ∀ p, H p = none → Q (.ref p) (upd H p (.lst (xs ++ zs)))) : rCat (.ref l) (.ref b) H Q :=
  ⟨l, b, xs, zs, rfl, rfl, h, g, hz, q⟩
def tTruI (ta : TE) : TT := fun σ H Q => ta σ H fun x H' => ∃ i : Int, x = .int i ∧ Q (i != 0) H'
theorem rd_truI {i : Int} {H : Hp} {Q : Bool → Hp → Prop} (h : Q (i != 0) H) : ∃ j : Int, V.int i = .int j ∧ Q (j != 0) H := ⟨i, rfl, h⟩
theorem rd_tru {ta : TE} {σ : St} {H : Hp} {Q : Bool → Hp → Prop} (h : ta σ H fun x H' => ∃ i : Int, x = .int i ∧ Q (i != 0) H') : tTruI ta σ H Q := h
section
variable {X : Cx} {M : List Str} {x : Str} {scope : Scope} {cl : List (Str × Addr)} {C : Addr} {s₀ : Shared} {H₀ : Hp} {fp : List Addr}
end
end L2

set_option Elab.async false
set_option linter.all false
set_option maxRecDepth 100000
set_option maxHeartbeats 4000000
namespace L2
open PySem PySem.Spec PyProof.Rows
theorem rd_slice {r : V → Option Int → Option Int → Hp → VK → Prop} {te : TE} {tl th : TO} {σ : St} {H : Hp} {Q : VK} (h : te σ H fun x H1 => tl σ H1 fun l H2 => th σ H2 fun u H3 => r x l u H3 Q) : tSl r te tl th σ H Q := h
theorem rd_slL {K : PySem.W.Frag} {a : Addr} {xs : List V} {lo hi : Option Int} {H : Hp} {Q : VK} (h : SqL K H a xs) (q : ∀ p, H p = none → Q (.ref p) (upd H p (.lst (cutV xs lo hi)))) : rSlL K (.ref a) lo hi H Q := ⟨a, xs, rfl, h, q⟩
theorem rd_part {t : TE} {σ : St} {H : Hp} {Q : Option Int → Hp → Prop} (h : t σ H fun x H1 => ∃ i, x = .int i ∧ Q (some i) H1) : tPart t σ H Q := h
theorem rd_exI {i : Int} {P : Int → Prop} (h : P i) : ∃ j, V.int i = .int j ∧ P j := ⟨i, rfl, h⟩
theorem rd_noPart {σ : St} {H : Hp} {Q : Option Int → Hp → Prop} (h : Q none H) : tNoPart σ H Q := h
end L2

set_option Elab.async false
set_option linter.all false
set_option maxRecDepth 100000
set_option maxHeartbeats 4000000
namespace L2
open PySem PySem.Spec PyProof.Rows
section
variable {X : Cx}
def tLR (ta : TA) : TE := fun σ H Q => ta σ H fun vs H1 => ∃ (i j c : Int) (n : Nat), (vs = [.int i, .int j, .int c] ∨ (vs = [.int i, .int j] ∧ c = 1)) ∧ 0 < c ∧ c < 1073741824 ∧ Builtin.Range.small i j c = true ∧ Builtin.Range.rangeSize i j c = (n : Int) ∧ n ≤ 1000000 ∧
  ∀ l, H1 l = none → Q (.ref l) (upd H1 l (.lst ((List.range n).map fun (k : Nat) => V.int (i + (k : Int) * c))))
end
theorem rd_lr {ta : TA} {σ : St} {H : Hp} {Q : VK} (h : ta σ H fun vs H1 => ∃ (i j c : Int) (n : Nat), (vs = [.int i, .int j, .int c] ∨ (vs = [.int i, .int j] ∧ c = 1)) ∧ 0 < c ∧ c < 1073741824 ∧ Builtin.Range.small i j c = true ∧ Builtin.Range.rangeSize i j c = (n : Int) ∧ n ≤ 1000000 ∧
  ∀ l, H1 l = none → Q (.ref l) (upd H1 l (.lst ((List.range n).map fun (k : Nat) => V.int (i + (k : Int) * c))))) : tLR ta σ H Q := h
end L2

set_option Elab.async false
set_option linter.all false
set_option maxRecDepth 100000
set_option maxHeartbeats 4000000
namespace L2
open PySem PySem.Spec PyProof.Rows
theorem comp_inv {J : It} {ok : Hp → Prop} {xs : List V} {σ : St} {H : Hp} {Q : VK} {tt : TT} {te : TE} (Wk : Walk J ok xs) (hz : xs.length < sizeLine) (Pv : Addr → Nat → List V → Hp → Prop)
    (h0 : ∀ D, H D = none → Pv D 0 [] (upd H D (.lst [])))
    (hD : ∀ D i ys H2, H D = none → Pv D i ys H2 → H2 D = some (.lst ys) ∧ ys.length ≤ i ∧ ok H2)
    (hs : ∀ D i x ys H2, H D = none → xs[i]? = some x → Pv D i ys H2 → tt (some x :: σ) H2 fun b H4 => if b = true then te (some x :: σ) H4 fun y H5 => H5 D = some (.lst ys) ∧ Pv D (i + 1) (ys ++ [y]) (upd H5 D (.lst (ys ++ [y]))) else Pv D (i + 1) ys H4)
    (h : ∀ D ys H2, H D = none → Pv D xs.length ys H2 → Q (.ref D) H2) : CompR tt te σ Q J H := by
  intro D hD0
  refine ⟨fun i m ys H2 => i ≤ xs.length ∧ m = xs.length - i ∧ Pv D i ys H2, ⟨_, Nat.zero_le _, rfl, h0 D hD0⟩, ?_⟩
  rintro i m ys H2 ⟨hi, rfl, p⟩
  obtain ⟨d1, d2, d3⟩ := hD D i ys H2 hD0 p
  refine ⟨d1, ?_⟩
  by_cases hlt : i < xs.length
  · refine .inr ⟨Wk.go i _ d3 hlt, by omega, xs.length - (i + 1), by omega, fun x H3 hy => ?_⟩
    obtain ⟨e3, ex⟩ := Wk.yld i _ x H3 d3 hy hlt
    subst e3
    have := hs D i x ys H3 hD0 ex p
    refine cast ?_ this
    congr 1
    funext b H4
    cases b with
    | false => simp only [Bool.false_eq_true, if_false]; exact propext ⟨fun z => ⟨hlt, trivial, z⟩, fun z => z.2.2⟩
    | true =>
      simp only [if_true]
      congr 1
      funext y H5
      exact propext ⟨fun z => ⟨z.1, hlt, trivial, z.2⟩, fun z => ⟨z.1, z.2.2.2⟩⟩
  · have e : i = xs.length := by omega
    subst e
    exact .inl ⟨Wk.stop _ _ d3 (Nat.le_refl _), h D ys H2 hD0 p⟩
end L2

set_option Elab.async false
set_option linter.all false
set_option maxRecDepth 100000
set_option maxHeartbeats 4000000
namespace L2
open PySem PySem.Spec PyProof.Rows
def compCxT (X : Cx) (M : List Str) (xs : List Str) (scope : Scope) (cl : List (Str × Addr)) (C : Addr) (s₀ : Shared) (H₀ : Hp) (fp : List Addr) : Cx :=
  { X with N := xs ++ M, s₀ := s₀, H₀ := H₀, env := compEnvC scope cl C X.env, outer := X.stack, ex := fp, fn := fun _ => false, pn := [], xe := fun _ _ => False }
structure CompOkT (X : Cx) (M : List Str) (xs : List Str) (scope : Scope) (cl : List (Str × Addr)) : Prop where
  clos : closureFor scope X.env = pure cl
  cell : ∀ y ∈ scope.names, y.2 ≠ .cell
  kind : scope.kind = .function
  names : ∀ y ∈ scope.names, y.2 = .local → scope.names.lookup y.1 = some .local
  xl : ∀ x ∈ xs, scope.names.lookup x = some .local
  nd : (xs ++ M).Nodup
  len : M.length = X.N.length
  sub : ∀ y c, cl.lookup y = some c → X.env.cells.lookup y = some c
  has : ∀ y, ((relabel scope X.env).names.lookup y = some .cell ∨ (relabel scope X.env).names.lookup y = some .free) → ∃ c, cl.lookup y = some c
  vis : ∀ (i : Nat) (y : Str), M[i]? = some y → Vis (relabel scope X.env) y → X.N[i]? = some y ∧ ((relabel scope X.env).names.lookup y = some .cell ∨ (relabel scope X.env).names.lookup y = some .free) ∧ (X.env.scope.names.lookup y = some .cell ∨ X.env.scope.names.lookup y = some .free)
section
variable {X : Cx}
theorem comp_okT {M : List Str} {pins : List (Addr × Obj)} {σ : St} {H : Hp} {s : Shared} {xs : List Str} {scope : Scope} {cl : List (Str × Addr)} {C : Addr} {fp : List Addr} (I : Inv X pins σ H s) (ok : CompOkT X M xs scope cl) (hC : s.heap.objs.size ≤ C)
    (hf : ∀ b ∈ fp, FpOk X pins H b) (hb : ∀ b ∈ fp, b < s.heap.objs.size) : (compCxT X M xs scope cl C s H fp).Ok where
  mod := I.ok.mod
  kind := ok.kind
  glob := I.ok.glob
  blt := I.ok.blt
  above := hC
  inj := fun y z c h1 h2 => I.ok.inj y z c (ok.sub y c h1) (ok.sub z c h2)
  has := ok.has
  cab := fun y c h => by cases h
  hd := I.ok.hd
  frames := I.ok.frames
  stk := .inl rfl
  exf := fun b h => ⟨Nat.ne_of_lt (Nat.lt_of_lt_of_le (hb b h) hC), fun y c e => (hf b h).2.2.2.2.1 y c (ok.sub y c e)⟩
  bs := I.bs
  bsz := Nat.le_trans I.ok.bsz I.sz
  noex := fun b o e h => by
    rcases (hf b h).2.2.2.1 with z | z
    · exact I.ok.noex b o e z
    · exact absurd (Nat.lt_of_lt_of_le (Heap.lt_size (I.ok.bs b o e).1) z) (Nat.lt_irrefl _)
  exfs := fun b h z => by
    rcases List.mem_cons.mp (I.stkSub b z) with e | e
    · exact (hf b h).2.1 e
    · exact (hf b h).2.2.1 e
  funs := I.stack
  frf := I.stkFree

def CompRT (k : Nat) (g : TG) (tt : TT) (te : TE) (σ : St) (Q : VK) : It → Hp → Prop := fun J H1 => ∀ D, H1 D = none → ∃ W : Nat → Nat → List V → Hp → Prop, (∃ m, W 0 m [] (upd H1 D (.lst []))) ∧
  ∀ i m ys H2, W i m ys H2 → H2 D = some (.lst ys) ∧ ((J.stop i H2 ∧ Q (.ref D) H2) ∨ (J.go i H2 ∧ ys.length < sizeLine ∧ ∃ m', m' < m ∧ ∀ x H3, J.yld i H2 x H3 → ∀ ρ : St, ρ.length = k →
    g x (ρ ++ σ) H3 fun σ2 H4 => ∃ ρ2 : St, ρ2.length = k ∧ σ2 = ρ2 ++ σ ∧ tt σ2 H4 fun b H5 => if b = true then te σ2 H5 fun y H6 => H6 D = some (.lst ys) ∧ W (i + 1) m' (ys ++ [y]) (upd H6 D (.lst (ys ++ [y]))) else W (i + 1) m' ys H5))
def tCompT (k : Nat) (wi : TI) (g : TG) (tt : TT) (te : TE) : TE := fun σ H Q => wi σ H (CompRT k g tt te σ Q)
section
variable {prog : Program} {w : World} {A : Around} {R : Result → Shared → Prop}
abbrev NB (prog : Program) (w : World) (A : Around) (env : Env) (R : Result → Shared → Prop) : Value → Shared → Prop := notedBy (model prog w) A env fun e s' => R (.error e) s'
/-- the loop of a comprehension, the target's unpacking within the turn -/
theorem comp_turns {s : Shared} {elt tg iter : Expr} {ifs : List Expr} {scope : Scope} {pos : Pos} {it acc : Value} {env : Env} (I : Nat → Shared → Prop)
    (turn : ∀ n s, I n s → wpAny (model prog w) A (pyNext it)
      (fun r s1 => match r with
        | none => R (.ok .next) s1
        | some v => wpAny (model prog w) A (letOwnedTupleGo tg it v)
          (fun _ s2 => wpAny (model prog w) A (assign tg env v)
            (fun _ s3 => wpAny (model prog w) A (forIn ifs true fun c r => if r = true then (isTrue c env (eval c env) >>= fun ok => pure (ForInStep.yield ok)) else pure (ForInStep.yield r))
              (fun b s4 => if b = true then wpAny (model prog w) A (eval elt env)
                (fun x s5 => wpAny (model prog w) A (call (.builtin "list.append") [acc, x]) (fun _ s6 => ∃ m, m < n ∧ I m s6) (NB prog w A env R) s5) (NB prog w A env R) s4
                else ∃ m, m < n ∧ I m s4) (NB prog w A env R) s3) (NB prog w A env R) s2) (NB prog w A env R) s1) (NB prog w A env R) s)
    (n : Nat) (h : I n s) : codeAny (model prog w) A (.compLoop (.ListComp elt [⟨tg, iter, ifs, 0⟩] scope pos) 0 it acc env) R s := by
  refine codeAny_loop rfl I (fun n s hI => ?_) n h
  refine (show wpAny _ A ((compTurn (.ListComp elt [⟨tg, iter, ifs, 0⟩] scope pos) 0 it acc env).onRaise _) _ _ s from wpAny_noted ?_)
  rw [compTurn_list]
  refine wpAny_bind (wpAny_standAt (wpAny_bind (wpAny_mono (turn n s hI) (fun r s1 h1 => ?_) fun _ _ z => z)))
  cases r with
  | none => exact wpAny_pure h1
  | some v =>
    refine wpAny_bind (wpAny_mono h1 (fun _ s2 h2 => ?_) fun _ _ z => z)
    refine wpAny_bind (wpAny_mono h2 (fun _ s3 h3 => wpAny_bind (wpAny_mono h3 (fun b s4 h4 => ?_) fun _ _ z => z)) fun _ _ z => z)
    cases b with
    | false => exact wpAny_pure ⟨rfl, h4⟩
    | true =>
      refine wpAny_bind (wpAny_bind (wpAny_mono h4 (fun x s5 h5 => ?_) fun _ _ z => z))
      exact wpAny_bind (wpAny_mono h5 (fun _ s6 h6 => wpAny_pure (wpAny_pure ⟨rfl, h6⟩)) fun _ _ z => z)
end
theorem comp_coreT {M : List Str} {elt iter tg : Expr} {xs : List Str} {pos : Pos} {ifs : List Expr} {scope : Scope} {cl : List (Str × Addr)} {g : TG} {tt : TT} {te : TE} (hc : X.calm = true) (ok : CompOkT X M xs scope cl)
    (ht : ∀ C s₀ H₀ fp, PIfs (compCxT X M xs scope cl C s₀ H₀ fp) ifs tt) (hg : ∀ C s₀ H₀ fp, PG (compCxT X M xs scope cl C s₀ H₀ fp) tg g) (he : ∀ C s₀ H₀ fp, PE (compCxT X M xs scope cl C s₀ H₀ fp) elt te)
    {pins : List (Addr × Obj)} {σ : St} {H2 : Hp} {s2 : Shared} {it : Addr} {fp : List Addr} {tn : Nat → Heap → Prop} {J : It} {Q : VK} (I2 : Inv X pins σ H2 s2) (T : Turn X.prog X.w X.K tg J fp it tn) (st2 : tn 0 s2.heap) (f2 : ∀ b ∈ fp, FpOk X pins H2 b)
    (hW : CompRT xs.length g tt te σ Q J H2) (post : Value → Addr → Result → Shared → Prop)
    (fin : ∀ D C H3 s4, Inv X pins σ H3 s4 → (∃ m, s4.heap.Ns C m) → FpOk X pins H3 C → Q (.ref D) H3 → post (.ref D) C (.ok .next) s4) :
    wpAny (model X.prog X.w) X.A (newList []) (fun acc s₃ => wpAny (model X.prog X.w) X.A (newFunctionEnv scope X.env.globals cl [] X.env.qual none .none (some X.env)) (fun cenv s₄ =>
      codeAny (model X.prog X.w) X.A (.compStart (.ListComp elt [⟨tg, iter, ifs, 0⟩] scope pos) 0 (.ref it) acc { cenv with scope := relabel scope X.env }) (post acc cenv.locals) s₄) X.xe s₃) X.xe s2 := by
  refine wpAny_newObj_type (wpAny_newFunctionEnv ok.cell (by intro y hy; simp at hy) (fun h₁ hns₁ hsb₁ => ?_) ok.kind)
  dsimp only at hns₁ hsb₁ ⊢
  generalize hH2 : s2.heap.push { cls := .type "list", dict := none, data := .seq ([] : List Value).toArray } = G2 at hns₁ hsb₁ ⊢
  have hC : G2.objs.size = s2.heap.objs.size + 1 := by rw [← hH2, Heap.size_push]
  have hDC : s2.heap.objs.size ≠ G2.objs.size := by rw [hC]; exact Nat.ne_of_lt (Nat.lt_succ_self _)
  have hCle : s2.heap.objs.size ≤ G2.objs.size := by rw [hC]; exact Nat.le_succ _
  have below : ∀ b, b < s2.heap.objs.size → b ≠ G2.objs.size ∧ b ≠ s2.heap.objs.size := fun b hb => ⟨by rw [hC]; exact Nat.ne_of_lt (Nat.lt_succ_of_lt hb), Nat.ne_of_lt hb⟩
  have old : ∀ b o, s2.heap.get? b = some o → h₁.get? b = some o := fun b o e => hsb₁.extBut b o (below b (Heap.lt_size e)).1 (Heap.get?_push_of_some _ (hH2 ▸ Heap.get?_push_of_some _ e))
  have hacc : h₁.get? s2.heap.objs.size = some { cls := .type "list", data := .seq ([] : List Value).toArray } := hsb₁.extBut _ _ hDC (Heap.get?_push_of_some _ (hH2 ▸ Heap.get?_push_size _ rfl))
  have fpb : ∀ b ∈ fp, b < s2.heap.objs.size := fun b hb => by
    obtain ⟨o, e, _⟩ := T.obj _ _ st2 b hb
    exact Heap.lt_size e
  have hD0 : H2 s2.heap.objs.size = none := I2.hok.fresh (Nat.le_refl _)
  have hC0 : H2 G2.objs.size = none := I2.hok.fresh hCle
  generalize hDD : s2.heap.objs.size = D at *
  generalize hCC : G2.objs.size = C at *
  obtain ⟨W, ⟨m0, w0⟩, turn⟩ := hW D hD0
  have okX : (compCxT X M xs scope cl C s2 H2 fp).Ok := comp_okT I2 ok (by rw [hDD]; exact hCle) f2 (by rw [hDD]; exact fpb)
  have lenN : (List.replicate xs.length none ++ σ : St).length = (compCxT X M xs scope cl C s2 H2 fp).N.length := by
    show (List.replicate xs.length none ++ σ).length = (xs ++ M).length
    rw [List.length_append, List.length_append, List.length_replicate, I2.len, ok.len]
  -- the values of the names around it, seen from within
  have locs : ∀ (h' : Heap) (m : Str → Option Value), (∀ y c, X.env.cells.lookup y = some c → ∀ v, s2.heap.IsCell c v → h'.IsCell c v) →
      ∀ (j : Nat) (y : Str) (v : V), (xs ++ M)[j]? = some y → (List.replicate xs.length none ++ σ : St)[j]? = some (some v) → Vis (relabel scope X.env) y → ∃ u, RelV v u ∧ Look (compEnvC scope cl C X.env) h' m y u := by
    intro h' m hcell j y v e1 e2 e3
    rcases Nat.lt_or_ge j xs.length with jl | jl
    · rw [List.getElem?_append_left (by rw [List.length_replicate]; exact jl), List.getElem?_replicate, if_pos jl] at e2
      cases e2
    · obtain ⟨i, rfl⟩ : ∃ i, j = xs.length + i := ⟨j - xs.length, by omega⟩
      have e0 : M[i]? = some y := by
        rw [List.getElem?_append_right (Nat.le_add_right _ _), Nat.add_sub_cancel_left] at e1
        exact e1
      have e2' : σ[i]? = some (some v) := by
        rw [List.getElem?_append_right (by rw [List.length_replicate]; exact Nat.le_add_right _ _), List.length_replicate, Nat.add_sub_cancel_left] at e2
        exact e2
      obtain ⟨e1', k1, k2⟩ := ok.vis i y e0 e3
      obtain ⟨m2, _, hl⟩ := I2.loc
      obtain ⟨u, r, l⟩ := hl i y v e1' e2' (k2.elim (fun z => .inr (.inl z)) fun z => .inr (.inr z))
      obtain ⟨c', hc'⟩ := ok.has y k1
      rcases l with ⟨z, _⟩ | ⟨_, c, hcc, z⟩
      · have z' : X.env.scope.names.lookup y = some .local := z
        rcases k2 with q | q <;> (rw [q] at z'; cases z')
      · have q := ok.sub y c' hc'
        rw [hcc] at q
        cases q
        exact ⟨u, r, .inr ⟨k1, c', hc', hcell y c' hcc _ z⟩⟩
  have I0 : Inv (compCxT X M xs scope cl C s2 H2 fp) [] (List.replicate xs.length none ++ σ) (upd H2 D (.lst [])) { s2 with heap := h₁, toks := s2.toks + ([] : List (Str × Value)).length } := by
    refine ⟨okX, rfl, I2.bare, ?_, ⟨_, hns₁, locs h₁ _ (fun y c e v z => ?_)⟩, fun y c e => ?_, ?_, fun y c e => ?_, fun p hp => ?_, ?_, lenN⟩
    · exact Un.laid old (Nat.le_of_eq hDD) hD0
    · obtain ⟨o, ho, hd⟩ := z
      exact ⟨o, old c o ho, hd⟩
    · obtain ⟨v, o, ho, hd⟩ := I2.cell y c (ok.sub y c e)
      exact ⟨v, o, old c o ho, hd⟩
    · show upd H2 D (.lst []) C = none
      rw [upd_ne (Ne.symm hDC)]
      exact hC0
    · have hn := I2.freeC y c (ok.sub y c e)
      obtain ⟨v, o, ho, hd⟩ := I2.cell y c (ok.sub y c e)
      rw [upd_ne (fun z => by have := Heap.lt_size ho; rw [hDD, z] at this; exact Nat.lt_irrefl _ this)]
      exact hn
    · exact absurd hp (by show p ∉ ([] ++ [] : List (Addr × Obj)); simp)
    · refine I2.hok.laid old (Nat.le_of_eq hDD) ⟨Nat.zero_le _, [], _, .nil, hacc⟩
  have fpk : ∀ {H' : Hp}, (∀ b ∈ fp, H' b = none) → ∀ b ∈ fp, FpOk (compCxT X M xs scope cl C s2 H2 fp) [] H' b := fun hn b hb => by
    refine ⟨hn b hb, (below b (fpb b hb)).1, okX.exfs b hb, .inl hb, fun y c e => (f2 b hb).2.2.2.2.1 y c (ok.sub y c e), fun p hp => ?_⟩
    exact absurd hp (by show p ∉ ([] ++ [] : List (Addr × Obj)); simp)
  have loop : ∀ s₃ : Shared, s₃ = { s2 with heap := h₁, toks := s2.toks + ([] : List (Str × Value)).length } →
      codeAny (model X.prog X.w) X.A (.compLoop (.ListComp elt [⟨tg, iter, ifs, 0⟩] scope pos) 0 (.ref it) (.ref D) (compEnvC scope cl C X.env))
        (post (.ref D) C) s₃ := by
    rintro s₃ rfl
    refine comp_turns (fun n s' => ∃ i ys w' H', w'.length = xs.length ∧ Inv (compCxT X M xs scope cl C s2 H2 fp) [] (w' ++ σ) H' s' ∧ tn i s'.heap ∧ (∀ b ∈ fp, H' b = none) ∧ W i n ys H') ?_ m0
      ⟨0, [], List.replicate xs.length none, _, List.length_replicate, I0, T.keep _ _ _ st2 (fun b _ o e => old b o e), fun b hb => by rw [upd_ne (below b (fpb b hb)).2]; exact (f2 b hb).1, w0⟩
    rintro n s3 ⟨i, ys, w3, H3, l3, I3, st3, fr3, wt⟩
    obtain ⟨hD3, hh⟩ := turn i n ys H3 wt
    rcases hh with ⟨stop, q⟩ | ⟨go, hlen, m', hm, step⟩
    · refine thn (T.done (compCxT X M xs scope cl C s2 H2 fp) rfl rfl rfl hc i [] s3 (w3 ++ σ) H3 _ I3 (fpk fr3) st3 stop) fun r s4 ⟨hr, I4⟩ => ?_
      subst hr
      obtain ⟨m4, hn4, _⟩ := id I4.loc
      have hC4 : H3 C = none := I4.free
      exact fin D C H3 s4 (I2.call' (ch := fp) I4.os I4.base I4.hok I4.bare fun b hb => ⟨(f2 b hb).2.2.2.1, (f2 b hb).2.1, (f2 b hb).2.2.2.2.1, (f2 b hb).2.2.2.2.2⟩) ⟨m4, hn4⟩ (I2.fpOk (by rw [hDD]; exact hCle) hC4) q
    · refine wpAny_mono (T.item (compCxT X M xs scope cl C s2 H2 fp) rfl rfl rfl hc i [] s3 (w3 ++ σ) H3 (fun _ _ => False) I3 (fpk fr3) st3 go) (fun r s4 h4 => ?_) (fun _ _ z => z.elim)
      obtain ⟨u, hr, h4⟩ := h4
      subst hr
      refine wpAny_mono h4 (fun _ s4 h4 => ?_) (fun _ _ z => z.elim)
      obtain ⟨x', H5, I5, r5, y5, st5, fr5⟩ := h4
      have I5' := I5.pinned (fpk fr5) (T.obj _ _ st5)
      refine wpAny_mono (hg C s2 H2 fp _ s4 _ H5 x' u _ I5' r5 (step x' H5 y5 w3 l3)) (fun _ s6 h6 => ?_) (fun _ _ z => z.elim)
      obtain ⟨σ6, H6, I6, w6, l6, rfl, q6⟩ := h6
      have back : ∀ {s7 : Shared} {H7 : Hp} {w7 : St}, Inv (compCxT X M xs scope cl C s2 H2 fp) ([] ++ pinsAt fp s4.heap) (w7 ++ σ) H7 s7 → tn (i + 1) s7.heap ∧ (∀ b ∈ fp, H7 b = none) ∧ Inv (compCxT X M xs scope cl C s2 H2 fp) [] (w7 ++ σ) H7 s7 := fun {s7 H7 w7} I7 => by
        refine ⟨T.keep _ _ _ st5 fun b hb o e => (I7.pin (b, o) (List.mem_append_right _ (List.mem_append_right _ (mem_pinsAt hb e)))).1, fun b hb => ?_, I7.unpinned⟩
        obtain ⟨o, e, d⟩ := T.obj _ _ st5 b hb
        exact (I7.pin (b, o) (List.mem_append_right _ (List.mem_append_right _ (mem_pinsAt hb e)))).2.1
      refine wpAny_mono (ht C s2 H2 fp _ s6 _ H6 _ I6 q6) (fun ok' s7 h7 => ?_) (fun _ _ z => z.elim)
      obtain ⟨H7, I7, q7⟩ := h7
      cases ok' with
      | false =>
        have q7' : W (i + 1) m' ys H7 := by simpa using q7
        rw [if_neg Bool.false_ne_true]
        obtain ⟨b1, b2, b3⟩ := back I7
        exact ⟨m', hm, i + 1, ys, _, H7, l6, b3, b1, b2, q7'⟩
      | true =>
        rw [if_pos rfl] at q7 ⊢
        refine wpAny_mono (he C s2 H2 fp _ s7 _ H7 _ I7 q7) (fun y s8 h8 => ?_) (fun _ _ z => z.elim)
        obtain ⟨v8, H8, I8, r8, hD8, w8⟩ := h8
        refine wpAny_mono (mt_append (X := compCxT X M xs scope cl C s2 H2 fp) _ s8 _ H8 (.ref D) [v8] (.ref D) [y] (fun _ H9 => H9 = upd H8 D (.lst (ys ++ [v8]))) I8 rfl (.cons r8 .nil) ⟨D, ys, v8, rfl, rfl, hD8, hlen, rfl⟩) (fun _ s9 h9 => ?_) (fun _ _ z => z.elim)
        obtain ⟨v9, H9, I9, _, e9⟩ := h9
        subst e9
        obtain ⟨b1, b2, b3⟩ := back I9
        exact ⟨m', hm, i + 1, _, _, _, l6, b3, b1, b2, w8⟩
  exact codeAny_compStart_list (loop _ rfl) (T.self _ 0 _ _ _ (T.keep _ _ _ st2 (fun b _ o e => old b o e)) (loop _ rfl))
theorem pe_compT {M : List Str} {elt iter tg : Expr} {xs : List Str} {pos : Pos} {ifs : List Expr} {scope : Scope} {cl : List (Str × Addr)} {wi : TI} {g : TG} {tt : TT} {te : TE} (hc : X.calm = true) (ok : CompOkT X M xs scope cl) (hi : PI X tg iter wi)
    (ht : ∀ C s₀ H₀ fp, PIfs (compCxT X M xs scope cl C s₀ H₀ fp) ifs tt) (hg : ∀ C s₀ H₀ fp, PG (compCxT X M xs scope cl C s₀ H₀ fp) tg g) (he : ∀ C s₀ H₀ fp, PE (compCxT X M xs scope cl C s₀ H₀ fp) elt te)
    (hs : ∀ x, foldedSetIterable iter X.env x = pure x := by intro _; rfl) :
    PE X (.ListComp elt [⟨tg, iter, ifs, 0⟩] scope pos) (tCompT xs.length wi g tt te) := by
  intro pins s σ H Q I h
  rw [eval_ListComp]
  refine wpAny_comprehension_free (use := none) rfl hs ok.clos ok.kind ok.names (thn (hi pins s σ H _ I h) fun xv s1 h1 => thn h1 fun itv s2 h2 => ?_)
  obtain ⟨it, fp, tn, J, H2, e, I2, T, st2, f2, hW⟩ := h2
  subst e
  refine comp_coreT hc ok ht hg he I2 T st2 f2 hW (compPost (model X.prog X.w) X.A X.xe none (EP X pins σ Q)) fun D C H3 s4 I4 hm fC q => ?_
  obtain ⟨m, hn⟩ := hm
  exact ⟨m, hn, fun h' hsb => ⟨.ref D, H3, I4.turned (t' := s4.toks) (fun b o hb e => hsb.extBut b o hb e) fC.1 fC.2.1 fC.2.2.2.1 fC.2.2.2.2.1 fC.2.2.2.2.2, rfl, q⟩⟩
theorem compOkT_freeM {scope : Scope} {cl : List (Str × Addr)} (xs M N : List Str) (hl : M.length = N.length) (hN : X.N = N) (clos : closureFor scope X.env = pure cl) (hc : (scope.names.all fun y => y.2 != .cell) = true) (hk : scope.kind = .function)
    (hn : (scope.names.all fun y => y.2 != .local || scope.names.lookup y.1 == some .local) = true) (hx : (xs.all fun x => scope.names.lookup x == some .local) = true) (nd : (xs ++ M).Nodup)
    (hs : ∀ p ∈ cl, X.env.cells.lookup p.1 = some p.2)
    (hh : ((relabel scope X.env).names.all fun p => (p.2 != .cell && p.2 != .free) || (cl.lookup p.1).isSome) = true)
    (hv : ((M.zip N).all fun q => match (relabel scope X.env).names.lookup q.1 with
      | some .local => false
      | some .cell => q.1 == q.2 && (X.env.scope.names.lookup q.1 == some .cell || X.env.scope.names.lookup q.1 == some .free)
      | some .free => q.1 == q.2 && (X.env.scope.names.lookup q.1 == some .cell || X.env.scope.names.lookup q.1 == some .free)
      | _ => true) = true) : CompOkT X M xs scope cl := by
  refine ⟨clos, fun y hy => ?_, hk, fun y hy hl => ?_, (fun x hm => by simpa using List.all_eq_true.mp hx x hm), nd, by rw [hN]; exact hl, fun y c h => hs _ (lookup_mem h), fun y h => ?_, fun i y hy h => ?_⟩
  · have := List.all_eq_true.mp hc y hy
    simpa using this
  · have := List.all_eq_true.mp hn y hy
    simpa [hl] using this
  · rcases h with h | h
    · have := List.all_eq_true.mp hh _ (lookup_mem h)
      exact Option.isSome_iff_exists.mp (by simpa using this)
    · have := List.all_eq_true.mp hh _ (lookup_mem h)
      exact Option.isSome_iff_exists.mp (by simpa using this)
  · have hi : i < N.length := by
      have := (List.getElem?_eq_some_iff.mp hy).1
      omega
    have hz : (y, N[i]) ∈ M.zip N := by
      have : (M.zip N)[i]? = some (y, N[i]) := List.getElem?_zip_eq_some.mpr ⟨hy, by simp [hi]⟩
      exact List.mem_of_getElem? this
    have z := List.all_eq_true.mp hv _ hz
    have fin : y = N[i] → X.N[i]? = some y := fun e => by rw [hN, e]; simp [hi]
    rcases h with h | h | h
    · dsimp only at z
      rw [h] at z; cases z
    · dsimp only at z
      rw [h] at z
      simp only [Bool.and_eq_true, beq_iff_eq, Bool.or_eq_true] at z
      exact ⟨fin z.1, .inl h, z.2⟩
    · dsimp only at z
      rw [h] at z
      simp only [Bool.and_eq_true, beq_iff_eq, Bool.or_eq_true] at z
      exact ⟨fin z.1, .inr h, z.2⟩
end
theorem rd_compT {k : Nat} {wi : TI} {g : TG} {tt : TT} {te : TE} {σ : St} {H : Hp} {Q : VK} (h : wi σ H (CompRT k g tt te σ Q)) : tCompT k wi g tt te σ H Q := h
theorem compT_inv {k : Nat} {J : It} {ok : Hp → Prop} {xs : List V} {σ : St} {H : Hp} {Q : VK} {g : TG} {tt : TT} {te : TE} (Wk : Walk J ok xs) (hz : xs.length < sizeLine) (Pv : Addr → Nat → List V → Hp → Prop)
    (h0 : ∀ D, H D = none → Pv D 0 [] (upd H D (.lst [])))
    (hD : ∀ D i ys H2, H D = none → Pv D i ys H2 → H2 D = some (.lst ys) ∧ ys.length ≤ i ∧ ok H2)
    (hs : ∀ D i x ys H2, H D = none → xs[i]? = some x → Pv D i ys H2 → ∀ ρ : St, ρ.length = k → ∀ W : Nat → List V → Hp → Prop, (∀ zs H6, Pv D (i + 1) zs H6 → W (i + 1) zs H6) →
      g x (ρ ++ σ) H2 fun σ2 H4 => ∃ ρ2 : St, ρ2.length = k ∧ σ2 = ρ2 ++ σ ∧ tt σ2 H4 fun b H5 => if b = true then te σ2 H5 fun y H6 => H6 D = some (.lst ys) ∧ W (i + 1) (ys ++ [y]) (upd H6 D (.lst (ys ++ [y]))) else W (i + 1) ys H5)
    (h : ∀ D ys H2, H D = none → Pv D xs.length ys H2 → Q (.ref D) H2) : CompRT k g tt te σ Q J H := by
  intro D hD0
  refine ⟨fun i m ys H2 => i ≤ xs.length ∧ m = xs.length - i ∧ Pv D i ys H2, ⟨_, Nat.zero_le _, rfl, h0 D hD0⟩, ?_⟩
  rintro i m ys H2 ⟨hi, rfl, p⟩
  obtain ⟨d1, d2, d3⟩ := hD D i ys H2 hD0 p
  refine ⟨d1, ?_⟩
  by_cases hlt : i < xs.length
  · refine .inr ⟨Wk.go i _ d3 hlt, by omega, xs.length - (i + 1), by omega, fun x H3 hy ρ hρ => ?_⟩
    obtain ⟨e3, ex⟩ := Wk.yld i _ x H3 d3 hy hlt
    subst e3
    exact hs D i x ys H3 hD0 ex p ρ hρ (fun j zs H6 => j ≤ xs.length ∧ xs.length - (i + 1) = xs.length - j ∧ Pv D j zs H6) fun zs H6 z => ⟨hlt, rfl, z⟩
  · have e : i = xs.length := by omega
    subst e
    exact .inl ⟨Wk.stop _ _ d3 (Nat.le_refl _), h D ys H2 hD0 p⟩
end L2
namespace L2
open PySem PySem.Spec PyProof.Rows
theorem rd_fld {K : PySem.W.Frag} {ta : TE} {f : Str} {σ : St} {H : Hp} {Q : VK} (h : ta σ H fun x H1 => ∃ a C dx fs v, x = .ref a ∧ H1 a = some (.ins C dx fs) ∧ Cls K C ∧ NoAttr K C f ∧ fs.lookup f = some v ∧ Q v H1) : tFld K ta f σ H Q := h
theorem rd_sfld {K : PySem.W.Frag} {ta tv : TE} {f : Str} {D : Ends} {σ : St} {H : Hp} (h : tv σ H fun y H1 => ta σ H1 fun x H2 => ∃ a C dx fs, x = .ref a ∧ H2 a = some (.ins C dx fs) ∧ Cls K C ∧ NoAttr K C f ∧ fs.length < 1000 ∧ D.nx σ (upd H2 a (.ins C dx (putF f y fs)))) : sFld K ta tv f D σ H := h
theorem rd_meth {C : Addr} {m : Str} {sp : Sp} {ta : TE} {t : TA} {σ : St} {H : Hp} {Q : VK} (h : ta σ H fun x H1 => ∃ a dx fs, x = .ref a ∧ H1 a = some (.ins C dx fs) ∧ fs.lookup m = none ∧ t σ H1 fun vs H2 => sp (x :: (vs ++ [])) H2 Q E0) : tMeth C m sp [] E0 ta t σ H Q := h
end L2

set_option Elab.async false
set_option linter.all false
set_option maxRecDepth 100000
set_option maxHeartbeats 4000000
namespace L2
open PySem PySem.Spec PyProof.Rows
section
variable {X : Cx} {M xs : List Str} {scope : Scope} {cl : List (Str × Addr)} {C : Addr} {s₀ : Shared} {H₀ : Hp} {fp : List Addr}
theorem pg_tup_c {es : List Expr} {k : Nat} {t : TGs} {n : Nat} {pos : Pos} (hc : X.calm = true) (h : PGs (compCxT X M xs scope cl C s₀ H₀ fp) es t)
    (hn : (assignEach es (compCxT X M xs scope cl C s₀ H₀ fp).env).length = n := by rfl) (hst : (assignEach es (compCxT X M xs scope cl C s₀ H₀ fp).env).findIdx? (·.1) = none := by rfl) : PG (compCxT X M xs scope cl C s₀ H₀ fp) (.Tuple es k pos) (gTup X.K n t) :=
  pg_tup hc h hn hst
end
end L2

set_option Elab.async false
set_option linter.all false
set_option maxRecDepth 100000
set_option maxHeartbeats 4000000
namespace L2
open PySem PySem.Spec PyProof.Rows
structure FunD (K : PySem.W.Frag) (x qual : Str) (st : Stmt) (f : Addr) (fd : FuncData) (ds : Array Value) : Prop where
  ex : ∃ (oc : Value) (od : Option Addr) (T : Addr) (to : Obj) (tn : Nat) (kV doc pm : Value) (an : Option Addr) (cdv ct : Value) (osl : Array (Option Value)),
    fd = PySem.W.fnOf x qual (defArgs st) (defBody st) (defScope st) (.ref T) kV doc pm an cdv ct ∧ K.lookup f = some ⟨oc, od, .func fd, osl⟩ ∧ PySem.W.codeIn K cdv qual = true ∧ K.lookup T = some to ∧ to.data = .seq ds tn
  kp : PySem.W.keepIn K (.ref f) = true
section
variable {P : Program} {w : World} {K : PySem.W.Frag} {mg : Str → Option Value} {base : Heap} {x qual : Str} {st : Stmt} {f : Addr} {fd : FuncData} {N ps : List Str} {k : Nat} {sp : Sp} {ds : Array Value}
theorem FunD.ok (F : FunD K x qual st f fd ds) (S : FnScope N ps (defScope st)) (len : ∀ vs H Q E, sp vs H Q E → vs.length = ps.length)
    (hbody : ∀ (cdv : Value) (A : Around) (outer : List Env) (s : Shared) (H : Hp) (vs : List V) (Q : VK) (E : XK), Room k (A.deeper (envOfC qual (defScope st) s.heap.objs.size f cdv)) → sp vs H Q E →
      ∃ t, PSs (cxOf CX0 P w K mg base N qual (defScope st) f cdv A outer s H E).nox (defBody st) t ∧ t { nx := fun _ H' => Q .non H', rt := Q } (start N vs) H) : FnOk P w K mg base CX0 (k + 1) f fd ps sp := by
  obtain ⟨oc, od, T, to, tn, kV, doc, pm, an, cdv, ct, osl, rfl, lk, hcd, _⟩ := F.ex
  refine fn_of lk hcd S len fun A outer s H vs Q E hr hsp => ?_
  obtain ⟨t, h, q⟩ := hbody cdv A outer s H vs Q E hr hsp
  exact ⟨t, h.nox, q⟩
theorem FunD.okE (F : FunD K x qual st f fd ds) (S : FnScope N ps (defScope st)) (len : ∀ vs H Q E, sp vs H Q E → vs.length = ps.length)
    (hbody : ∀ (cdv : Value) (A : Around) (outer : List Env) (s : Shared) (H : Hp) (vs : List V) (Q : VK) (E : XK), Room k (A.deeper (envOfC qual (defScope st) s.heap.objs.size f cdv)) → sp vs H Q E →
      Thr (cxOf (CX1 P w) P w K mg base N qual (defScope st) f cdv A outer s H E) (fun c d _ H' => E c d H') →
      ∃ t, PSs (cxOf (CX1 P w) P w K mg base N qual (defScope st) f cdv A outer s H E) (defBody st) t ∧ t { nx := fun _ H' => Q .non H', rt := Q } (start N vs) H) : FnOk P w K mg base (CX1 P w) (k + 1) f fd ps sp := by
  obtain ⟨oc, od, T, to, tn, kV, doc, pm, an, cdv, ct, osl, rfl, lk, hcd, _⟩ := F.ex
  exact fn_of lk hcd S len fun A outer s H vs Q E hr hsp => hbody cdv A outer s H vs Q E hr hsp thr_fn
theorem FunD.binds (F : FunD K x qual st f fd ds)
    (h : ∀ (T : Addr) (kV doc pm : Value) (an : Option Addr) (cdv ct : Value) (us : List Value), us.length = ps.length → bindArgs (PySem.W.fnOf x qual (defArgs st) (defBody st) (defScope st) (.ref T) kV doc pm an cdv ct) ⟨us, []⟩ = pure (ps.zip us)) : Binds K fd ps [] := by
  obtain ⟨oc, od, T, to, tn, kV, doc, pm, an, cdv, ct, osl, rfl, lk, hcd, _⟩ := F.ex
  exact .all (h T kV doc pm an cdv ct)
/-- fewer arguments than parameters: the last defaults fill up -/
theorem FunD.bindsD {dv : List Value} (n : Nat) (hn : n + dv.length = ps.length) (F : FunD K x qual st f fd ds)
    (h : ∀ (T : Addr) (kV doc pm : Value) (an : Option Addr) (cdv ct : Value) (us : List Value), us.length = n →
      ∃ k : Option (Array Value) → Sem (List (Str × Value)), bindArgs (PySem.W.fnOf x qual (defArgs st) (defBody st) (defScope st) (.ref T) kV doc pm an cdv ct) ⟨us, []⟩ = seqItems? (.ref T) >>= k ∧ k (some ds) = pure (ps.zip (us ++ dv))) : Binds K fd ps dv := by
  obtain ⟨oc, od, T, to, tn, kV, doc, pm, an, cdv, ct, osl, rfl, lk, hcd, ht, hs⟩ := F.ex
  intro s us KX hl
  obtain ⟨k, h1, h2⟩ := h T kV doc pm an cdv ct us (by rw [List.length_append] at hl; omega)
  exact PySem.W.binds_K KX rfl ht hs h1 h2
theorem fun_mkD {oc : Value} {od an : Option Addr} {osl : Array (Option Value)} {kV doc pm cdv ct : Value} {T : Addr} {to : Obj} {tn : Nat} (l : K.lookup f = some ⟨oc, od, .func (PySem.W.fnOf x qual (defArgs st) (defBody st) (defScope st) (.ref T) kV doc pm an cdv ct), osl⟩)
    (c : PySem.W.codeIn K cdv qual = true) (k : PySem.W.keepIn K (.ref f) = true) (t : K.lookup T = some to) (d : to.data = .seq ds tn) : FunD K x qual st f (PySem.W.fnOf x qual (defArgs st) (defBody st) (defScope st) (.ref T) kV doc pm an cdv ct) ds :=
  ⟨⟨oc, od, T, to, tn, kV, doc, pm, an, cdv, ct, osl, rfl, l, c, t, d⟩, k⟩
end
structure CalD (P : Program) (w : World) (K : PySem.W.Frag) (mg : Str → Option Value) (base : Heap) (CX : CXT) (k : Nat) (x : Str) (ps : List Str) (dvs : List V) (sp : Sp) : Prop where
  ex : ∃ (f : Addr) (fd : FuncData) (ds : List Value), FnOk P w K mg base CX k f fd ps sp ∧ Binds K fd ps ds ∧ Vals dvs ds ∧ PySem.W.keepIn K (.ref f) = true ∧ mg x = some (.ref f)
section
variable {X : Cx} {EE : Value → Option Addr → St → Hp → Prop} {C : Addr} {m x : Str} {k : Nat} {ps : List Str} {dvs : List V} {sp : Sp} {o e : Expr} {es : List Expr} {ta : TE} {t : TA} {apos pos p : Pos}
end
section
variable {X : Cx}
end
end L2
namespace L2
open PySem PySem.Spec PyProof.Rows
theorem rd_makeD {C : Addr} {sp : Sp} {dvs : List V} {t : TA} {σ : St} {H : Hp} {Q : VK} (h : t σ H fun vs H1 => ∀ x dx, H1 x = none → H1 dx = none → dx ≠ x → sp (.ref x :: (vs ++ dvs)) (upd (upd H1 dx (.own x)) x (.ins C dx [])) (fun v H2 => v = .non ∧ Q (.ref x) H2) E0) : tMake C sp dvs E0 t σ H Q := h
theorem rd_makeE {C : Addr} {sp : Sp} {EE : XE} {t : TA} {σ : St} {H : Hp} {Q : VK} (h : t σ H fun vs H1 => ∀ x dx, H1 x = none → H1 dx = none → dx ≠ x → sp (.ref x :: (vs ++ [])) (upd (upd H1 dx (.own x)) x (.ins C dx [])) (fun v H2 => v = .non ∧ Q (.ref x) H2) (fun c d H' => EE c d σ H')) : tMakeE C sp EE t σ H Q := h
theorem rd_methE {C : Addr} {m : Str} {sp : Sp} {EE : XE} {ta : TE} {t : TA} {σ : St} {H : Hp} {Q : VK} (h : ta σ H fun x H1 => ∃ a dx fs, x = .ref a ∧ H1 a = some (.ins C dx fs) ∧ fs.lookup m = none ∧ t σ H1 fun vs H2 => sp (x :: (vs ++ [])) H2 Q (fun c d H' => EE c d σ H')) : tMethE C m sp EE ta t σ H Q := h
end L2

set_option Elab.async false
set_option linter.all false
set_option maxRecDepth 100000
set_option maxHeartbeats 4000000
namespace L2
open PySem PySem.Spec PyProof.Rows
def plainV : V → Bool
  | .byt _ => false
  | .flt _ => false
  | _ => true
inductive EqV (K : PySem.W.Frag) (H : Hp) : Nat → V → V → Prop
  | same {n : Nat} {v : V} : plainV v = true → EqV K H n v v
  | lst {n : Nat} {a b : Addr} {xs ys : List V} : SqL K H a xs → SqL K H b ys → xs.length = ys.length → (∀ (i : Nat) x y, xs[i]? = some x → ys[i]? = some y → EqV K H n x y) → EqV K H (n + 1) (.ref a) (.ref b)
  | tup {n : Nat} {a b : Addr} {xs ys : List V} : SqT K H a xs → SqT K H b ys → xs.length = ys.length → (∀ (i : Nat) x y, xs[i]? = some x → ys[i]? = some y → EqV K H n x y) → EqV K H (n + 1) (.ref a) (.ref b)
theorem vals_at : ∀ {xs : List V} {us : List Value} {i : Nat} {u : Value}, Vals xs us → us[i]? = some u → ∃ x, xs[i]? = some x ∧ RelV x u
  | _, _, i, u, .nil, h => by simp at h
  | _, _, 0, u, .cons r _, h => by
    injection h with h
    subst h
    exact ⟨_, rfl, r⟩
  | _, _, i + 1, u, .cons _ rs, h => vals_at (i := i) rs h
section
variable {X : Cx} {pins : List (Addr × Obj)} {σ : St} {H : Hp} {s : Shared}
theorem EqV.at {n : Nat} {x y : V} (h : EqV X.K H n x y) (I : Inv X pins σ H s) : ∀ {A : Around} {u v : Value}, RelV x u → RelV y v → A.units + n < cLine → SeqAt.EqAt A s u v true := by
  induction h with
  | @same n v hp =>
    intro A u u' r r' _
    cases v with
    | non => cases r; cases r'; exact SeqAt.EqAt.same _
    | bl b => cases r; cases r'; exact SeqAt.EqAt.same _
    | int i =>
      obtain ⟨t, rfl⟩ := r
      obtain ⟨t', rfl⟩ := r'
      have := SeqAt.EqAt.int_int (A := A) (s := s) i t i t'
      rwa [beq_self_eq_true] at this
    | str x =>
      obtain ⟨t, rfl⟩ := r
      obtain ⟨t', rfl⟩ := r'
      have := SeqAt.EqAt.str_str (A := A) (s := s) x t x t'
      rwa [beq_self_eq_true] at this
    | byt b => cases hp
    | flt b => cases hp
    | ref a => cases r; cases r'; exact SeqAt.EqAt.same _
    | ty n => cases r; cases r'; exact SeqAt.EqAt.same _
  | @lst n a b xs ys ha hb hl _ ih =>
    intro A u v r r' hu
    cases r
    cases r'
    by_cases e : a = b
    · subst e
      exact SeqAt.EqAt.same _
    obtain ⟨its, r, pl, _⟩ := I.list ha
    obtain ⟨its', r', pl', _⟩ := I.list hb
    have l1 := r.length
    have l2 := r'.length
    have := SeqAt.RcAt.lists (A := A) (e := fun _ => true) pl.isList pl'.isList (by simp; omega) (by omega) fun j k1 k2 => by
      obtain ⟨x, hx, rx⟩ := vals_at r (i := j) (u := its.toArray[j]) (by simp)
      obtain ⟨y, hy, ry⟩ := vals_at r' (i := j) (u := its'.toArray[j]) (by simp)
      exact ih j x y hx hy rx ry (by show A.units + 1 + n < cLine; omega)
    rw [show ((List.range its.toArray.size).all fun _ => true) = true by simp] at this
    exact SeqAt.EqAt.of_refs e this
  | @tup n a b xs ys ha hb hl _ ih =>
    intro A u v r r' hu
    cases r
    cases r'
    by_cases e : a = b
    · subst e
      exact SeqAt.EqAt.same _
    obtain ⟨its, r, pl, _⟩ := I.tuple ha
    obtain ⟨its', r', pl', _⟩ := I.tuple hb
    have l1 := r.length
    have l2 := r'.length
    have := SeqAt.RcAt.tuples (A := A) (e := fun _ => true) pl pl' (by omega) fun j k1 k2 => by
      obtain ⟨x, hx, rx⟩ := vals_at r (i := j) (u := its.toArray[j]) (by simp)
      obtain ⟨y, hy, ry⟩ := vals_at r' (i := j) (u := its'.toArray[j]) (by simp)
      exact ih j x y hx hy rx ry (by show A.units + 1 + n < cLine; omega)
    rw [show ((List.range (min its.toArray.size its'.toArray.size)).all fun _ => true) = true by simp, Bool.true_and, show (its.toArray.size == its'.toArray.size) = true by simp; omega] at this
    exact SeqAt.EqAt.of_refs e this
end
end L2

set_option Elab.async false
set_option linter.all false
set_option maxRecDepth 100000
set_option maxHeartbeats 4000000
namespace L2
open PySem PySem.Spec PyProof.Rows
structure CalL (P : Program) (w : World) (K : PySem.W.Frag) (mg : Str → Option Value) (base : Heap) (CX : CXT) (k : Nat) (m : Str) (ps : List Str) (L : List (Addr × Sp)) : Prop where
  ex : ∀ p ∈ L, Cls K p.1 ∧ ∃ (f : Addr) (fd : FuncData), FnOk P w K mg base CX k f fd ps p.2 ∧ Binds K fd ps [] ∧ Meth K p.1 m f
theorem CalL.nil {P : Program} {w : World} {K : PySem.W.Frag} {mg : Str → Option Value} {base : Heap} {CX : CXT} {k : Nat} {m : Str} {ps : List Str} : CalL P w K mg base CX k m ps [] := ⟨fun p hp => (nomatch hp)⟩
theorem FnOk.up {P : Program} {w : World} {K : PySem.W.Frag} {mg : Str → Option Value} {base : Heap} {CX : CXT} {k j : Nat} {f : Addr} {fd : FuncData} {ps : List Str} {sp : Sp} (F : FnOk P w K mg base CX k f fd ps sp) (h : k ≤ j) : FnOk P w K mg base CX j f fd ps sp :=
  ⟨F.len, fun A outer s H args us vs Q E hr e0 hb r hs => F.run A outer s H args us vs Q E (hr.mono h) e0 hb r hs⟩
theorem CalL.cons {P : Program} {w : World} {K : PySem.W.Frag} {mg : Str → Option Value} {base : Heap} {CX : CXT} {k j : Nat} {m : Str} {ps : List Str} {C : Addr} {sp : Sp} {L : List (Addr × Sp)} (c : Cls K C) (O : CalM P w K mg base CX j C m ps sp) (h : j ≤ k) (r : CalL P w K mg base CX k m ps L) : CalL P w K mg base CX k m ps ((C, sp) :: L) := by
  refine ⟨fun p hp => ?_⟩
  rcases List.mem_cons.mp hp with e | e
  · subst e
    obtain ⟨f, fd, F, hb, M⟩ := O.ex
    exact ⟨c, f, fd, F.up h, hb, M⟩
  · exact r.ex p e
def tMethL (L : List (Addr × Sp)) (m : Str) (ta : TE) (t : TA) : TE := fun σ H Q => ta σ H fun x H1 => ∃ a C dx fs sp, (C, sp) ∈ L ∧ x = .ref a ∧ H1 a = some (.ins C dx fs) ∧ fs.lookup m = none ∧
  t σ H1 fun vs H2 => sp (x :: (vs ++ [])) H2 Q E0
def tMethLE (L : List (Addr × Sp)) (m : Str) (EE : XE) (ta : TE) (t : TA) : TE := fun σ H Q => ta σ H fun x H1 => ∃ a C dx fs sp, (C, sp) ∈ L ∧ x = .ref a ∧ H1 a = some (.ins C dx fs) ∧ fs.lookup m = none ∧
  t σ H1 fun vs H2 => sp (x :: (vs ++ [])) H2 Q (fun c d H' => EE c d σ H')
section
variable {X : Cx} {EE : Value → Option Addr → St → Hp → Prop} {L : List (Addr × Sp)} {m : Str} {k : Nat} {ps : List Str} {o e : Expr} {es : List Expr} {ta : TE} {t : TA} {apos pos : Pos}
theorem pe_mcalL {pl : Sem Bool} (O : CalL X.prog X.w X.K X.mg X.base CX0 k m ps L) (hr : Room k X.A) (he : PE X o ta) (ha : PA X (e :: es) t)
    (hst : starEach (e :: es) X.env = (false, eval e X.env) :: starEach es X.env := by rfl) (hpl : (backTo pos (starEach es X.env)).any (·.1) = false := by rfl)
    (ht : eval (.Call (.Attribute o m apos) (e :: es) [] pos) X.env = (do
      let ov ← eval o X.env
      standAt apos.atName
      let (f, first) ← holding [ov] (getMethod ov m pl)
      callWith pos f first (backTo pos (starEach (e :: es) X.env)) (backToKw pos (keywordEach [] X.env))) := by rfl) :
    PE X (.Call (.Attribute o m apos) (e :: es) [] pos) (tMethL L m ta t) := by
  intro pins s σ H Q I h
  refine PySem.W.methodCall_KW (pl := pl) (thn (he pins s σ H _ I h) fun u s1 ⟨x, H1, I1, rx, a, C, dx, fs, sp, mem, ex, ea, l, q⟩ => ?_) ht
  subst ex
  obtain rfl : u = Value.ref a := rx
  obtain ⟨c, f, fd, F, hb, hm⟩ := O.ex _ mem
  refine getmeth_ok I1 ea c hm l ?_
  refine PySem.W.callWith_K (first := [.ref a]) (h₀ := X.base) I.ok.mod.kin hm.kp (thn (ha pos pins s1 σ H1 _ I1 q) fun us s2 ⟨vs, H2, I2, r, q2⟩ => ⟨I2.kIn, ?_⟩) hst hpl
  exact run_fn (us := .ref a :: us) (vs := .ref a :: vs) F hr hb .nil pass0 I2 (.cons rfl r) q2
theorem pe_mcalLE {pl : Sem Bool} (T : Thr X EE) (O : CalL X.prog X.w X.K X.mg X.base (CX1 X.prog X.w) k m ps L) (hr : Room k X.A) (he : PE X o ta) (ha : PA X (e :: es) t)
    (hst : starEach (e :: es) X.env = (false, eval e X.env) :: starEach es X.env := by rfl) (hpl : (backTo pos (starEach es X.env)).any (·.1) = false := by rfl)
    (ht : eval (.Call (.Attribute o m apos) (e :: es) [] pos) X.env = (do
      let ov ← eval o X.env
      standAt apos.atName
      let (f, first) ← holding [ov] (getMethod ov m pl)
      callWith pos f first (backTo pos (starEach (e :: es) X.env)) (backToKw pos (keywordEach [] X.env))) := by rfl) :
    PE X (.Call (.Attribute o m apos) (e :: es) [] pos) (tMethLE L m EE ta t) := by
  intro pins s σ H Q I h
  refine PySem.W.methodCall_KW (pl := pl) (thn (he pins s σ H _ I h) fun u s1 ⟨x, H1, I1, rx, a, C, dx, fs, sp, mem, ex, ea, l, q⟩ => ?_) ht
  subst ex
  obtain rfl : u = Value.ref a := rx
  obtain ⟨c, f, fd, F, hb, hm⟩ := O.ex _ mem
  refine getmeth_ok I1 ea c hm l ?_
  refine PySem.W.callWith_K (first := [.ref a]) (h₀ := X.base) I.ok.mod.kin hm.kp (thn (ha pos pins s1 σ H1 _ I1 q) fun us s2 ⟨vs, H2, I2, r, q2⟩ => ⟨I2.kIn, ?_⟩) hst hpl
  exact run_fnE (us := .ref a :: us) (vs := .ref a :: vs) T F hr hb I2 (.cons rfl r) q2
end
theorem rd_methL {L : List (Addr × Sp)} {m : Str} {ta : TE} {t : TA} {σ : St} {H : Hp} {Q : VK} (h : ta σ H fun x H1 => ∃ a C dx fs sp, (C, sp) ∈ L ∧ x = .ref a ∧ H1 a = some (.ins C dx fs) ∧ fs.lookup m = none ∧ t σ H1 fun vs H2 => sp (x :: (vs ++ [])) H2 Q E0) : tMethL L m ta t σ H Q := h
theorem rd_methLE {L : List (Addr × Sp)} {m : Str} {EE : XE} {ta : TE} {t : TA} {σ : St} {H : Hp} {Q : VK} (h : ta σ H fun x H1 => ∃ a C dx fs sp, (C, sp) ∈ L ∧ x = .ref a ∧ H1 a = some (.ins C dx fs) ∧ fs.lookup m = none ∧ t σ H1 fun vs H2 => sp (x :: (vs ++ [])) H2 Q (fun c d H' => EE c d σ H')) : tMethLE L m EE ta t σ H Q := h
end L2

set_option Elab.async false
set_option linter.all false
namespace L2
theorem len1 {α : Type} {us : List α} (h : us.length = 1) : ∃ a0, us = [a0] := by
  match us, h with
  | [a0], _ => exact ⟨a0, rfl⟩
theorem len2 {α : Type} {us : List α} (h : us.length = 2) : ∃ a0 a1, us = [a0, a1] := by
  match us, h with
  | [a0, a1], _ => exact ⟨a0, a1, rfl⟩
theorem len3 {α : Type} {us : List α} (h : us.length = 3) : ∃ a0 a1 a2, us = [a0, a1, a2] := by
  match us, h with
  | [a0, a1, a2], _ => exact ⟨a0, a1, a2, rfl⟩
theorem len4 {α : Type} {us : List α} (h : us.length = 4) : ∃ a0 a1 a2 a3, us = [a0, a1, a2, a3] := by
  match us, h with
  | [a0, a1, a2, a3], _ => exact ⟨a0, a1, a2, a3, rfl⟩
theorem len5 {α : Type} {us : List α} (h : us.length = 5) : ∃ a0 a1 a2 a3 a4, us = [a0, a1, a2, a3, a4] := by
  match us, h with
  | [a0, a1, a2, a3, a4], _ => exact ⟨a0, a1, a2, a3, a4, rfl⟩
end L2

set_option Elab.async false
set_option linter.all false
set_option maxRecDepth 100000
set_option maxHeartbeats 4000000
namespace L2
open PySem PySem.Spec PyProof.Rows
theorem shI3_len {a b c : Int} (ha : a.natAbs.log2 < 1920) (hb : b.natAbs.log2 < 1920) (hc : c.natAbs.log2 < 1920) : (shI [a, b, c]).length ≤ 6000 := by
  have h1 := intT_len ha
  have h2 := intT_len hb
  have h3 := intT_len hc
  unfold shI
  show (tupleText [intT a, intT b, intT c]).length ≤ 6000
  have j := PySem.join_length_add [intT a, intT b, intT c] (by simp)
  rw [PySem.piled_cons, PySem.piled_cons, PySem.piled_cons, PySem.piled_nil] at j
  unfold tupleText
  rw [strLen_append, strLen_append]
  show 1 + _ + 1 ≤ 6000
  omega
theorem rd_jt {K : PySem.W.Frag} {j : Nat} {p : Addr} {a b c : Int} {t : TJ} {out : Str} {σ : St} {H : Hp} {Q : VK} (n : Nat) (hn : out.length ≤ n) (hz : n + 6000 ≤ 100000) (hv : σ[j]? = some (some (.ref p))) (hp : SqT K H p [.int a, .int b, .int c]) (ha : a.natAbs.log2 < 1920) (hb : b.natAbs.log2 < 1920) (hc : c.natAbs.log2 < 1920)
    (h : (out ++ shI [a, b, c]).length ≤ n + 6000 → t (out ++ shI [a, b, c]) σ H Q) : jCons (tFmt K (tVar j)) t out σ H Q := by
  have l := shI3_len ha hb hc
  have e : (out ++ shI [a, b, c]).length ≤ n + 6000 := by rw [strLen_append]; omega
  refine ⟨.ref p, hv, shI [a, b, c], .tup hp (fun i hi => ?_) (fits l (by decide)), shI [a, b, c], rfl, fits e hz, h e⟩
  rcases List.mem_cons.mp hi with z | hi
  · exact z ▸ ha
  rcases List.mem_cons.mp hi with z | hi
  · exact z ▸ hb
  cases List.mem_singleton.mp hi
  exact hc
/-- the promise of an __init__ that keeps a date -/
def spInitD (K : PySem.W.Frag) (C : Addr) (f : Str) : Sp := fun vs H Q _ => ∃ (e p : Addr) (a b c : Int), vs = [.ref e, .ref p] ∧ SqT K H p [.int a, .int b, .int c] ∧ a.natAbs.log2 < 1920 ∧ b.natAbs.log2 < 1920 ∧ c.natAbs.log2 < 1920 ∧ H e = some (ExcN e (.ref C) none) ∧ ∀ d, H d = none → Q .non (upd (upd H d (.xd [(f, .ref p)])) e (ExcN e (.ref C) (some d)))
theorem sqT_new {K : PySem.W.Frag} {H : Hp} {p e : Addr} {o : HO} {xs : List V} (h : SqT K H p xs) (he : H e = none) : SqT K (upd H e o) p xs := by
  rcases h with (h | ⟨u, h⟩) | h
  · exact .inl (.inl (by rw [upd_ne (ne_of_none h he)]; exact h))
  · exact .inl (.inr ⟨u, by rw [upd_ne (ne_of_none h he)]; exact h⟩)
  · exact .inr h
theorem rd_raiseD {K : PySem.W.Frag} {C p : Addr} {a b c : Int} {f : Str} {EE : XE} {ta : TA} {D : Ends} {σ : St} {H : Hp} (hv : ∀ Q : List V → Hp → Prop, Q [.ref p] H → ta σ H Q) (hp : SqT K H p [.int a, .int b, .int c]) (ha : a.natAbs.log2 < 1920) (hb : b.natAbs.log2 < 1920) (hc : c.natAbs.log2 < 1920)
    (h : ∀ d H', Same H H' → H' d = some (.xd [(f, .ref p)]) → EE (.ref C) (some d) σ H') : tRaiseX C (spInitD K C f) EE ta D σ H := by
  refine hv _ ⟨(by show 1 ≤ sizeLine; decide), fun e he => ⟨e, p, a, b, c, rfl, sqT_new hp he, ha, hb, hc, upd_same, fun d hd => ⟨rfl, some d, upd_same, ?_⟩⟩⟩
  have de : d ≠ e := fun z => by subst z; rw [upd_same] at hd; cases hd
  have hd0 : H d = none := by rw [upd_ne de] at hd; exact hd
  refine h d _ (fun b u hb => ?_) ?_
  · rw [era_ne (ne_of_none hb he), upd_ne (ne_of_none hb he), upd_ne (ne_of_none hb hd0), upd_ne (ne_of_none hb he)]; exact hb
  · rw [era_ne de, upd_ne de, upd_same]
section
variable {X : Cx}
end
end L2

set_option Elab.async false
set_option linter.all false
set_option maxRecDepth 100000
set_option maxHeartbeats 4000000
namespace L2
open PySem PySem.Spec PyProof.Rows
section
variable {X : Cx}
end
end L2

set_option Elab.async false
set_option linter.all false
set_option maxRecDepth 100000
set_option maxHeartbeats 4000000
namespace L2
open PySem PySem.Spec PyProof.Rows
section
variable {X : Cx}
end
end L2

set_option Elab.async false
set_option linter.all false
set_option maxRecDepth 100000
set_option maxHeartbeats 4000000
namespace L2
open PySem PySem.Spec PyProof.Rows
section
variable {X : Cx}
end
end L2

set_option Elab.async false
set_option linter.all false
set_option maxRecDepth 100000
set_option maxHeartbeats 4000000
namespace L2
open PySem PySem.Spec PyProof.Rows
section
variable {X : Cx} {tg : Expr}
end
structure BE (X : Cx) (e : Expr) (te : TE) : Prop where
  out : PE X e te
structure BS (X : Cx) (st : Stmt) (t : TS) : Prop where
  out : PS X st t
section
variable {X : Cx}
theorem be {e : Expr} {te : TE} (h : PE X e te) : BE X e te := ⟨h⟩
theorem bs {st : Stmt} {t : TS} (h : PS X st t) : BS X st t := ⟨h⟩
end
end L2

set_option Elab.async false
set_option linter.all false
set_option maxRecDepth 100000
set_option maxHeartbeats 4000000
namespace L2
open PySem PySem.Spec PyProof.Rows
inductive CalVs (P : Program) (w : World) (K : PySem.W.Frag) (mg : Str → Option Value) (base : Heap) (k : Nat) : List (Str × Sp) → Prop
  | nil : CalVs P w K mg base k []
  | cons {x : Str} {ps : List Str} {sp : Sp} {L : List (Str × Sp)} : Cal P w K mg base k x ps sp → CalVs P w K mg base k L → CalVs P w K mg base k ((x, sp) :: L)
theorem CalVs.get {P : Program} {w : World} {K : PySem.W.Frag} {mg : Str → Option Value} {base : Heap} {k : Nat} {L : List (Str × Sp)} (h : CalVs P w K mg base k L) {x : Str} {sp : Sp} (hm : (x, sp) ∈ L) : ∃ ps, Cal P w K mg base k x ps sp := by
  induction h with
  | nil => cases hm
  | cons C _ ih =>
    rcases List.mem_cons.mp hm with e | e
    · injection e with e1 e2
      subst e1
      subst e2
      exact ⟨_, C⟩
    · exact ih e
section
variable {X : Cx} {pos : Pos}
end
end L2

set_option Elab.async false
set_option linter.all false
set_option maxRecDepth 100000
set_option maxHeartbeats 4000000
namespace L2
open PySem PySem.Spec PyProof.Rows
section
variable {X : Cx} {pins : List (Addr × Obj)} {σ : St} {H : Hp} {s : Shared} {h' : Heap}
end
section
variable {X : Cx}
end
section
variable {X : Cx}
end
end L2

set_option Elab.async false
set_option linter.all false
set_option maxRecDepth 100000
set_option maxHeartbeats 4000000
namespace L2
open PySem PySem.Spec PyProof.Rows
section
variable {X : Cx}
def rIsiO (K : PySem.W.Frag) : List V → Hp → VK → Prop := fun xs H Q => ∃ x c t b, xs = [x, .ref c] ∧ TyOf K H x t ∧ PySem.W.kitOne K t (.ref c) = some b ∧ Q (.bl b) H
theorem call_isiO : CallR X (.builtin "isinstance") (rIsiO X.K) := by
  intro pins s σ H xs us Q I r h
  obtain ⟨x, c, t, b, rfl, ty, e, q⟩ := h
  obtain ⟨u, w', rfl, r1, r2⟩ := vals2 r
  cases (show w' = Value.ref c from r2)
  exact isinst_ok I r1 ty e fun tk => ⟨.bl b, H, I.tok tk, rfl, q⟩
theorem rd_isiO {K : PySem.W.Frag} {x : V} {c : Addr} {t : Value} {b : Bool} {H : Hp} {Q : VK} (ty : TyOf K H x t) (e : PySem.W.kitOne K t (.ref c) = some b) (h : Q (.bl b) H) : rIsiO K [x, .ref c] H Q := ⟨x, c, t, b, rfl, ty, e, h⟩
end
end L2

set_option Elab.async false
set_option linter.all false
set_option maxRecDepth 100000
set_option maxHeartbeats 4000000
namespace L2
open PySem PySem.Spec PyProof.Rows
def lexB (op : Int → Int → Bool) (z : Bool) : List Int → List Int → Bool
  | x :: xs, y :: ys => if x = y then lexB op z xs ys else op x y
  | _, _ => z
/-- pairs of whole numbers, side by side -/
inductive Prs : List (Value × Value) → List Int → List Int → Prop
  | nil : Prs [] [] []
  | cons {zs : List (Value × Value)} {x y : Int} {t u : Tok} {xs ys : List Int} : Prs zs xs ys → Prs ((.int x t, .int y u) :: zs) (x :: xs) (y :: ys)
abbrev TupAt (h : Heap) (l : Addr) (its : Array Value) (n : Nat) (dd : Option Addr) (sl : Array (Option Value)) : Prop := h.get? l = some ⟨.type "tuple", dd, .seq its n, sl⟩

theorem int_le {prog : Program} {w : World} {A : Around} {E : Value → Shared → Prop} {s : Shared} {Q : Value → Shared → Prop} {a b : Int} {t u : Tok} (h : Q (.bool ((fun i j => decide (i ≤ j)) a b)) s) : wpAny (model prog w) A (richCompare .LtE (.int a t) (.int b u)) Q E s := PySem.P.le_int (by simpa using h)
theorem lex_le_meets {l b : Addr} {its jts : Array Value} {n m : Nat} {dd de : Option Addr} {sl sm : Array (Option Value)} {xs ys : List Int} (z : Prs (its.toList.zip jts.toList) xs ys) (hsz : its.size = jts.size) :
    Meets (Builtin.«tuple.__le__» ⟨[.ref l, .ref b], []⟩) (fun _ R s => TupAt s.heap l its n dd sl ∧ TupAt s.heap b jts m de sm ∧ R (.ok (.ret (.bool (lexB (fun i j => decide (i ≤ j)) true xs ys)))) s) := by
  refine .of_wp fun P W A0 R0 s0 h0 => ?_
  obtain ⟨H0, G0, D0, T0, O0⟩ := s0
  obtain ⟨el, eb, r0⟩ := h0
  have sub := AutoSeq1.sub_tuple_tuple
  wp_walk using wpAny_loadPart' el, wpAny_loadPart' eb, wpAny_forIn_list _ (fun zs st s1 => st.1 = none ∧ s1 = ⟨H0, G0, D0, T0, O0⟩ ∧ ∃ us vs, Prs zs us vs ∧ R0 (.ok (.ret (.bool (lexB (fun i j => decide (i ≤ j)) true us vs)))) ⟨H0, G0, D0, T0, O0⟩) _
  case turn =>
    rintro ⟨p, q⟩ zs st s1 ⟨-, rfl, us, vs, pr, r1⟩
    cases pr with
    | @cons zs x y t u us vs pr =>
      refine wpAny_bind (SeqAt.EqAt.int_int x t y u P W _ _ ?_)
      by_cases c : x = y
      · subst c
        rw [lexB, if_pos rfl] at r1
        rw [beq_self_eq_true]
        wp_walk
        exact ⟨rfl, rfl, us, vs, pr, r1⟩
      · rw [lexB, if_neg c] at r1
        rw [beq_eq_false_iff_ne.mpr c]
        wp_walk using int_le
        exact ⟨_, rfl, r1⟩
  case fin =>
    rintro ⟨o, un⟩ s1 ⟨e, rfl, us, vs, pr, r1⟩
    cases pr
    cases e
    wp_walk
    refine ⟨_, rfl, ?_⟩
    simpa [Builtin.Tuple.tupleCompareSizes, hsz, lexB] using r1
  case h => exact ⟨rfl, rfl, xs, ys, z, r0⟩
theorem rc_leT {prog : Program} {w : World} {A : Around} {E : Value → Shared → Prop} {s : Shared} {Q : Value → Shared → Prop} {l b : Addr} {its jts : Array Value} {xs ys : List Int} (hl : s.heap.IsTuple l its) (hb : s.heap.IsTuple b jts) (hu : A.units < cLine)
    (z : Prs (its.toList.zip jts.toList) xs ys) (hsz : its.size = jts.size) (h : Q (.bool (lexB (fun i j => decide (i ≤ j)) true xs ys)) s) : wpAny (model prog w) A (richCompare .LtE (.ref l) (.ref b)) Q E s := by
  obtain ⟨o1, g1, k1, n1, e1⟩ := hl
  obtain ⟨o2, g2, k2, n2, e2⟩ := hb
  obtain ⟨q1, d1, f1, w1⟩ := o1
  obtain ⟨q2, d2, f2, w2⟩ := o2
  cases k1
  cases k2
  cases e1
  cases e2
  refine richCompare_meets_room (op := .LtE) ⟨_, g1, rfl⟩ ⟨_, g2, rfl⟩ F.slot_tuple_le F.entry_tuple_le (F.args_tuple_le_2 _ _) (lex_le_meets (n := n1) (m := n2) (dd := d1) (de := d2) (sl := w1) (sm := w2) z hsz) ?_ hu
  exact ⟨g1, g2, (fun x => nomatch x), h⟩

theorem int_ge {prog : Program} {w : World} {A : Around} {E : Value → Shared → Prop} {s : Shared} {Q : Value → Shared → Prop} {a b : Int} {t u : Tok} (h : Q (.bool ((fun i j => decide (j ≤ i)) a b)) s) : wpAny (model prog w) A (richCompare .GtE (.int a t) (.int b u)) Q E s := PySem.P.ge_int (by simpa using h)
theorem lex_ge_meets {l b : Addr} {its jts : Array Value} {n m : Nat} {dd de : Option Addr} {sl sm : Array (Option Value)} {xs ys : List Int} (z : Prs (its.toList.zip jts.toList) xs ys) (hsz : its.size = jts.size) :
    Meets (Builtin.«tuple.__ge__» ⟨[.ref l, .ref b], []⟩) (fun _ R s => TupAt s.heap l its n dd sl ∧ TupAt s.heap b jts m de sm ∧ R (.ok (.ret (.bool (lexB (fun i j => decide (j ≤ i)) true xs ys)))) s) := by
  refine .of_wp fun P W A0 R0 s0 h0 => ?_
  obtain ⟨H0, G0, D0, T0, O0⟩ := s0
  obtain ⟨el, eb, r0⟩ := h0
  have sub := AutoSeq1.sub_tuple_tuple
  wp_walk using wpAny_loadPart' el, wpAny_loadPart' eb, wpAny_forIn_list _ (fun zs st s1 => st.1 = none ∧ s1 = ⟨H0, G0, D0, T0, O0⟩ ∧ ∃ us vs, Prs zs us vs ∧ R0 (.ok (.ret (.bool (lexB (fun i j => decide (j ≤ i)) true us vs)))) ⟨H0, G0, D0, T0, O0⟩) _
  case turn =>
    rintro ⟨p, q⟩ zs st s1 ⟨-, rfl, us, vs, pr, r1⟩
    cases pr with
    | @cons zs x y t u us vs pr =>
      refine wpAny_bind (SeqAt.EqAt.int_int x t y u P W _ _ ?_)
      by_cases c : x = y
      · subst c
        rw [lexB, if_pos rfl] at r1
        rw [beq_self_eq_true]
        wp_walk
        exact ⟨rfl, rfl, us, vs, pr, r1⟩
      · rw [lexB, if_neg c] at r1
        rw [beq_eq_false_iff_ne.mpr c]
        wp_walk using int_ge
        exact ⟨_, rfl, r1⟩
  case fin =>
    rintro ⟨o, un⟩ s1 ⟨e, rfl, us, vs, pr, r1⟩
    cases pr
    cases e
    wp_walk
    refine ⟨_, rfl, ?_⟩
    simpa [Builtin.Tuple.tupleCompareSizes, hsz, lexB] using r1
  case h => exact ⟨rfl, rfl, xs, ys, z, r0⟩
theorem rc_geT {prog : Program} {w : World} {A : Around} {E : Value → Shared → Prop} {s : Shared} {Q : Value → Shared → Prop} {l b : Addr} {its jts : Array Value} {xs ys : List Int} (hl : s.heap.IsTuple l its) (hb : s.heap.IsTuple b jts) (hu : A.units < cLine)
    (z : Prs (its.toList.zip jts.toList) xs ys) (hsz : its.size = jts.size) (h : Q (.bool (lexB (fun i j => decide (j ≤ i)) true xs ys)) s) : wpAny (model prog w) A (richCompare .GtE (.ref l) (.ref b)) Q E s := by
  obtain ⟨o1, g1, k1, n1, e1⟩ := hl
  obtain ⟨o2, g2, k2, n2, e2⟩ := hb
  obtain ⟨q1, d1, f1, w1⟩ := o1
  obtain ⟨q2, d2, f2, w2⟩ := o2
  cases k1
  cases k2
  cases e1
  cases e2
  refine richCompare_meets_room (op := .GtE) ⟨_, g1, rfl⟩ ⟨_, g2, rfl⟩ F.slot_tuple_ge F.entry_tuple_ge (F.args_tuple_ge_2 _ _) (lex_ge_meets (n := n1) (m := n2) (dd := d1) (de := d2) (sl := w1) (sm := w2) z hsz) ?_ hu
  exact ⟨g1, g2, (fun x => nomatch x), h⟩

theorem int_lt {prog : Program} {w : World} {A : Around} {E : Value → Shared → Prop} {s : Shared} {Q : Value → Shared → Prop} {a b : Int} {t u : Tok} (h : Q (.bool ((fun i j => decide (i < j)) a b)) s) : wpAny (model prog w) A (richCompare .Lt (.int a t) (.int b u)) Q E s := PySem.P.lt_int (by simpa using h)
theorem lex_lt_meets {l b : Addr} {its jts : Array Value} {n m : Nat} {dd de : Option Addr} {sl sm : Array (Option Value)} {xs ys : List Int} (z : Prs (its.toList.zip jts.toList) xs ys) (hsz : its.size = jts.size) :
    Meets (Builtin.«tuple.__lt__» ⟨[.ref l, .ref b], []⟩) (fun _ R s => TupAt s.heap l its n dd sl ∧ TupAt s.heap b jts m de sm ∧ R (.ok (.ret (.bool (lexB (fun i j => decide (i < j)) false xs ys)))) s) := by
  refine .of_wp fun P W A0 R0 s0 h0 => ?_
  obtain ⟨H0, G0, D0, T0, O0⟩ := s0
  obtain ⟨el, eb, r0⟩ := h0
  have sub := AutoSeq1.sub_tuple_tuple
  wp_walk using wpAny_loadPart' el, wpAny_loadPart' eb, wpAny_forIn_list _ (fun zs st s1 => st.1 = none ∧ s1 = ⟨H0, G0, D0, T0, O0⟩ ∧ ∃ us vs, Prs zs us vs ∧ R0 (.ok (.ret (.bool (lexB (fun i j => decide (i < j)) false us vs)))) ⟨H0, G0, D0, T0, O0⟩) _
  case turn =>
    rintro ⟨p, q⟩ zs st s1 ⟨-, rfl, us, vs, pr, r1⟩
    cases pr with
    | @cons zs x y t u us vs pr =>
      refine wpAny_bind (SeqAt.EqAt.int_int x t y u P W _ _ ?_)
      by_cases c : x = y
      · subst c
        rw [lexB, if_pos rfl] at r1
        rw [beq_self_eq_true]
        wp_walk
        exact ⟨rfl, rfl, us, vs, pr, r1⟩
      · rw [lexB, if_neg c] at r1
        rw [beq_eq_false_iff_ne.mpr c]
        wp_walk using int_lt
        exact ⟨_, rfl, r1⟩
  case fin =>
    rintro ⟨o, un⟩ s1 ⟨e, rfl, us, vs, pr, r1⟩
    cases pr
    cases e
    wp_walk
    refine ⟨_, rfl, ?_⟩
    simpa [Builtin.Tuple.tupleCompareSizes, hsz, lexB] using r1
  case h => exact ⟨rfl, rfl, xs, ys, z, r0⟩
theorem rc_ltT {prog : Program} {w : World} {A : Around} {E : Value → Shared → Prop} {s : Shared} {Q : Value → Shared → Prop} {l b : Addr} {its jts : Array Value} {xs ys : List Int} (hl : s.heap.IsTuple l its) (hb : s.heap.IsTuple b jts) (hu : A.units < cLine)
    (z : Prs (its.toList.zip jts.toList) xs ys) (hsz : its.size = jts.size) (h : Q (.bool (lexB (fun i j => decide (i < j)) false xs ys)) s) : wpAny (model prog w) A (richCompare .Lt (.ref l) (.ref b)) Q E s := by
  obtain ⟨o1, g1, k1, n1, e1⟩ := hl
  obtain ⟨o2, g2, k2, n2, e2⟩ := hb
  obtain ⟨q1, d1, f1, w1⟩ := o1
  obtain ⟨q2, d2, f2, w2⟩ := o2
  cases k1
  cases k2
  cases e1
  cases e2
  refine richCompare_meets_room (op := .Lt) ⟨_, g1, rfl⟩ ⟨_, g2, rfl⟩ F.slot_tuple_lt F.entry_tuple_lt (F.args_tuple_lt_2 _ _) (lex_lt_meets (n := n1) (m := n2) (dd := d1) (de := d2) (sl := w1) (sm := w2) z hsz) ?_ hu
  exact ⟨g1, g2, (fun x => nomatch x), h⟩

def rLexT (K : PySem.W.Frag) (op : Int → Int → Bool) (z : Bool) : R2 := fun x y H Q => ∃ (a b : Addr) (xs ys : List Int), x = .ref a ∧ y = .ref b ∧ SqT K H a (xs.map V.int) ∧ SqT K H b (ys.map V.int) ∧ xs.length = ys.length ∧ Q (.bl (lexB op z xs ys)) H
theorem prs_of : ∀ {xs ys : List Int} {us vs : List Value}, Vals (xs.map V.int) us → Vals (ys.map V.int) vs → xs.length = ys.length → Prs (us.zip vs) xs ys
  | [], [], _, _, .nil, .nil, _ => .nil
  | x :: xs, y :: ys, _, _, .cons r rs, .cons q qs, h => by
    obtain ⟨t, rfl⟩ := r
    obtain ⟨u, rfl⟩ := q
    exact .cons (prs_of rs qs (Nat.succ.inj h))
section
variable {X : Cx}
theorem op_leX (hu : X.A.units < cLine) : OpR X (compareOp .LtE) (rLexT X.K (fun i j => decide (i ≤ j)) true) := by
  intro pins s σ H x y v u Q I rx ry h
  obtain ⟨a, b, xs, ys, rfl, rfl, ha, hb, hl, q⟩ := h
  cases rx
  cases ry
  obtain ⟨its, r, pl, _⟩ := I.tuple ha
  obtain ⟨its', r', pl', _⟩ := I.tuple hb
  have l1 := r.length
  have l2 := r'.length
  rw [List.length_map] at l1 l2
  exact rc_leT pl pl' hu (by simpa using prs_of r r' hl) (by simp; omega) ⟨.bl _, H, I, rfl, q⟩
theorem op_geX (hu : X.A.units < cLine) : OpR X (compareOp .GtE) (rLexT X.K (fun i j => decide (j ≤ i)) true) := by
  intro pins s σ H x y v u Q I rx ry h
  obtain ⟨a, b, xs, ys, rfl, rfl, ha, hb, hl, q⟩ := h
  cases rx
  cases ry
  obtain ⟨its, r, pl, _⟩ := I.tuple ha
  obtain ⟨its', r', pl', _⟩ := I.tuple hb
  have l1 := r.length
  have l2 := r'.length
  rw [List.length_map] at l1 l2
  exact rc_geT pl pl' hu (by simpa using prs_of r r' hl) (by simp; omega) ⟨.bl _, H, I, rfl, q⟩
theorem op_ltX (hu : X.A.units < cLine) : OpR X (compareOp .Lt) (rLexT X.K (fun i j => decide (i < j)) false) := by
  intro pins s σ H x y v u Q I rx ry h
  obtain ⟨a, b, xs, ys, rfl, rfl, ha, hb, hl, q⟩ := h
  cases rx
  cases ry
  obtain ⟨its, r, pl, _⟩ := I.tuple ha
  obtain ⟨its', r', pl', _⟩ := I.tuple hb
  have l1 := r.length
  have l2 := r'.length
  rw [List.length_map] at l1 l2
  exact rc_ltT pl pl' hu (by simpa using prs_of r r' hl) (by simp; omega) ⟨.bl _, H, I, rfl, q⟩
end
/-- an __init__ that keeps a date and a day -/
def spInitG (K : PySem.W.Frag) (C : Addr) : Sp := fun vs H Q _ => ∃ (e p : Addr) (a b c n : Int), vs = [.ref e, .ref p, .int n] ∧ SqT K H p [.int a, .int b, .int c] ∧ a.natAbs.log2 < 1920 ∧ b.natAbs.log2 < 1920 ∧ c.natAbs.log2 < 1920 ∧ n.natAbs.log2 < 1920 ∧ H e = some (ExcN e (.ref C) none) ∧
  ∀ d, H d = none → Q .non (upd (upd (upd H d (.xd [("date", .ref p)])) e (ExcN e (.ref C) (some d))) d (.xd [("date", .ref p), ("day", .int n)]))
theorem rd_raiseG {K : PySem.W.Frag} {C p : Addr} {a b c n : Int} {EE : XE} {ta : TA} {D : Ends} {σ : St} {H : Hp} (hv : ∀ Q : List V → Hp → Prop, Q [.ref p, .int n] H → ta σ H Q) (hp : SqT K H p [.int a, .int b, .int c]) (ha : a.natAbs.log2 < 1920) (hb : b.natAbs.log2 < 1920) (hc : c.natAbs.log2 < 1920) (hn : n.natAbs.log2 < 1920)
    (h : ∀ d H', Same H H' → H' d = some (.xd [("date", .ref p), ("day", .int n)]) → EE (.ref C) (some d) σ H') : tRaiseX C (spInitG K C) EE ta D σ H := by
  refine hv _ ⟨(by show 2 ≤ sizeLine; decide), fun e he => ⟨e, p, a, b, c, n, rfl, sqT_new hp he, ha, hb, hc, hn, upd_same, fun d hd => ?_⟩⟩
  have de : d ≠ e := fun z => by subst z; rw [upd_same] at hd; cases hd
  have hd0 : H d = none := by rw [upd_ne de] at hd; exact hd
  refine ⟨rfl, some d, by rw [upd_ne (Ne.symm de), upd_same], ?_⟩
  refine h d _ (fun b u hb => ?_) ?_
  · rw [era_ne (ne_of_none hb he), upd_ne (ne_of_none hb hd0), upd_ne (ne_of_none hb he), upd_ne (ne_of_none hb hd0), upd_ne (ne_of_none hb he)]; exact hb
  · rw [era_ne de, upd_same]
section
variable {X : Cx}
end
end L2

set_option Elab.async false
set_option linter.all false
set_option maxRecDepth 100000
set_option maxHeartbeats 4000000
local macro_rules | `(tactic| walk_at "rd1") => `(tactic| first
  | with_reducible refine L2.rd_seq ?_ | with_reducible refine L2.rd_ret ?_ | with_reducible refine L2.rd_asg ?_ | with_reducible refine L2.rd_ifS ?_ | with_reducible refine L2.rd_next ?_ | with_reducible refine L2.rd_drop ?_
  | with_reducible refine L2.rd_op ?_ | ((with_reducible refine' L2.rd_var ?ev ?_); (case ev => exact rfl)) | with_reducible refine L2.rd_c ?_ | with_reducible refine L2.rd_un ?_ | with_reducible refine L2.rd_test ?_ | with_reducible refine L2.rd_b ?_
  | with_reducible refine L2.rd_i0 ?_ | with_reducible refine L2.rd_u ?_ | ((with_reducible refine' L2.rd_eq ?es ?_); (case es => exact rfl)) | ((with_reducible refine' L2.rd_ne ?es ?_); (case es => exact rfl))
  | with_reducible refine L2.rd_bl ?_ | with_reducible refine L2.rd_not ?_ | with_reducible refine L2.rd_and ?_ | with_reducible refine L2.rd_or ?_ | with_reducible refine L2.rd_andV ?_ | with_reducible refine L2.rd_orV ?_ | with_reducible refine L2.rd_notV ?_ | with_reducible refine L2.rd_chain ?_
  | with_reducible refine L2.rd_call ?_ | with_reducible refine L2.rd_cb ?_ | with_reducible refine L2.rd_nil ?_ | with_reducible refine L2.rd_cons ?_ | with_reducible refine L2.rd_tup ?_ | with_reducible refine L2.rd_lst ?_
  | with_reducible refine L2.rd_bm0 ?_ | with_reducible refine L2.rd_makeD ?_ | with_reducible refine L2.rd_fld ?_ | with_reducible refine L2.rd_sfld ?_ | with_reducible refine L2.rd_meth ?_ | with_reducible refine L2.rd_methL ?_ | with_reducible refine L2.rd_lr ?_ | with_reducible refine L2.rd_slice ?_ | with_reducible refine L2.rd_part ?_ | with_reducible refine L2.rd_exI ?_ | with_reducible refine L2.rd_noPart ?_ | with_reducible refine L2.rd_tru ?_ | with_reducible refine L2.rd_truI ?_ | with_reducible refine L2.rd_gsub ?_ | with_reducible refine L2.rd_bitsV ?_
  | with_reducible refine L2.rd_par ?_ | with_reducible refine L2.rd_gname ?_ | with_reducible refine L2.rd_gcons ?_ | with_reducible refine L2.rd_gnil ?_
  | ((with_reducible refine' L2.rd_i ?ec ?_); (case ec => first | ((with_reducible show L2.CPow _ _); exact ⟨by decide, by decide, by decide⟩) | ((with_reducible show L2.CDivB _ _); exact L2.cdiv_small (by decide) (by decide)) | (show (0 : Int) < _; first | decide | omega | exact L2.pow2_pos _))))
local macro_rules | `(tactic| walk_at "rd") => `(tactic| repeat walk_at "rd1")
local macro_rules | `(tactic| walk_at "fm") => `(tactic| (repeat (first | exact List.forall_mem_nil _ | refine List.forall_mem_cons.mpr ⟨by with_unfolding_all rfl, ?_⟩)))
local macro_rules | `(tactic| walk_at "rdi") => `(tactic| ((with_reducible refine' L2.rd_ixT ?hs1 ?he1 ?_); (case hs1 => first | assumption | exact L2.SqT.of (by assumption)); (case he1 => exact rfl)))
local macro_rules | `(tactic| walk_at "rdf") => `(tactic| ((with_reducible refine L2.rd_for ?_); (first | with_reducible refine L2.rd_iL ?_ | with_reducible refine L2.rd_iT ?_ | with_reducible refine L2.rd_rng1 ?_ | with_reducible refine L2.rd_rng2 ?_ | with_reducible refine L2.rd_rng3 ?_ | with_reducible refine L2.rd_rng2A ?_)))
local macro_rules | `(tactic| walk_at "rdx") => `(tactic| (repeat (first | walk_at "rd1" | with_reducible refine L2.rd_callE ?_ | with_reducible refine L2.rd_makeE ?_ | with_reducible refine L2.rd_methE ?_ | with_reducible refine L2.rd_methLE ?_ | with_reducible refine L2.rd_raise ?_ | with_reducible refine L2.rd_try ?_ | with_reducible refine L2.rd_xinit ?_ | with_reducible refine L2.rd_xf1 ?_ | with_reducible refine L2.rd_xf2 ?_ | with_reducible refine L2.rd_join ?_ | with_reducible refine L2.rd_xget ?_ | with_reducible refine L2.rd_ifE ?_)))
namespace Fw
theorem fmod_small (r d : Int) (hd : d ≠ 0) : 0 ≤ r.fmod d * d ∧ (r.fmod d).natAbs < d.natAbs := by
  rcases (by omega : 0 < d ∨ d < 0) with h | h
  · have a := Int.fmod_nonneg_of_pos r h
    have b := Int.fmod_lt_of_pos r h
    exact ⟨Int.mul_nonneg a (Int.le_of_lt h), by omega⟩
  · have e : r.fmod d = -((-r).fmod (-d)) := by
      rw [Int.fmod_def, Int.fmod_def, Int.neg_fdiv_neg, Int.neg_mul]; omega
    have a := Int.fmod_nonneg_of_pos (-r) (b := -d) (by omega)
    have b := Int.fmod_lt_of_pos (-r) (b := -d) (by omega)
    rw [e]
    generalize (-r).fmod (-d) = z at *
    refine ⟨?_, by omega⟩
    have := Int.mul_nonneg a (show 0 ≤ -d by omega)
    rw [Int.neg_mul]; rw [Int.mul_neg] at this; omega

structure EqI (a b u v r u' v' r' : Int) : Prop where
  e1 : u * a + v * b = r
  e2 : u' * a + v' * b = r'
  g : Int.gcd r r' = Int.gcd a b
  ph : (u = 1 ∧ v = 0 ∧ r = a ∧ u' = 0 ∧ v' = 1 ∧ r' = b) ∨
    (b ≠ 0 ∧ r ≠ 0 ∧ 0 ≤ r' * r ∧ r.natAbs ≤ b.natAbs ∧ r'.natAbs ≤ b.natAbs ∧ u'.natAbs * r.natAbs + u.natAbs * r'.natAbs ≤ b.natAbs ∧ u.natAbs ≤ b.natAbs + 1)

theorem EqI.start (a b : Int) : EqI a b 1 0 a 0 1 b := ⟨by omega, by omega, rfl, .inl ⟨rfl, rfl, rfl, rfl, rfl, rfl⟩⟩

theorem natAbs_sub_mul (u q x : Int) : (u - q * x).natAbs ≤ u.natAbs + q.natAbs * x.natAbs := by
  have h := Int.natAbs_sub_le u (q * x)
  rw [Int.natAbs_mul] at h
  exact h

theorem same_sign_quot {r d : Int} (hd : d ≠ 0) (hs : 0 ≤ d * r) : (r - r.fdiv d * d).natAbs + (r.fdiv d).natAbs * d.natAbs = r.natAbs := by
  have e : r.fmod d + r.fdiv d * d = r := Int.fmod_add_fdiv_mul r d
  have e2 : r - r.fdiv d * d = r.fmod d := by omega
  rw [e2, ← Int.natAbs_mul]
  have fs := fmod_small r d hd
  rcases (by omega : 0 < d ∨ d < 0) with h | h
  · have r0 : 0 ≤ r := by
      rcases (by omega : 0 ≤ r ∨ r < 0) with z | z
      · exact z
      · have := Int.mul_neg_of_pos_of_neg h z; omega
    have q0 : 0 ≤ r.fdiv d := Int.fdiv_nonneg r0 (Int.le_of_lt h)
    have a := Int.fmod_nonneg_of_pos r h
    have p := Int.mul_nonneg q0 (Int.le_of_lt h)
    omega
  · have r0 : r ≤ 0 := by
      rcases (by omega : r ≤ 0 ∨ 0 < r) with z | z
      · exact z
      · have := Int.mul_neg_of_neg_of_pos h z; omega
    have q0 : 0 ≤ r.fdiv d := Int.fdiv_nonneg_of_nonpos_of_nonpos r0 (Int.le_of_lt h)
    have a : r.fmod d ≤ 0 := by
      rcases (by omega : r.fmod d ≤ 0 ∨ 0 < r.fmod d) with z | z
      · exact z
      · have := Int.mul_neg_of_pos_of_neg z h; omega
    have p := Int.mul_nonneg q0 (show 0 ≤ -d by omega)
    rw [Int.mul_neg] at p
    omega

theorem EqI.step {a b u v r u' v' r' : Int} (I : EqI a b u v r u' v' r') (h : r' ≠ 0) :
    EqI a b u' v' r' (u - r.fdiv r' * u') (v - r.fdiv r' * v') (r - r.fdiv r' * r') ∧ (r - r.fdiv r' * r').natAbs < r'.natAbs := by
  have e : r.fmod r' + r.fdiv r' * r' = r := Int.fmod_add_fdiv_mul r r'
  have e2 : r - r.fdiv r' * r' = r.fmod r' := by omega
  have fs := fmod_small r r' h
  refine ⟨⟨I.e2, ?_, ?_, ?_⟩, by rw [e2]; exact fs.2⟩
  · have := I.e1
    have := I.e2
    grind
  · rw [Int.gcd_sub_mul_right_right, Int.gcd_comm]
    exact I.g
  · right
    rcases I.ph with ⟨h1, h2, h3, h4, h5, h6⟩ | ⟨hb, hr, hs, l1, l2, l3, l4⟩
    · subst h1 h2 h3 h4 h5 h6
      refine ⟨h, h, by rw [e2]; exact fs.1, Nat.le_refl _, by rw [e2]; omega, ?_, by simp⟩
      simp
    · have q := same_sign_quot h hs
      refine ⟨hb, h, by rw [e2]; exact fs.1, l2, by rw [e2]; omega, ?_, ?_⟩
      · have m := natAbs_sub_mul u (r.fdiv r') u'
        generalize (r - r.fdiv r' * r').natAbs = A at *
        generalize (u - r.fdiv r' * u').natAbs = B at *
        generalize (r.fdiv r').natAbs = C at *
        have k1 : B * r'.natAbs ≤ (u.natAbs + C * u'.natAbs) * r'.natAbs := Nat.mul_le_mul_right _ m
        have k2 : (u.natAbs + C * u'.natAbs) * r'.natAbs + u'.natAbs * A = u.natAbs * r'.natAbs + u'.natAbs * (A + C * r'.natAbs) := by grind
        rw [q] at k2
        omega
      · have : u'.natAbs * 1 ≤ u'.natAbs * r.natAbs := Nat.mul_le_mul_left _ (by omega)
        omega

theorem v_bound {a b u v r : Int} (hb : b ≠ 0) (e : u * a + v * b = r) (l1 : r.natAbs ≤ b.natAbs) (l4 : u.natAbs ≤ b.natAbs + 1) : v.natAbs ≤ 1 + 2 * a.natAbs := by
  have e1 : v * b = r - u * a := by omega
  have h := natAbs_sub_mul r u a
  rw [← e1, Int.natAbs_mul] at h
  have hb' : 0 < b.natAbs := by omega
  have k : u.natAbs * a.natAbs ≤ (b.natAbs + 1) * a.natAbs := Nat.mul_le_mul_right _ l4
  have k2 : a.natAbs * 1 ≤ a.natAbs * b.natAbs := Nat.mul_le_mul_left _ hb'
  have k3 : v.natAbs * b.natAbs ≤ (1 + 2 * a.natAbs) * b.natAbs := by grind
  exact Nat.le_of_mul_le_mul_right k3 hb'

theorem EqI.bounds {a b u v r u' v' r' : Int} (I : EqI a b u v r u' v' r') :
    u.natAbs ≤ b.natAbs + 1 ∧ v.natAbs ≤ 1 + 2 * a.natAbs ∧ u'.natAbs ≤ b.natAbs + 1 ∧ v'.natAbs ≤ 1 + 2 * a.natAbs ∧ r.natAbs ≤ a.natAbs + b.natAbs ∧ r'.natAbs ≤ b.natAbs := by
  rcases I.ph with ⟨h1, h2, h3, h4, h5, h6⟩ | ⟨hb, hr, hs, l1, l2, l3, l4⟩
  · subst h1 h2 h3 h4 h5 h6
    refine ⟨by simp, by simp, by simp, by simp, by omega, by omega⟩
  · have : u'.natAbs * 1 ≤ u'.natAbs * r.natAbs := Nat.mul_le_mul_left _ (by omega)
    have lu : u'.natAbs ≤ b.natAbs + 1 := by omega
    exact ⟨l4, v_bound hb I.e1 l1 l4, lu, v_bound hb I.e2 l2 lu, by omega, l2⟩

theorem quot_bound {r d : Int} (hd : d ≠ 0) : (r.fdiv d).natAbs ≤ r.natAbs + 1 := by
  have e : r.fmod d + r.fdiv d * d = r := Int.fmod_add_fdiv_mul r d
  have fs := (fmod_small r d hd).2
  have h : (r.fdiv d * d).natAbs ≤ r.natAbs + (r.fmod d).natAbs := by omega
  rw [Int.natAbs_mul] at h
  have d1 : 1 ≤ d.natAbs := by omega
  generalize (r.fdiv d).natAbs = x at *
  generalize d.natAbs = y at *
  generalize r.natAbs = z at *
  rcases (by omega : x ≤ 1 ∨ 2 ≤ x) with c | c
  · omega
  · obtain ⟨k, rfl⟩ : ∃ k, x = k + 1 := ⟨x - 1, by omega⟩
    have : (k + 1) * y = k * y + y := Nat.succ_mul k y
    have : k * 1 ≤ k * y := Nat.mul_le_mul_left k d1
    omega
/-- what an equation tells -/
structure Eqn (a b u v g : Int) : Prop where
  eq : u * a + v * b = g
  gd : g = (Int.gcd a b : Int)
  bu : u.natAbs ≤ b.natAbs + 1
  bv : v.natAbs ≤ 1 + 2 * a.natAbs

theorem EqI.done {a b u v r u' v' : Int} (I : EqI a b u v r u' v' 0) : (r < 0 → Eqn a b (-u) (-v) (-r)) ∧ (¬ r < 0 → Eqn a b u v r) := by
  have g := I.g
  rw [Int.gcd_zero_right] at g
  have B := I.bounds
  refine ⟨fun h => ⟨?_, by omega, by omega, by omega⟩, fun h => ⟨I.e1, by omega, B.1, B.2.1⟩⟩
  have := I.e1
  rw [Int.neg_mul, Int.neg_mul]; omega
end Fw

namespace Fw
theorem gcd_pos {a b : Int} (ha : 0 < a) : 0 < (Int.gcd a b : Int) := by
  have : Int.gcd a b ≠ 0 := fun z => by
    have := Int.eq_zero_of_gcd_eq_zero_left z
    omega
  omega
theorem gcd_le {a b : Int} (ha : 0 < a) : (Int.gcd a b : Int) ≤ a := Int.le_of_dvd ha (Int.gcd_dvd_left ..)
/-- a // g * b -/
def lcmI (a b : Int) : Int := a / (Int.gcd a b : Int) * b
theorem lcmI_facts {a b : Int} (ha : 0 < a) (hb : 0 < b) :
    0 < lcmI a b ∧ a ∣ lcmI a b ∧ b ∣ lcmI a b ∧ lcmI a b * (Int.gcd a b : Int) = a * b ∧ (∀ t, a ∣ t → b ∣ t → lcmI a b ∣ t) ∧ lcmI a b = (Int.lcm a b : Int) := by
  have gp := gcd_pos (b := b) ha
  obtain ⟨x, hx⟩ : (Int.gcd a b : Int) ∣ a := Int.gcd_dvd_left ..
  obtain ⟨y, hy⟩ : (Int.gcd a b : Int) ∣ b := Int.gcd_dvd_right ..
  have e1 : a / (Int.gcd a b : Int) = x := by
    have gne : (Int.gcd a b : Int) ≠ 0 := by omega
    generalize hg : (Int.gcd a b : Int) = g at *
    rw [hx]
    exact Int.mul_ediv_cancel_left x gne
  have e : lcmI a b = x * b := by unfold lcmI; rw [e1]
  have pr : lcmI a b * (Int.gcd a b : Int) = a * b := by rw [e]; conv => rhs; rw [hx]
                                                         grind
  have pl : (Int.lcm a b : Int) * (Int.gcd a b : Int) = a * b := by
    have h := Int.gcd_mul_lcm a b
    have h2 : ((Int.gcd a b * Int.lcm a b : Nat) : Int) = ((a.natAbs * b.natAbs : Nat) : Int) := by rw [h]
    rw [Int.natCast_mul, Int.natCast_mul, Int.natAbs_of_nonneg (Int.le_of_lt ha), Int.natAbs_of_nonneg (Int.le_of_lt hb)] at h2
    rw [Int.mul_comm]; exact h2
  have el : lcmI a b = (Int.lcm a b : Int) := Int.eq_of_mul_eq_mul_right (by omega : (Int.gcd a b : Int) ≠ 0) (pr.trans pl.symm)
  refine ⟨?_, ?_, ?_, pr, ?_, el⟩
  · have : 0 < lcmI a b * (Int.gcd a b : Int) := by rw [pr]; exact Int.mul_pos ha hb
    exact Int.pos_of_mul_pos_left this gp
  · rw [el]; exact Int.dvd_lcm_left ..
  · rw [el]; exact Int.dvd_lcm_right ..
  · intro t h1 h2; rw [el]; exact Int.coe_lcm_dvd h1 h2
theorem lcmI_le {a b : Int} (ha : 0 < a) (hb : 0 < b) : lcmI a b ≤ a * b := by
  have f := lcmI_facts ha hb
  have gp := gcd_pos (b := b) ha
  have h : lcmI a b * 1 ≤ lcmI a b * (Int.gcd a b : Int) := Int.mul_le_mul_of_nonneg_left (by omega) (Int.le_of_lt f.1)
  rw [f.2.2.2.1] at h; omega
end Fw

namespace Fw
def On (n : Int) (b : Nat) (d : Int) : Bool := b.testBit (d % n).toNat
theorem bits_ext {w b c : Nat} (hb : b < 2 ^ w) (hc : c < 2 ^ w) (h : ∀ i, i < w → b.testBit i = c.testBit i) : b = c := by
  refine Nat.eq_of_testBit_eq fun i => ?_
  by_cases hi : i < w
  · exact h i hi
  · have p : 2 ^ w ≤ 2 ^ i := Nat.pow_le_pow_right (by decide) (by omega)
    rw [Nat.testBit_lt_two_pow (by omega), Nat.testBit_lt_two_pow (by omega)]
theorem high {n b i : Nat} (hb : b < 2 ^ n) (h : n ≤ i) : b.testBit i = false := by
  have p : 2 ^ n ≤ 2 ^ i := Nat.pow_le_pow_right (by decide) h
  exact Nat.testBit_lt_two_pow (by omega)
structure Strt (n b w c : Nat) : Prop where
  lt : c < 2 ^ w
  bit : ∀ i, i < w → c.testBit i = b.testBit (i % n)
theorem Strt.start {n b : Nat} (h : b < 2 ^ n) : Strt n b n b := ⟨h, fun i hi => by rw [Nat.mod_eq_of_lt hi]⟩
theorem Strt.uniq {n b w c c' : Nat} (S : Strt n b w c) (S' : Strt n b w c') : c = c' := bits_ext S.lt S'.lt fun i hi => by rw [S.bit i hi, S'.bit i hi]
theorem Strt.on {n m : Int} {b c : Nat} (hn : 0 < n) (hm : 0 < m) (hd : n ∣ m) (S : Strt n.toNat b m.toNat c) (d : Int) : On m c d = On n b d := by
  unfold On
  have h1 := Int.emod_nonneg d (show m ≠ 0 by omega)
  have h2 := Int.emod_lt_of_pos d hm
  rw [S.bit _ (by omega)]
  congr 1
  have e : (d % m) % n = d % n := Int.emod_emod_of_dvd d hd
  have h3 := Int.emod_nonneg d (show n ≠ 0 by omega)
  have k : (((d % m).toNat % n.toNat : Nat) : Int) = d % m % n := by
    rw [Int.natCast_emod]
    have a1 : ((d % m).toNat : Int) = d % m := by omega
    have a2 : (n.toNat : Int) = n := by omega
    rw [a1, a2]
  rw [e] at k
  omega
end Fw

namespace Fw
abbrev Tm := Int × Int × Int × Int
structure OkT (t : Tm) : Prop where
  sg : t.1 = 1 ∨ t.1 = -1
  n0 : 1 ≤ t.2.2.2
  n1 : t.2.2.2 ≤ 1000
  a0 : 0 ≤ t.2.1
  a1 : t.2.1 ≤ t.2.2.2
  b0 : 0 ≤ t.2.2.1
  b1 : t.2.2.1 < t.2.2.2
/-- the term is on in k -/
def onT (t : Tm) (k : Int) : Bool := decide (t.2.2.2 ≤ (t.2.1 * k + t.2.2.1) % t.2.2.2 + t.2.1)
/-- counted up to k -/
def ctT (t : Tm) (k : Int) : Int := (t.2.1 * k + t.2.2.1) / t.2.2.2
def SU (ts : List Tm) (k : Int) : Int := (ts.map fun t => t.1 * ctT t k).sum
def UP (base : Int) (ts : List Tm) (k : Int) : Int := base * k + SU ts k
def ONS (ts : List Tm) (k : Int) : Int := ((ts.filter fun t => onT t k).map fun t => t.1).sum
def AT (base : Int) (ts : List Tm) (k : Int) : Int := base + ONS ts k
def falls (ts : List Tm) : Int := ((ts.filter fun t => decide (t.1 = -1)).length : Int)
theorem ct_step {t : Tm} (h : OkT t) (k : Int) : ctT t (k + 1) = ctT t k + (if onT t k = true then 1 else 0) := by
  unfold ctT onT
  obtain ⟨s, a, b, n⟩ := t
  have n0 := h.n0
  have a0 := h.a0
  have a1 := h.a1
  dsimp only at n0 a0 a1 ⊢
  have e : a * (k + 1) + b = a * k + b + a := by rw [Int.mul_add, Int.mul_one]; omega
  rw [e]
  generalize a * k + b = y
  have q := Int.mul_ediv_add_emod y n
  have r0 := Int.emod_nonneg y (show n ≠ 0 by omega)
  have r1 := Int.emod_lt_of_pos y (show 0 < n by omega)
  by_cases c : n ≤ y % n + a
  · rw [decide_eq_true c, if_pos rfl]
    have h : y + a = n * (y / n + 1) + (y % n + a - n) := by rw [Int.mul_add, Int.mul_one]; omega
    conv => lhs; rw [h]
    rw [Int.mul_add_ediv_left _ _ (by omega), Int.ediv_eq_zero_of_lt (a := y % n + a - n) (b := n) (by omega) (by omega)]
    omega
  · rw [decide_eq_false c, if_neg Bool.false_ne_true]
    have h : y + a = n * (y / n) + (y % n + a) := by omega
    conv => lhs; rw [h]
    rw [Int.mul_add_ediv_left _ _ (by omega), Int.ediv_eq_zero_of_lt (a := y % n + a) (b := n) (by omega) (by omega)]
theorem ct_zero {t : Tm} (h : OkT t) : ctT t 0 = 0 := by
  unfold ctT
  rw [Int.mul_zero, Int.zero_add]
  exact Int.ediv_eq_zero_of_lt h.b0 h.b1
theorem SU_step : ∀ {ts : List Tm} (_ : ∀ t ∈ ts, OkT t) (k : Int), SU ts (k + 1) = SU ts k + ONS ts k
  | [], _, k => rfl
  | t :: ts, h, k => by
    have ih := SU_step (ts := ts) (fun x hx => h x (List.mem_cons_of_mem _ hx)) k
    have s := ct_step (h t List.mem_cons_self) k
    unfold SU ONS at *
    rw [List.map_cons, List.map_cons, List.sum_cons, List.sum_cons, ih, s, List.filter_cons]
    by_cases c : onT t k = true
    · rw [if_pos c, if_pos c, List.map_cons, List.sum_cons, Int.mul_add, Int.mul_one]
      omega
    · rw [if_neg c, if_neg c, Int.add_zero]
      omega
theorem SU_zero : ∀ {ts : List Tm} (_ : ∀ t ∈ ts, OkT t), SU ts 0 = 0
  | [], _ => rfl
  | t :: ts, h => by
    have ih := SU_zero (ts := ts) (fun x hx => h x (List.mem_cons_of_mem _ hx))
    unfold SU at *
    rw [List.map_cons, List.sum_cons, ih, ct_zero (h t List.mem_cons_self)]
    simp
theorem ONS_low : ∀ {ts : List Tm} (_ : ∀ t ∈ ts, OkT t) (k : Int), -falls ts ≤ ONS ts k
  | [], _, k => by show (-((0 : Nat) : Int)) ≤ 0; omega
  | t :: ts, h, k => by
    have ih := ONS_low (ts := ts) (fun x hx => h x (List.mem_cons_of_mem _ hx)) k
    have sg := (h t List.mem_cons_self).sg
    unfold falls ONS at *
    rw [List.filter_cons, List.filter_cons]
    by_cases c : onT t k = true
    · rw [if_pos c, List.map_cons, List.sum_cons]
      rcases sg with z | z
      · rw [if_neg (by rw [decide_eq_true_eq]; omega)]
        omega
      · rw [if_pos (decide_eq_true z), List.length_cons]
        omega
    · rw [if_neg c]
      split
      · rw [List.length_cons]
        omega
      · omega
theorem UP_step {base : Int} {ts : List Tm} (h : ∀ t ∈ ts, OkT t) (k : Int) : UP base ts (k + 1) = UP base ts k + AT base ts k := by
  unfold UP AT
  rw [SU_step h, Int.mul_add, Int.mul_one]
  omega
theorem UP_zero {base : Int} {ts : List Tm} (h : ∀ t ∈ ts, OkT t) : UP base ts 0 = 0 := by
  unfold UP
  rw [SU_zero h, Int.mul_zero]
  rfl
theorem UP_mono {base : Int} {ts : List Tm} (h : ∀ t ∈ ts, OkT t) (hf : falls ts ≤ base) {j k : Int} (jk : j ≤ k) : UP base ts j ≤ UP base ts k := by
  have : ∀ m : Nat, UP base ts j ≤ UP base ts (j + (m : Int)) := by
    intro m
    induction m with
    | zero => simp
    | succ m ih =>
      have e := UP_step (base := base) h (j + (m : Int))
      have l := ONS_low h (j + (m : Int))
      unfold AT at e
      rw [show j + ((m + 1 : Nat) : Int) = j + (m : Int) + 1 by omega, e]
      omega
  have := this (k - j).toNat
  rwa [show j + ((k - j).toNat : Int) = k by omega] at this
theorem ct_per {t : Tm} (h : OkT t) {P : Int} (hd : t.2.2.2 ∣ P) (k q : Int) : ctT t (k + P * q) = ctT t k + q * ctT t P := by
  have n0 := h.n0
  obtain ⟨c, rfl⟩ := hd
  unfold ctT
  obtain ⟨s, a, b, n⟩ := t
  dsimp only at n0 ⊢
  have b0 := h.b0
  have b1 := h.b1
  dsimp only at b0 b1
  have e1 : a * (k + n * c * q) + b = a * k + b + n * (a * (c * q)) := by
    rw [Int.mul_add, show a * (n * c * q) = n * (a * (c * q)) by rw [Int.mul_assoc, Int.mul_left_comm]]
    omega
  have e2 : a * (n * c) + b = b + n * (a * c) := by rw [Int.mul_left_comm]; omega
  rw [e1, e2, Int.add_mul_ediv_left _ _ (by omega), Int.add_mul_ediv_left _ _ (by omega), Int.ediv_eq_zero_of_lt b0 b1, Int.zero_add]
  congr 1
  rw [Int.mul_left_comm q a c, Int.mul_comm q c]
theorem SU_per : ∀ {ts : List Tm} (_ : ∀ t ∈ ts, OkT t) {P : Int} (_ : ∀ t ∈ ts, t.2.2.2 ∣ P) (k q : Int), SU ts (k + P * q) = SU ts k + q * SU ts P
  | [], _, P, _, k, q => by unfold SU; simp
  | t :: ts, h, P, hd, k, q => by
    have ih := SU_per (ts := ts) (fun x hx => h x (List.mem_cons_of_mem _ hx)) (P := P) (fun x hx => hd x (List.mem_cons_of_mem _ hx)) k q
    have s := ct_per (h t List.mem_cons_self) (hd t List.mem_cons_self) k q
    unfold SU at *
    rw [List.map_cons, List.map_cons, List.map_cons, List.sum_cons, List.sum_cons, List.sum_cons, ih, s, Int.mul_add, Int.mul_add, Int.mul_left_comm t.1 q]
    omega
theorem UP_per {base : Int} {ts : List Tm} (h : ∀ t ∈ ts, OkT t) {P : Int} (hd : ∀ t ∈ ts, t.2.2.2 ∣ P) (k q : Int) : UP base ts (k + P * q) = UP base ts k + q * UP base ts P := by
  unfold UP
  rw [SU_per h hd, Int.mul_add, Int.mul_add, show base * (P * q) = q * (base * P) by rw [← Int.mul_assoc, Int.mul_comm]]
  omega
theorem ct_le {t : Tm} (h : OkT t) {k : Int} (k0 : 0 ≤ k) : 0 ≤ ctT t k ∧ ctT t k ≤ k := by
  have n0 := h.n0
  have a0 := h.a0
  have b0 := h.b0
  have b1 := h.b1
  have p0 : 0 ≤ t.2.1 * k := Int.mul_nonneg a0 k0
  have p1 : t.2.1 * k ≤ t.2.2.2 * k := Int.mul_le_mul_of_nonneg_right h.a1 k0
  unfold ctT
  refine ⟨Int.ediv_nonneg (by omega) (by omega), ?_⟩
  have : (t.2.1 * k + t.2.2.1) / t.2.2.2 < k + 1 := by
    rw [Int.ediv_lt_iff_lt_mul (by omega), Int.add_mul, Int.one_mul, Int.mul_comm k]
    omega
  omega
theorem SU_le : ∀ {ts : List Tm} (_ : ∀ t ∈ ts, OkT t) {k : Int} (_ : 0 ≤ k), -((ts.length : Int) * k) ≤ SU ts k ∧ SU ts k ≤ (ts.length : Int) * k
  | [], _, k, _ => by unfold SU; simp
  | t :: ts, h, k, k0 => by
    have ih := SU_le (ts := ts) (fun x hx => h x (List.mem_cons_of_mem _ hx)) k0
    have c := ct_le (h t List.mem_cons_self) k0
    have sg := (h t List.mem_cons_self).sg
    unfold SU at *
    rw [List.map_cons, List.sum_cons, List.length_cons, Int.natCast_add, Int.add_mul]
    have e1 : ((1 : Nat) : Int) * k = k := by simp
    rcases sg with z | z
    · rw [z, Int.one_mul]
      omega
    · rw [z, show (-1 : Int) * ctT t k = -ctT t k by omega]
      omega
/-- the least number that the n of all terms divide -/
def PER (ts : List Tm) : Int := ts.foldl (fun p t => lcmI p t.2.2.2) 1
end Fw

namespace Fw
theorem UP_pos {base : Int} {ts : List Tm} (h : ∀ t ∈ ts, OkT t) (hf : falls ts < base) {P : Int} (P0 : 0 < P) : 0 < UP base ts P := by
  have m := UP_mono h (Int.le_refl (falls ts)) (show (0 : Int) ≤ P by omega)
  rw [UP_zero h] at m
  unfold UP at *
  have : (falls ts + 1) * P ≤ base * P := Int.mul_le_mul_of_nonneg_right (by omega) (by omega)
  rw [Int.add_mul, Int.one_mul] at this
  omega
theorem ct_neg {t : Tm} (h : OkT t) {k : Int} (k0 : k ≤ 0) : k ≤ ctT t k ∧ ctT t k ≤ 0 := by
  have n0 := h.n0
  have a0 := h.a0
  have b0 := h.b0
  have b1 := h.b1
  have p0 : t.2.1 * k ≤ 0 := Int.mul_nonpos_of_nonneg_of_nonpos a0 k0
  have p1 : t.2.2.2 * k ≤ t.2.1 * k := Int.mul_le_mul_of_nonpos_right h.a1 k0
  unfold ctT
  constructor
  · rw [Int.le_ediv_iff_mul_le (by omega), Int.mul_comm]
    omega
  · have : (t.2.1 * k + t.2.2.1) / t.2.2.2 < 1 := by
      rw [Int.ediv_lt_iff_lt_mul (by omega), Int.one_mul]
      omega
    omega
theorem SU_neg : ∀ {ts : List Tm} (_ : ∀ t ∈ ts, OkT t) {k : Int} (_ : k ≤ 0), (ts.length : Int) * k ≤ SU ts k ∧ SU ts k ≤ -((ts.length : Int) * k)
  | [], _, k, _ => by unfold SU; simp
  | t :: ts, h, k, k0 => by
    have ih := SU_neg (ts := ts) (fun x hx => h x (List.mem_cons_of_mem _ hx)) k0
    have c := ct_neg (h t List.mem_cons_self) k0
    have sg := (h t List.mem_cons_self).sg
    unfold SU at *
    rw [List.map_cons, List.sum_cons, List.length_cons, Int.natCast_add, Int.add_mul]
    have e1 : ((1 : Nat) : Int) * k = k := by simp
    rcases sg with z | z
    · rw [z, Int.one_mul]
      omega
    · rw [z, show (-1 : Int) * ctT t k = -ctT t k by omega]
      omega
theorem UP_abs {b : Int} {ts : List Tm} (h : ∀ t ∈ ts, OkT t) (b0 : 0 ≤ b) (b1 : b ≤ 20000) (few : ts.length ≤ 6) {k K : Int} (h0 : -K ≤ k) (h1 : k ≤ K) : -(20006 * K) ≤ UP b ts k ∧ UP b ts k ≤ 20006 * K := by
  unfold UP
  rcases Int.lt_or_le k 0 with c | c
  · obtain ⟨s1, s2⟩ := SU_neg h (show k ≤ 0 by omega)
    have m1 : 20000 * k ≤ b * k := Int.mul_le_mul_of_nonpos_right b1 (by omega)
    have m2 : b * k ≤ 0 := Int.mul_nonpos_of_nonneg_of_nonpos b0 (by omega)
    have m3 : 6 * k ≤ (ts.length : Int) * k := Int.mul_le_mul_of_nonpos_right (by omega) (by omega)
    omega
  · obtain ⟨s1, s2⟩ := SU_le h c
    have m1 : b * k ≤ 20000 * k := Int.mul_le_mul_of_nonneg_right b1 c
    have m2 : 0 ≤ b * k := Int.mul_nonneg b0 c
    have m3 : (ts.length : Int) * k ≤ 6 * k := Int.mul_le_mul_of_nonneg_right (by omega) c
    omega
end Fw

namespace Fw
theorem AT_high {ts : List Tm} (h : ∀ t ∈ ts, OkT t) (k : Int) : ONS ts k ≤ (ts.length : Int) := by
  unfold ONS
  induction ts with
  | nil => exact Int.le_refl 0
  | cons t ts ih =>
    have i := ih fun x hx => h x (List.mem_cons_of_mem _ hx)
    have sg := (h t List.mem_cons_self).sg
    rw [List.filter_cons, List.length_cons]
    split
    · rw [List.map_cons, List.sum_cons]
      omega
    · omega
end Fw

namespace Fw
theorem sum_le : ∀ {ls : List Int}, (∀ n ∈ ls, 0 ≤ n ∧ n ≤ 1000) → 0 ≤ ls.sum ∧ ls.sum ≤ 1000 * (ls.length : Int)
  | [], _ => by simp
  | a :: ls, h => by
    have i := sum_le (ls := ls) fun n hn => h n (List.mem_cons_of_mem _ hn)
    have := h a List.mem_cons_self
    rw [List.sum_cons, List.length_cons]
    omega
theorem sum_set : ∀ {ls : List Int} {i : Nat} {e : Int}, i < ls.length → (ls.set i (ls.getD i 0 + e)).sum = ls.sum + e
  | [], i, e, h => by simp at h
  | a :: ls, 0, e, _ => by
    show (a + e) + ls.sum = (a :: ls).sum + e
    rw [List.sum_cons]
    omega
  | a :: ls, i + 1, e, h => by
    have ih := sum_set (ls := ls) (i := i) (e := e) (by simpa using h)
    show a + (ls.set i (ls.getD i 0 + e)).sum = (a :: ls).sum + e
    rw [ih, List.sum_cons]
    omega
def LENS (ls : List Int) (lp : Int) (ts : List Tm) (y : Int) : List Int := ls.set (lp - 1).toNat (ls.getD (lp - 1).toNat 0 + ONS ts y)
structure GoodS (ls : List Int) (lp : Int) (ts : List Tm) : Prop where
  l0 : 1 ≤ ls.length
  l1 : ls.length ≤ 20
  m : ∀ n ∈ ls, 0 ≤ n ∧ n ≤ 1000
  p0 : 1 ≤ lp
  p1 : lp ≤ (ls.length : Int)
  f0 : falls ts ≤ ls.getD (lp - 1).toNat 0
  f1 : falls ts < ls.sum
  ok : ∀ t ∈ ts, OkT t
  few : ts.length ≤ 6
theorem GoodS.sum {ls : List Int} {lp : Int} {ts : List Tm} (g : GoodS ls lp ts) : 0 ≤ ls.sum ∧ ls.sum ≤ 20000 := by
  have := sum_le g.m
  have := g.l1
  omega
theorem LENS_sum {ls : List Int} {lp : Int} {ts : List Tm} (g : GoodS ls lp ts) (y : Int) : (LENS ls lp ts y).sum = AT ls.sum ts y := by
  have p0 := g.p0
  have p1 := g.p1
  unfold LENS AT
  exact sum_set (by omega)
theorem getD_mem' {ls : List Int} {i : Nat} (h : i < ls.length) : ls.getD i 0 ∈ ls := by
  rw [List.getD_eq_getElem?_getD, List.getElem?_eq_getElem h]
  exact List.getElem_mem h
theorem LENS_mem {ls : List Int} {lp : Int} {ts : List Tm} (g : GoodS ls lp ts) (y : Int) : ∀ n ∈ LENS ls lp ts y, 0 ≤ n ∧ n ≤ 1006 := by
  intro n hn
  have p0 := g.p0
  have p1 := g.p1
  unfold LENS at hn
  rcases List.mem_or_eq_of_mem_set hn with z | z
  · have := g.m n z
    omega
  · have := g.m _ (getD_mem' (ls := ls) (i := (lp - 1).toNat) (by omega))
    have l := ONS_low g.ok y
    have u := AT_high g.ok y
    have := g.few
    have := g.f0
    omega
theorem LENS_len {ls : List Int} {lp : Int} {ts : List Tm} {y : Int} : (LENS ls lp ts y).length = ls.length := by
  unfold LENS
  rw [List.length_set]
end Fw

namespace Fw
theorem UP_less {b : Int} {ts : List Tm} {k : Int} : UP b ts k = UP (b - 1) ts k + k := by
  unfold UP
  rw [Int.sub_mul, Int.one_mul]
  omega
theorem UP_lt {b : Int} {ts : List Tm} (h : ∀ t ∈ ts, OkT t) (hf : falls ts < b) {j k : Int} (jk : j < k) : UP b ts j < UP b ts k := by
  have := UP_mono h (show falls ts ≤ b - 1 by omega) (Int.le_of_lt jk)
  rw [UP_less (b := b), UP_less (b := b) (k := k)]
  omega
theorem seek_small {b : Int} {ts : List Tm} (h : ∀ t ∈ ts, OkT t) (hf : falls ts < b) {n k : Int} (u1 : UP b ts k ≤ n) (u2 : n < UP b ts (k + 1)) : k.natAbs ≤ n.natAbs := by
  have z := UP_zero (base := b - 1) h
  rw [UP_less] at u1 u2
  rcases Int.lt_or_le k 0 with c | c
  · have := UP_mono h (show falls ts ≤ b - 1 by omega) (show k + 1 ≤ 0 by omega)
    omega
  · have := UP_mono h (show falls ts ≤ b - 1 by omega) c
    omega
structure GoodMo (bd : Int) (td : List Tm) (bm : Int) (tm : List Tm) : Prop where
  fd : falls td < bd
  gd : bd ≤ 1000
  fm : falls tm < bm
  gm : bm ≤ 20
  okd : ∀ t ∈ td, OkT t
  okm : ∀ t ∈ tm, OkT t
  fwd : td.length ≤ 6
  fwm : tm.length ≤ 6
def MYS (s bd : Int) (td : List Tm) (bm : Int) (tm : List Tm) (y : Int) : Int := s + UP bd td (UP bm tm y)
def MLEN (bd : Int) (td : List Tm) (bm : Int) (tm : List Tm) (y : Int) : List Int := (List.range (AT bm tm y).toNat).map fun i : Nat => AT bd td (UP bm tm y + (i : Int))
theorem at_sum {b : Int} {ts : List Tm} (h : ∀ t ∈ ts, OkT t) (f : Int) : ∀ n : Nat, ((List.range n).map fun i : Nat => AT b ts (f + (i : Int))).sum = UP b ts (f + (n : Int)) - UP b ts f
  | 0 => by simp
  | n + 1 => by
    have s := UP_step (base := b) h (f + (n : Int))
    rw [List.range_succ, List.map_append, List.sum_append, at_sum h f n, show f + ((n + 1 : Nat) : Int) = f + (n : Int) + 1 by omega, s]
    simp
    omega
theorem falls_nn {ts : List Tm} : 0 ≤ falls ts := by
  unfold falls
  omega
theorem AT_pos {b : Int} {ts : List Tm} (h : ∀ t ∈ ts, OkT t) (hf : falls ts < b) (k : Int) : 1 ≤ AT b ts k := by
  have := ONS_low h k
  unfold AT
  omega
theorem AT_le {b : Int} {ts : List Tm} (h : ∀ t ∈ ts, OkT t) (few : ts.length ≤ 6) (k : Int) : AT b ts k ≤ b + 6 := by
  have := AT_high h k
  unfold AT
  omega
theorem MLEN_sum {s bd : Int} {td : List Tm} {bm : Int} {tm : List Tm} (g : GoodMo bd td bm tm) (y : Int) : (MLEN bd td bm tm y).sum = MYS s bd td bm tm (y + 1) - MYS s bd td bm tm y := by
  unfold MLEN MYS
  have p := AT_pos g.okm g.fm y
  rw [at_sum g.okd, show ((AT bm tm y).toNat : Int) = AT bm tm y by omega, ← UP_step g.okm]
  omega
theorem MLEN_mem {bd : Int} {td : List Tm} {bm : Int} {tm : List Tm} (g : GoodMo bd td bm tm) (y : Int) : ∀ n ∈ MLEN bd td bm tm y, 0 ≤ n ∧ n ≤ 1006 := by
  intro n hn
  unfold MLEN at hn
  obtain ⟨i, _, rfl⟩ := List.mem_map.mp hn
  have := AT_pos g.okd g.fd (UP bm tm y + (i : Int))
  have := AT_le g.okd g.fwd (b := bd) (UP bm tm y + (i : Int))
  have := g.gd
  omega
theorem MLEN_len {bd : Int} {td : List Tm} {bm : Int} {tm : List Tm} (g : GoodMo bd td bm tm) (y : Int) : 1 ≤ (MLEN bd td bm tm y).length ∧ (MLEN bd td bm tm y).length ≤ 26 := by
  unfold MLEN
  rw [List.length_map, List.length_range]
  have := AT_pos g.okm g.fm y
  have := AT_le g.okm g.fwm (b := bm) y
  have := g.gm
  omega
end Fw

namespace Fw
inductive CalD where
  | sun (s : Int) (ls : List Int) (lp : Int) (ts : List Tm)
  | moon (s bd : Int) (td : List Tm) (bm : Int) (tm : List Tm)
def CalD.Y : CalD → Int → Int
  | .sun s ls _ ts, y => s + UP ls.sum ts y
  | .moon s bd td bm tm, y => MYS s bd td bm tm y
def CalD.L : CalD → Int → List Int
  | .sun _ ls lp ts, y => LENS ls lp ts y
  | .moon _ bd td bm tm, y => MLEN bd td bm tm y
def CalD.good : CalD → Prop
  | .sun _ ls lp ts => GoodS ls lp ts
  | .moon _ bd td bm tm => GoodMo bd td bm tm
def CalD.st : CalD → Int
  | .sun s _ _ _ => s
  | .moon s _ _ _ _ => s
/-- the days of the first j months -/
def PS (l : List Int) (j : Nat) : Int := (l.take j).sum
theorem PS_zero {l : List Int} : PS l 0 = 0 := rfl
theorem PS_succ {l : List Int} {j : Nat} (h : j < l.length) : PS l (j + 1) = PS l j + l.getD j 0 := by
  unfold PS
  rw [List.take_add_one, List.getD_eq_getElem?_getD, List.getElem?_eq_getElem h, List.sum_append]
  simp
theorem PS_mono {l : List Int} (h : ∀ n ∈ l, 0 ≤ n) {i : Nat} : ∀ {j : Nat}, i ≤ j → j ≤ l.length → PS l i ≤ PS l j
  | 0, hij, _ => by
    have : i = 0 := by omega
    subst this
    exact Int.le_refl _
  | j + 1, hij, hj => by
    rcases Nat.lt_or_eq_of_le hij with c | c
    · have := PS_mono (i := i) h (show i ≤ j by omega) (by omega)
      have e := PS_succ (l := l) (j := j) (by omega)
      have := h _ (getD_mem' (ls := l) (i := j) (by omega))
      omega
    · subst c
      exact Int.le_refl _
theorem PS_len {l : List Int} : PS l l.length = l.sum := by
  unfold PS
  rw [List.take_length]
theorem CalD.step {d : CalD} (g : d.good) (y : Int) : d.Y (y + 1) = d.Y y + (d.L y).sum := by
  cases d with
  | sun s ls lp ts =>
    show s + UP ls.sum ts (y + 1) = s + UP ls.sum ts y + (LENS ls lp ts y).sum
    rw [LENS_sum g y, UP_step (GoodS.ok g)]
    omega
  | moon s bd td bm tm =>
    show MYS s bd td bm tm (y + 1) = MYS s bd td bm tm y + (MLEN bd td bm tm y).sum
    rw [MLEN_sum (s := s) g y]
    omega
theorem CalD.mem {d : CalD} (g : d.good) (y : Int) : ∀ n ∈ d.L y, 0 ≤ n ∧ n ≤ 1006 := by
  cases d with
  | sun s ls lp ts => exact LENS_mem g y
  | moon s bd td bm tm => exact MLEN_mem g y
theorem CalD.len {d : CalD} (g : d.good) (y : Int) : 1 ≤ (d.L y).length ∧ (d.L y).length ≤ 26 := by
  cases d with
  | sun s ls lp ts =>
    show 1 ≤ (LENS ls lp ts y).length ∧ (LENS ls lp ts y).length ≤ 26
    rw [LENS_len]
    have := GoodS.l0 g
    have := GoodS.l1 g
    omega
  | moon s bd td bm tm => exact MLEN_len g y
theorem CalD.lt {d : CalD} (g : d.good) {j k : Int} (h : j < k) : d.Y j < d.Y k := by
  cases d with
  | sun s ls lp ts =>
    have := UP_lt (GoodS.ok g) (GoodS.f1 g) h
    show s + UP ls.sum ts j < s + UP ls.sum ts k
    omega
  | moon s bd td bm tm =>
    have := UP_lt (GoodMo.okd g) (GoodMo.fd g) (UP_lt (GoodMo.okm g) (GoodMo.fm g) h)
    show s + UP bd td (UP bm tm j) < s + UP bd td (UP bm tm k)
    omega
theorem CalD.uniq {d : CalD} (g : d.good) {n j k : Int} (h1 : d.Y j ≤ n) (h2 : n < d.Y (j + 1)) (h3 : d.Y k ≤ n) (h4 : n < d.Y (k + 1)) : j = k := by
  rcases Int.lt_trichotomy j k with c | c | c
  · rcases Int.lt_or_eq_of_le (show j + 1 ≤ k by omega) with z | z
    · have := CalD.lt g z
      omega
    · rw [z] at h2
      omega
  · exact c
  · rcases Int.lt_or_eq_of_le (show k + 1 ≤ j by omega) with z | z
    · have := CalD.lt g z
      omega
    · rw [z] at h4
      omega
theorem CalD.zero {d : CalD} (g : d.good) : d.Y 0 = d.st := by
  cases d with
  | sun s ls lp ts =>
    show s + UP ls.sum ts 0 = s
    rw [UP_zero (GoodS.ok g), Int.add_zero]
  | moon s bd td bm tm =>
    show s + UP bd td (UP bm tm 0) = s
    rw [UP_zero (GoodMo.okm g), UP_zero (GoodMo.okd g), Int.add_zero]
/-- (y, m, r) is a date; it is that of the day n -/
structure IsD (d : CalD) (y m r : Int) : Prop where
  m0 : 1 ≤ m
  m1 : m ≤ ((d.L y).length : Int)
  r0 : 1 ≤ r
  r1 : r ≤ (d.L y).getD (m - 1).toNat 0
def DayOf (d : CalD) (y m r : Int) : Int := d.Y y + PS (d.L y) (m - 1).toNat + r - 1
theorem IsD.year {d : CalD} (g : d.good) {y m r : Int} (h : IsD d y m r) : d.Y y ≤ DayOf d y m r ∧ DayOf d y m r < d.Y (y + 1) := by
  have m0 := h.m0
  have m1 := h.m1
  have r0 := h.r0
  have r1 := h.r1
  have nn : ∀ n ∈ d.L y, 0 ≤ n := fun n hn => (CalD.mem g y n hn).1
  have a := PS_mono nn (i := 0) (j := (m - 1).toNat) (by omega) (by omega)
  have b := PS_succ (l := d.L y) (j := (m - 1).toNat) (by omega)
  have c := PS_mono nn (i := (m - 1).toNat + 1) (j := (d.L y).length) (by omega) (Nat.le_refl _)
  rw [PS_len] at c
  rw [PS_zero] at a
  rw [CalD.step g]
  unfold DayOf
  omega
theorem IsD.uniq {d : CalD} (g : d.good) {y m r y' m' r' : Int} (h : IsD d y m r) (h' : IsD d y' m' r') (e : DayOf d y m r = DayOf d y' m' r') : y = y' ∧ m = m' ∧ r = r' := by
  have e1 := h.year g
  have e2 := h'.year g
  rw [← e] at e2
  have ey := CalD.uniq g e1.1 e1.2 e2.1 e2.2
  subst ey
  have m0 := h.m0
  have m1 := h.m1
  have r0 := h.r0
  have r1 := h.r1
  have m0' := h'.m0
  have m1' := h'.m1
  have r0' := h'.r0
  have r1' := h'.r1
  have nn : ∀ n ∈ d.L y, 0 ≤ n := fun n hn => (CalD.mem g y n hn).1
  have b := PS_succ (l := d.L y) (j := (m - 1).toNat) (by omega)
  have b' := PS_succ (l := d.L y) (j := (m' - 1).toNat) (by omega)
  unfold DayOf at e
  have em : m = m' := by
    rcases Int.lt_trichotomy m m' with c | c | c
    · have := PS_mono nn (i := (m - 1).toNat + 1) (j := (m' - 1).toNat) (by omega) (by omega)
      omega
    · exact c
    · have := PS_mono nn (i := (m' - 1).toNat + 1) (j := (m - 1).toNat) (by omega) (by omega)
      omega
  subst em
  exact ⟨rfl, rfl, by omega⟩
end Fw

namespace Fw
def DLt (a b c a' b' c' : Int) : Prop := a < a' ∨ (a = a' ∧ (b < b' ∨ (b = b' ∧ c < c')))
def DLe (a b c a' b' c' : Int) : Prop := a < a' ∨ (a = a' ∧ (b < b' ∨ (b = b' ∧ c ≤ c')))
theorem DLe_not {a b c a' b' c' : Int} : ¬ DLe a b c a' b' c' ↔ DLt a' b' c' a b c := by
  unfold DLe DLt
  omega
theorem DLt_not {a b c a' b' c' : Int} : ¬ DLt a b c a' b' c' ↔ DLe a' b' c' a b c := by
  unfold DLe DLt
  omega
theorem IsD.lt_of {d : CalD} (g : d.good) {y m r y' m' r' : Int} (h : IsD d y m r) (h' : IsD d y' m' r') (l : DLt y m r y' m' r') : DayOf d y m r < DayOf d y' m' r' := by
  have e1 := h.year g
  have e2 := h'.year g
  rcases l with c | ⟨c, l⟩
  · rcases Int.lt_or_eq_of_le (show y + 1 ≤ y' by omega) with z | z
    · have := CalD.lt g z
      omega
    · rw [z] at e1
      omega
  subst c
  have m0 := h.m0
  have m1 := h.m1
  have r0 := h.r0
  have r1 := h.r1
  have m0' := h'.m0
  have m1' := h'.m1
  have r0' := h'.r0
  have nn : ∀ n ∈ d.L y, 0 ≤ n := fun n hn => (CalD.mem g y n hn).1
  have b := PS_succ (l := d.L y) (j := (m - 1).toNat) (by omega)
  unfold DayOf
  rcases l with c | ⟨c, l⟩
  · have := PS_mono nn (i := (m - 1).toNat + 1) (j := (m' - 1).toNat) (by omega) (by omega)
    omega
  · subst c
    omega
theorem IsD.lt_iff {d : CalD} (g : d.good) {y m r y' m' r' : Int} (h : IsD d y m r) (h' : IsD d y' m' r') : DayOf d y m r < DayOf d y' m' r' ↔ DLt y m r y' m' r' := by
  refine ⟨fun l => ?_, IsD.lt_of g h h'⟩
  refine Classical.byContradiction fun n => ?_
  have := DLt_not.mp n
  by_cases e : DLt y' m' r' y m r
  · have := IsD.lt_of g h' h e
    omega
  · have e1 : y = y' ∧ m = m' ∧ r = r' := by
      unfold DLt DLe at *
      omega
    obtain ⟨rfl, rfl, rfl⟩ := e1
    omega
inductive CalT where
  | one (d : CalD)
  | chg (a b : CalT) (k : Int)
/-- the date of the day n is (y, m, r) -/
def CalT.D : CalT → Int → Int → Int → Int → Prop
  | .one d, n, y, m, r => IsD d y m r ∧ DayOf d y m r = n
  | .chg a b k, n, y, m, r => (n < k ∧ a.D n y m r) ∨ (k ≤ n ∧ b.D n y m r)
def CalT.good : CalT → Prop
  | .one d => d.good
  | .chg a b k => a.good ∧ b.good ∧ ∃ y m r y' m' r', a.D (k - 1) y m r ∧ b.D k y' m' r' ∧ DLt y m r y' m' r'
def CalT.deep : CalT → Nat
  | .one _ => 0
  | .chg a b _ => max a.deep b.deep + 1
theorem DLt.trans {a b c a' b' c' a'' b'' c'' : Int} (h : DLt a b c a' b' c') (h' : DLt a' b' c' a'' b'' c'') : DLt a b c a'' b'' c'' := by
  unfold DLt at *
  omega
theorem CalT.uniq : ∀ {c : CalT}, c.good → ∀ {n y m r y' m' r' : Int}, c.D n y m r → c.D n y' m' r' → y = y' ∧ m = m' ∧ r = r'
  | .one d, g, n, y, m, r, y', m', r', h, h' => IsD.uniq g h.1 h'.1 (h.2.trans h'.2.symm)
  | .chg a b k, g, n, y, m, r, y', m', r', h, h' => by
    rcases h with ⟨l, h⟩ | ⟨l, h⟩ <;> rcases h' with ⟨l', h'⟩ | ⟨l', h'⟩
    · exact CalT.uniq g.1 h h'
    · omega
    · omega
    · exact CalT.uniq g.2.1 h h'
theorem CalT.mono : ∀ {c : CalT}, c.good → ∀ {n n' y m r y' m' r' : Int}, c.D n y m r → c.D n' y' m' r' → n < n' → DLt y m r y' m' r'
  | .one d, g, n, n', y, m, r, y', m', r', h, h', l => by
    rw [← h.2, ← h'.2] at l
    exact (IsD.lt_iff g h.1 h'.1).mp l
  | .chg a b k, g, n, n', y, m, r, y', m', r', h, h', l => by
    obtain ⟨ga, gb, p, q, s, p', q', s', d1, d2, l12⟩ := g
    rcases h with ⟨z, h⟩ | ⟨z, h⟩ <;> rcases h' with ⟨z', h'⟩ | ⟨z', h'⟩
    · exact CalT.mono ga h h' l
    · have x1 : DLt y m r p' q' s' := by
        rcases Int.lt_or_eq_of_le (show n ≤ k - 1 by omega) with e | e
        · exact (CalT.mono ga h d1 e).trans l12
        · subst e
          obtain ⟨rfl, rfl, rfl⟩ := CalT.uniq ga h d1
          exact l12
      rcases Int.lt_or_eq_of_le z' with e | e
      · exact x1.trans (CalT.mono gb d2 h' e)
      · subst e
        obtain ⟨rfl, rfl, rfl⟩ := CalT.uniq gb h' d2
        exact x1
    · omega
    · exact CalT.mono gb h h' l
theorem CalT.inj {c : CalT} (g : c.good) {n n' y m r : Int} (h : c.D n y m r) (h' : c.D n' y m r) : n = n' := by
  rcases Int.lt_trichotomy n n' with l | l | l
  · have := CalT.mono g h h' l
    unfold DLt at this
    omega
  · exact l
  · have := CalT.mono g h' h l
    unfold DLt at this
    omega
/-- what is told of a date: its day, none, or in a gap -/
inductive Out where
  | day (n : Int)
  | none
  | gap (k : Int)
def CalT.Out : CalT → Int → Int → Int → Fw.Out → Prop
  | .one d, y, m, r, o => (IsD d y m r ∧ o = .day (DayOf d y m r)) ∨ (¬ IsD d y m r ∧ o = .none)
  | .chg a b k, y, m, r, o => ∃ p q s p' q' s', a.D (k - 1) p q s ∧ b.D k p' q' s' ∧ DLt p q s p' q' s' ∧ ((DLe y m r p q s ∧ a.Out y m r o) ∨ (DLe p' q' s' y m r ∧ b.Out y m r o) ∨ (DLt p q s y m r ∧ DLt y m r p' q' s' ∧ o = .gap k))
theorem CalT.out_uniq : ∀ {c : CalT}, c.good → ∀ {y m r : Int} {o o' : Fw.Out}, c.Out y m r o → c.Out y m r o' → o = o'
  | .one d, g, y, m, r, o, o', h, h' => by
    rcases h with ⟨l, h⟩ | ⟨l, h⟩ <;> rcases h' with ⟨l', h'⟩ | ⟨l', h'⟩
    · exact h.trans h'.symm
    · exact absurd l l'
    · exact absurd l' l
    · exact h.trans h'.symm
  | .chg a b k, g, y, m, r, o, o', h, h' => by
    obtain ⟨p, q, s, p', q', s', d1, d2, l, h⟩ := h
    obtain ⟨u, v, w, u', v', w', e1, e2, l', h'⟩ := h'
    obtain ⟨rfl, rfl, rfl⟩ := CalT.uniq g.1 d1 e1
    obtain ⟨rfl, rfl, rfl⟩ := CalT.uniq g.2.1 d2 e2
    rcases h with ⟨z, h⟩ | ⟨z, h⟩ | ⟨z1, z2, h⟩ <;> rcases h' with ⟨t, h'⟩ | ⟨t, h'⟩ | ⟨t1, t2, h'⟩
    · exact CalT.out_uniq g.1 h h'
    · unfold DLe DLt at *; omega
    · unfold DLe DLt at *; omega
    · unfold DLe DLt at *; omega
    · exact CalT.out_uniq g.2.1 h h'
    · unfold DLe DLt at *; omega
    · unfold DLe DLt at *; omega
    · unfold DLe DLt at *; omega
    · exact h.trans h'.symm
theorem CalT.day_out : ∀ {c : CalT}, c.good → ∀ {n y m r : Int}, c.D n y m r → c.Out y m r (.day n)
  | .one d, g, n, y, m, r, h => .inl ⟨h.1, by rw [h.2]⟩
  | .chg a b k, g, n, y, m, r, h => by
    obtain ⟨ga, gb, p, q, s, p', q', s', d1, d2, l12⟩ := g
    refine ⟨p, q, s, p', q', s', d1, d2, l12, ?_⟩
    rcases h with ⟨z, h⟩ | ⟨z, h⟩
    · refine .inl ⟨?_, CalT.day_out ga h⟩
      rcases Int.lt_or_eq_of_le (show n ≤ k - 1 by omega) with e | e
      · have := CalT.mono ga h d1 e
        unfold DLe DLt at *
        omega
      · subst e
        obtain ⟨rfl, rfl, rfl⟩ := CalT.uniq ga h d1
        unfold DLe
        omega
    · refine .inr (.inl ⟨?_, CalT.day_out gb h⟩)
      rcases Int.lt_or_eq_of_le z with e | e
      · have := CalT.mono gb d2 h e
        unfold DLe DLt at *
        omega
      · subst e
        obtain ⟨rfl, rfl, rfl⟩ := CalT.uniq gb h d2
        unfold DLe
        omega
end Fw

namespace Fw
theorem mem_le_sum : ∀ {ls : List Int}, (∀ n ∈ ls, 0 ≤ n) → ∀ {x : Int}, x ∈ ls → x ≤ ls.sum
  | [], _, x, h => nomatch h
  | a :: ls, hn, x, h => by
    have i : 0 ≤ ls.sum := by
      have : ∀ {l : List Int}, (∀ n ∈ l, 0 ≤ n) → 0 ≤ l.sum := fun {l} => by
        induction l with
        | nil => exact fun _ => Int.le_refl _
        | cons b l ih =>
          intro h
          have := ih fun n hn => h n (List.mem_cons_of_mem _ hn)
          have := h b List.mem_cons_self
          rw [List.sum_cons]
          omega
      exact this fun n hh => hn n (List.mem_cons_of_mem _ hh)
    rw [List.sum_cons]
    rcases List.mem_cons.mp h with e | e
    · omega
    · have := mem_le_sum (fun n hh => hn n (List.mem_cons_of_mem _ hh)) e
      have := hn a List.mem_cons_self
      omega
theorem CalD.far {d : CalD} (g : d.good) (k : Nat) : d.Y 0 + (k : Int) ≤ d.Y (k : Int) ∧ d.Y (-(k : Int)) ≤ d.Y 0 - (k : Int) := by
  induction k with
  | zero => exact ⟨by simp, by simp⟩
  | succ k ih =>
    have a := CalD.lt g (show (k : Int) < ((k + 1 : Nat) : Int) by omega)
    have b := CalD.lt g (show -((k + 1 : Nat) : Int) < -(k : Int) by omega)
    omega
theorem CalD.yb {d : CalD} (g : d.good) {n y : Int} (h1 : d.Y y ≤ n) (h2 : n < d.Y (y + 1)) : y.natAbs ≤ (n - d.st).natAbs + 1 := by
  rw [← CalD.zero g]
  rcases Int.le_total 0 y with c | c
  · have a := (CalD.far g y.toNat).1
    rw [show ((y.toNat : Nat) : Int) = y by omega] at a
    omega
  · by_cases z : y = 0
    · subst z
      omega
    · have a := (CalD.far g (-(y + 1)).toNat).2
      rw [show -(((-(y + 1)).toNat : Nat) : Int) = y + 1 by omega] at a
      omega
end Fw

namespace Fw
open PySem L2 PyProof.Rows
def top (i : Nat) : Stmt := PySem.Challenge.pw_feastwheel_k43_whole_changes_in_order.main.body.getD i (.Pass ⟨0, 0, 0, 0⟩)
abbrev s_NoDate___init__ : Stmt := inClass (top 5) 0
abbrev s_InGap___init__ : Stmt := inClass (top 6) 0
abbrev s_refuse_below_one : Stmt := top 9
abbrev s_divisor : Stmt := top 10
abbrev s_equation : Stmt := top 11
abbrev s_common : Stmt := top 12
abbrev s_term_on : Stmt := top 17
abbrev s_signs_upto : Stmt := top 18
abbrev s_is_term : Stmt := top 19
abbrev s_least_length : Stmt := top 20
abbrev s_refuse_measure : Stmt := top 21
abbrev s_period_of : Stmt := top 22
abbrev s_Measure___init__ : Stmt := inClass (top 23) 0
abbrev s_Measure_at : Stmt := inClass (top 23) 1
abbrev s_Measure_upto : Stmt := inClass (top 23) 2
abbrev s_Measure_seek : Stmt := inClass (top 23) 4
abbrev s_refuse_months : Stmt := top 28
abbrev s_Sun___init__ : Stmt := inClass (top 29) 0
abbrev s_Sun_year_start : Stmt := inClass (top 29) 1
abbrev s_Sun_year_at : Stmt := inClass (top 29) 2
abbrev s_Sun_lengths : Stmt := inClass (top 29) 3
abbrev s_refuse_part : Stmt := top 30
abbrev s_Moon___init__ : Stmt := inClass (top 31) 0
abbrev s_Moon_year_start : Stmt := inClass (top 31) 1
abbrev s_Moon_year_at : Stmt := inClass (top 31) 2
abbrev s_Moon_lengths : Stmt := inClass (top 31) 3
abbrev s_Change___init__ : Stmt := inClass (top 33) 0
abbrev s_Change_date_of : Stmt := inClass (top 33) 1
abbrev s_Change_day_of : Stmt := inClass (top 33) 2
abbrev s_law_cell_at : Stmt := top 35
abbrev s_law_whole : Stmt := top 36
abbrev s_law_number : Stmt := top 37
abbrev s_law_mixed : Stmt := top 38
abbrev s_law_terms : Stmt := top 39
abbrev s_law_made : Stmt := top 40
abbrev s_law_begun : Stmt := top 41
abbrev s_law_is_date : Stmt := top 42
abbrev s_law_change : Stmt := top 43
abbrev s_law_held : Stmt := top 44
abbrev s_law : Stmt := top 45
abbrev s_Sun_date_of : Stmt := inClass (top 27) 0
abbrev s_Sun_day_of : Stmt := inClass (top 27) 1
abbrev s_Moon_date_of : Stmt := inClass (top 27) 0
abbrev s_Moon_day_of : Stmt := inClass (top 27) 1
abbrev s_Change_date_of_n0 : Stmt := inClass (top 33) 1
abbrev s_Change_date_of_n1 : Stmt := inClass (top 33) 1
abbrev s_Change_day_of_n0 : Stmt := inClass (top 33) 2
abbrev s_Change_day_of_n1 : Stmt := inClass (top 33) 2
def spCell (K : PySem.W.Frag) : Sp := fun vs H Q _ => ∃ (a : Addr) (ns : List Int) (k : Int), vs = [.ref a, .int k] ∧ SqL K H a (ns.map V.int) ∧ 0 ≤ k ∧ ns.length ≤ 63 ∧ Q (.int (ns.getD k.toNat 0)) H
def spWhole : Sp := fun vs H Q _ => ∃ i : Int, vs = [.int i] ∧ Q (.bl true) H
theorem rd_cell {K : PySem.W.Frag} {a : Addr} {ns : List Int} {k : Int} {H : Hp} {Q : VK} {E : XK} (hS : SqL K H a (ns.map V.int)) (hl : ns.length ≤ 63) (hk : 0 ≤ k) (h : Q (.int (ns.getD k.toNat 0)) H) : spCell K ([.ref a, .int k] ++ []) H Q E := ⟨a, ns, k, rfl, hS, hk, hl, h⟩
theorem rd_whole {i : Int} {H : Hp} {Q : VK} {E : XK} (h : Q (.bl true) H) : spWhole ([.int i] ++ []) H Q E := ⟨i, rfl, h⟩
theorem kit_ib (K : PySem.W.Frag) : PySem.W.kitOne K (.type "int") (.type "bool") = some false := by first | rfl | decide +kernel | with_unfolding_all rfl
theorem at_ints {ns : List Int} {k : Int} (h0 : 0 ≤ k) (h : k < (ns.length : Int)) : atI (ns.map V.int) k = some (.int (ns.getD k.toNat 0)) := by
  have hk : k.toNat < ns.length := by omega
  have ek : k = ((k.toNat : Nat) : Int) := by omega
  have q : atI (ns.map V.int) ((k.toNat : Nat) : Int) = some (.int ns[k.toNat]) := atI_nat (by rw [List.getElem?_map, List.getElem?_eq_getElem hk] <;> rfl)
  rw [← ek] at q
  rw [q]
  simp [List.getD, hk]
theorem p40 : (10 : Int) ^ (40 : Int).toNat = 10000000000000000000000000000000000000000 := by decide
theorem bt_of {x : Int} (h1 : -1000000000000000000000000000000000000000000000000000000000000 ≤ x) (h2 : x ≤ 1000000000000000000000000000000000000000000000000000000000000) : Bt 200 x := by
  unfold Bt
  have : (2 : Nat) ^ 200 = 1606938044258990275541962092341162602522202993782792835301376 := by decide
  omega
theorem kit_tt (K : PySem.W.Frag) : PySem.W.kitOne K (.type "tuple") (.type "tuple") = some true := by unfold PySem.W.kitOne; rw [if_pos (by simp)]
local macro_rules | `(tactic| walk_at "rdc") => `(tactic| (repeat (first | walk_at "rd1" | ((with_reducible refine' Fw.rd_cell ?hc1 ?hc2 ?hc3 ?_); (case hc1 => assumption); (case hc2 => assumption); (case hc3 => decide)) | with_reducible refine Fw.rd_whole ?_)))
local macro_rules | `(tactic| walk_at "rdy") => `(tactic| (repeat (first | walk_at "rd1" | ((with_reducible refine' Fw.rd_cell ?hc1 ?hc2 ?hc3 ?_); (case hc1 => assumption); (case hc2 => assumption); (case hc3 => decide)) | with_reducible refine Fw.rd_whole ?_ | with_reducible refine L2.rd_callE ?_ | with_reducible refine L2.rd_raise ?_ | with_reducible refine L2.rd_try ?_ | with_reducible refine L2.rd_xget ?_ | with_reducible refine L2.rd_ifE ?_)))
def spRefuse : Sp := fun vs H Q _ => ∃ n : Int, vs = [.int n] ∧ 1 ≤ n ∧ Q .non H
def spEq : Sp := fun vs H Q _ => ∃ a b : Int, vs = [.int a, .int b] ∧ Bt 500 a ∧ Bt 500 b ∧ ∀ (p : Addr) (u v g : Int) (H' : Hp), Same H H' → H' p = some (.tup [.int u, .int v, .int g]) → Eqn a b u v g → Q (.ref p) H'
def spDivisor : Sp := fun vs H Q _ => ∃ a b : Int, vs = [.int a, .int b] ∧ Bt 500 a ∧ Bt 500 b ∧ ∀ H', Same H H' → Q (.int (Int.gcd a b : Int)) H'
def spCommon : Sp := fun vs H Q _ => ∃ a b : Int, vs = [.int a, .int b] ∧ 0 < a ∧ 0 < b ∧ Bt 500 a ∧ Bt 500 b ∧ ∀ H', Same H H' → Q (.int (lcmI a b)) H'
theorem at30 {x y z : V} : atI [x, y, z] 0 = some x := rfl
theorem at31 {x y z : V} : atI [x, y, z] 1 = some y := rfl
theorem at32 {x y z : V} : atI [x, y, z] 2 = some z := rfl
theorem three {a b c : V} : ([a, b, c] : List V).length ≤ sizeLine := by show 3 ≤ sizeLine; decide
theorem two {a b : V} : ([a, b] : List V).length ≤ sizeLine := by show 2 ≤ sizeLine; decide
theorem bt_le {k m : Nat} {x y : Int} (h : Bt k y) (l : x.natAbs ≤ 4 * y.natAbs + 4) (hk : k + 4 ≤ m) : Bt m x := by
  unfold Bt at *
  have p : 2 ^ (k + 4) ≤ 2 ^ m := Nat.pow_le_pow_right (by decide) hk
  have e : 2 ^ (k + 4) = 2 ^ k * 16 := by rw [Nat.pow_add]
  omega
theorem bt_le2 {k m : Nat} {x y z : Int} (h : Bt k y) (h' : Bt k z) (l : x.natAbs ≤ y.natAbs + z.natAbs + 4) (hk : k + 4 ≤ m) : Bt m x := by
  unfold Bt at *
  have p : 2 ^ (k + 4) ≤ 2 ^ m := Nat.pow_le_pow_right (by decide) hk
  have e : 2 ^ (k + 4) = 2 ^ k * 16 := by rw [Nat.pow_add]
  omega
theorem bt_small {k : Nat} {x : Int} (h0 : 0 ≤ x) (h1 : x < 18446744073709551616) (hk : 64 ≤ k) : Bt k x := Bt.mono (k := 64) (by unfold Bt; omega) hk
theorem bt_div {k : Nat} {d n : Int} (h : Bt k d) (hn : 0 < n) : Bt k (d / n) := by
  refine h.le ?_
  rcases Int.lt_or_le d 0 with c | c
  · have h1 : d / n < 0 := Int.ediv_neg_of_neg_of_pos c hn
    have h2 : d ≤ d / n := (Int.le_ediv_iff_mul_le hn).mpr (by
      have := Int.mul_le_mul_of_nonpos_left (show d ≤ 0 by omega) (show 1 ≤ n by omega)
      omega)
    omega
  · have h1 : 0 ≤ d / n := Int.ediv_nonneg c (by omega)
    have h2 : d / n ≤ d := Int.ediv_le_self n c
    omega
theorem _root_.L2.Bt.sub {k : Nat} {x y : Int} (h : Bt k x) (g : Bt k y) : Bt (k + 1) (x - y) := by
  have := h.add g.neg
  rwa [← Int.sub_eq_add_neg] at this
def tmV (t : Tm) : List V := [.int t.1, .int t.2.1, .int t.2.2.1, .int t.2.2.2]
inductive Tms (H : Hp) : List V → List Tm → Prop
  | nil : Tms H [] []
  | cons {p : Addr} {t : Tm} {vs : List V} {ts : List Tm} : H p = some (.tup (tmV t)) → Tms H vs ts → Tms H (.ref p :: vs) (t :: ts)
theorem Tms.same {H H' : Hp} (s : Same H H') : ∀ {vs : List V} {ts : List Tm}, Tms H vs ts → Tms H' vs ts
  | _, _, .nil => .nil
  | _, _, .cons h t => .cons (s _ _ h) (Tms.same s t)
theorem Tms.len {H : Hp} : ∀ {vs : List V} {ts : List Tm}, Tms H vs ts → vs.length = ts.length
  | _, _, .nil => rfl
  | _, _, .cons _ t => by rw [List.length_cons, List.length_cons, Tms.len t]
theorem Tms.mem {H : Hp} {x : V} : ∀ {vs : List V} {ts : List Tm}, Tms H vs ts → x ∈ vs → ∃ p t, x = .ref p ∧ t ∈ ts ∧ H p = some (.tup (tmV t))
  | _, _, .nil, h => nomatch h
  | _, _, .cons g r, h => by
    rcases List.mem_cons.mp h with e | e
    · exact ⟨_, _, e, List.mem_cons_self, g⟩
    · obtain ⟨p, t, e1, e2, e3⟩ := Tms.mem r e
      exact ⟨p, t, e1, List.mem_cons_of_mem _ e2, e3⟩
theorem Tms.at {H : Hp} : ∀ {vs : List V} {ts : List Tm}, Tms H vs ts → ∀ {i : Nat} {x : V}, vs[i]? = some x → ∃ p t, x = .ref p ∧ ts[i]? = some t ∧ H p = some (.tup (tmV t))
  | _, _, .nil, i, x, h => by simp at h
  | _, _, .cons g r, 0, x, h => by
    injection h with h
    exact ⟨_, _, h.symm, rfl, g⟩
  | _, _, .cons g r, i + 1, x, h => Tms.at r (i := i) h
/-- what stands in the term at v, by g -/
def tmAt (H : Hp) (v : V) : Option Tm := match v with
  | .ref p => match H p with
    | some (.tup [.int s, .int a, .int b, .int n]) => some (s, a, b, n)
    | _ => none
  | _ => none
theorem tmAt_eq {H : Hp} {p : Addr} {t : Tm} (h : H p = some (.tup (tmV t))) : tmAt H (.ref p) = some t := by
  unfold tmAt tmV at *
  simp only [h]
theorem Tms.fm {H : Hp} (g : Tm → Bool) (f : Tm → V) : ∀ {vs : List V} {ts : List Tm}, Tms H vs ts → (vs.filter fun v => ((tmAt H v).map g).getD false).map (fun v => ((tmAt H v).map f).getD .non) = (ts.filter g).map f
  | _, _, .nil => rfl
  | _, _, .cons (p := p) (t := t) h r => by
    rw [List.filter_cons, List.filter_cons, tmAt_eq h]
    show (if g t = true then _ else _ : List V).map _ = _
    by_cases c : g t = true
    · rw [if_pos c, if_pos c, List.map_cons, List.map_cons, Tms.fm g f r, tmAt_eq h]
      rfl
    · rw [if_neg c, if_neg c, Tms.fm g f r]
theorem at40 {t : Tm} : atI (tmV t) 0 = some (V.int t.1) := rfl
theorem at41 {t : Tm} : atI (tmV t) 1 = some (V.int t.2.1) := rfl
theorem at42 {t : Tm} : atI (tmV t) 2 = some (V.int t.2.2.1) := rfl
theorem at43 {t : Tm} : atI (tmV t) 3 = some (V.int t.2.2.2) := rfl
/-- terms in a tuple -/
structure TmT (K : PySem.W.Frag) (H : Hp) (p : Addr) (ts : List Tm) : Prop where
  ex : ∃ vs, SqT K H p vs ∧ Tms H vs ts
  ok : ∀ t ∈ ts, OkT t
  few : ts.length ≤ 6
theorem TmT.same {K : PySem.W.Frag} {H H' : Hp} {p : Addr} {ts : List Tm} (T : TmT K H p ts) (s : Same H H') : TmT K H' p ts := by
  obtain ⟨vs, h1, h2⟩ := T.ex
  exact ⟨⟨vs, s.tup h1, h2.same s⟩, T.ok, T.few⟩
def spTermOn : Sp := fun vs H Q _ => ∃ (p : Addr) (k : Int) (t : Tm), vs = [.ref p, .int k] ∧ H p = some (.tup (tmV t)) ∧ OkT t ∧ Bt 400 k ∧ Q (.bl (onT t k)) H
def spSigns (K : PySem.W.Frag) : Sp := fun vs H Q _ => ∃ (p : Addr) (k : Int) (ts : List Tm), vs = [.ref p, .int k] ∧ TmT K H p ts ∧ Bt 400 k ∧ ∀ H', Same H H' → Q (.int (SU ts k)) H'
def spIsTerm : Sp := fun vs H Q _ => ∃ (p : Addr) (t : Tm), vs = [.ref p] ∧ H p = some (.tup (tmV t)) ∧ OkT t ∧ Q (.bl true) H
def spLeast (K : PySem.W.Frag) : Sp := fun vs H Q _ => ∃ (p : Addr) (b : Int) (ts : List Tm), vs = [.int b, .ref p] ∧ TmT K H p ts ∧ ∀ H', Same H H' → Q (.int (b - falls ts)) H'
structure GoodM (b : Int) (ts : List Tm) : Prop where
  b0 : 0 ≤ b
  b1 : b ≤ 20000
  fl : falls ts ≤ b
def spRefuseM (K : PySem.W.Frag) : Sp := fun vs H Q _ => ∃ (p : Addr) (b : Int) (ts : List Tm), vs = [.int b, .ref p] ∧ TmT K H p ts ∧ GoodM b ts ∧ ∀ H', Same H H' → Q .non H'
def spPeriod (K : PySem.W.Frag) : Sp := fun vs H Q _ => ∃ (p : Addr) (ts : List Tm), vs = [.ref p] ∧ TmT K H p ts ∧ ∀ H', Same H H' → Q (.int (PER ts)) H'
theorem per_pow {ts : List Tm} (h : ∀ t ∈ ts, OkT t) : ∀ (i : Nat), i ≤ 6 → 0 < PER (ts.take i) ∧ PER (ts.take i) ≤ 1000 ^ i
  | 0, _ => ⟨(show (0 : Int) < 1 by decide), (show (1 : Int) ≤ 1 by decide)⟩
  | i + 1, hi => by
    obtain ⟨h1, h2⟩ := per_pow h i (by omega)
    rw [List.take_add_one]
    cases e : ts[i]? with
    | none =>
      simp only [Option.toList_none, List.append_nil]
      refine ⟨h1, Int.le_trans h2 ?_⟩
      rw [Int.pow_succ]
      have : (0 : Int) < 1000 ^ i := Int.pow_pos (by decide)
      omega
    | some t =>
      have ok := h t (List.mem_of_getElem? e)
      have e2 : PER (ts.take i ++ (some t).toList) = lcmI (PER (ts.take i)) t.2.2.2 := by
        unfold PER
        rw [Option.toList_some, List.foldl_append]
        rfl
      rw [e2]
      have n0 := ok.n0
      refine ⟨(lcmI_facts h1 (by omega)).1, Int.le_trans (lcmI_le h1 (by omega)) ?_⟩
      rw [Int.pow_succ]
      exact Int.mul_le_mul h2 ok.n1 (by omega) (Int.le_of_lt (Int.pow_pos (by decide)))
theorem pow6 {i : Nat} (h : i ≤ 6) : (1000 : Int) ^ i ≤ 1000000000000000000 := by
  rcases (by omega : i = 0 ∨ i = 1 ∨ i = 2 ∨ i = 3 ∨ i = 4 ∨ i = 5 ∨ i = 6) with e | e | e | e | e | e | e <;> subst e <;> decide
theorem per_dvd {ts : List Tm} (h : ∀ t ∈ ts, OkT t) : ∀ (i : Nat), i ≤ 6 → ∀ t ∈ ts.take i, t.2.2.2 ∣ PER (ts.take i)
  | 0, _ => fun t ht => by simp at ht
  | i + 1, hi => by
    obtain ⟨h1, _⟩ := per_pow h i (by omega)
    have ih := per_dvd h i (by omega)
    rw [List.take_add_one]
    cases e : ts[i]? with
    | none =>
      simp only [Option.toList_none, List.append_nil]
      exact ih
    | some u =>
      have ok := h u (List.mem_of_getElem? e)
      have e2 : PER (ts.take i ++ (some u).toList) = lcmI (PER (ts.take i)) u.2.2.2 := by
        unfold PER
        rw [Option.toList_some, List.foldl_append]
        rfl
      have n0 := ok.n0
      have f := lcmI_facts h1 (show 0 < u.2.2.2 by omega)
      rw [e2]
      intro t ht
      rcases List.mem_append.mp ht with z | z
      · exact Int.dvd_trans (ih t z) f.2.1
      · rw [Option.toList_some, List.mem_singleton] at z
        subst z
        exact f.2.2.1
/-- the fields of a measure -/
def mF (b : Int) (p : Addr) (c s : Int) : List (Str × V) := [("base", .int b), ("terms", .ref p), ("full_count", .int c), ("full_sum", .int s)]
structure Me (K : PySem.W.Frag) (C : Addr) (H : Hp) (x : Addr) (b : Int) (ts : List Tm) : Prop where
  ex : ∃ dx p, H x = some (.ins C dx (mF b p (PER ts) (UP b ts (PER ts)))) ∧ TmT K H p ts
  gd : GoodM b ts
  po : 0 < UP b ts (PER ts)
def spUpto (K : PySem.W.Frag) (C : Addr) : Sp := fun vs H Q _ => ∃ (x p dx : Addr) (k b : Int) (ts : List Tm) (fs : List (Str × V)), vs = [.ref x, .int k] ∧ H x = some (.ins C dx fs) ∧ fs.lookup (Str.ofString "base") = some (V.int b) ∧ fs.lookup (Str.ofString "terms") = some (V.ref p) ∧ TmT K H p ts ∧ 0 ≤ b ∧ b ≤ 20000 ∧ Bt 400 k ∧ ∀ H', Same H H' → Q (.int (UP b ts k)) H'
def spSeek (K : PySem.W.Frag) (C : Addr) : Sp := fun vs H Q _ => ∃ (x : Addr) (n b : Int) (ts : List Tm), vs = [.ref x, .int n] ∧ Me K C H x b ts ∧ Bt 300 n ∧ ∀ (k : Int) H', Same H H' → UP b ts k ≤ n → n < UP b ts (k + 1) → Bt 370 k → Q (.int k) H'
def spInitM (K : PySem.W.Frag) (C : Addr) : Sp := fun vs H Q _ => ∃ (x dx : Addr) (b : Int) (v : V) (us : List V) (ts : List Tm), vs = [.ref x, .int b, v] ∧ H x = some (.ins C dx []) ∧ Tms H us ts ∧ ((v = .non ∧ us = []) ∨ ∃ l, v = .ref l ∧ H l = some (.lst us)) ∧ (∀ t ∈ ts, OkT t) ∧ ts.length ≤ 6 ∧ GoodM b ts ∧ 0 < UP b ts (PER ts) ∧
  ∀ H', (∀ y o, y ≠ x → H y = some o → H' y = some o) → Me K C H' x b ts → Q .non H'
theorem Me.same {K : PySem.W.Frag} {C : Addr} {H H' : Hp} {x : Addr} {b : Int} {ts : List Tm} (M : Me K C H x b ts) (s : Same H H') : Me K C H' x b ts := by
  obtain ⟨dx, p, e, T⟩ := M.ex
  exact ⟨⟨dx, p, s _ _ e, T.same s⟩, M.gd, M.po⟩
theorem Me.meth {K : PySem.W.Frag} {C : Addr} {H : Hp} {x : Addr} {b : Int} {ts : List Tm} (M : Me K C H x b ts) : ∃ dx fs, H x = some (.ins C dx fs) ∧ fs.lookup (Str.ofString "seek") = none ∧ fs.lookup (Str.ofString "at") = none ∧ fs.lookup (Str.ofString "upto") = none ∧ fs.lookup (Str.ofString "period") = none := by
  obtain ⟨dx, p, e, T⟩ := M.ex
  exact ⟨dx, _, e, rfl, rfl, rfl, rfl⟩
def spAt (K : PySem.W.Frag) (C : Addr) : Sp := fun vs H Q _ => ∃ (x : Addr) (k b : Int) (ts : List Tm), vs = [.ref x, .int k] ∧ Me K C H x b ts ∧ Bt 400 k ∧ ∀ H', Same H H' → Q (.int (AT b ts k)) H'
theorem init_me {K : PySem.W.Frag} {C : Addr} {H1 : Hp} {x dx : Addr} {b : Int} {v : V} {us : List V} {ts : List Tm} {Q : VK} {E : XK} (hx : H1 x = none) (hdx : H1 dx = none) (ne : dx ≠ x) (hT : Tms H1 us ts) (hv : (v = .non ∧ us = []) ∨ ∃ l, v = .ref l ∧ H1 l = some (.lst us)) (ok : ∀ t ∈ ts, OkT t) (few : ts.length ≤ 6) (g : GoodM b ts) (po : 0 < UP b ts (PER ts))
    (q : ∀ H', Same H1 H' → Me K C H' x b ts → Q .non H') : spInitM K C [.ref x, .int b, v] (upd (upd H1 dx (.own x)) x (.ins C dx [])) Q E := by
  have k4 : Same H1 (upd (upd H1 dx (.own x)) x (.ins C dx [])) := (same_new hdx _).trans (same_new (by rw [upd_ne (Ne.symm ne)]; exact hx) _)
  have x4 : upd (upd H1 dx (.own x)) x (.ins C dx []) x = some (.ins C dx []) := upd_same
  refine ⟨x, dx, b, v, us, ts, rfl, x4, hT.same k4, ?_, ok, few, g, po, fun H5 k5 M => q _ (fun y o h => k5 y o (fun e => by subst e; rw [hx] at h; cases h) (k4 y o h)) M⟩
  rcases hv with z | ⟨l, z, e⟩
  · exact .inl z
  · exact .inr ⟨l, z, k4 _ _ e⟩
/-- all but one list -/
def But (l : Addr) (H H' : Hp) : Prop := ∀ y o, y ≠ l → H y = some o → H' y = some o
theorem But.upd {l : Addr} {H : Hp} {o : HO} : But l H (L2.upd H l o) := fun y o hy h => by rw [upd_ne hy]; exact h
/-- neither a tuple nor what is kept as it is -/
structure NoT (o : HO) : Prop where
  t : ∀ vs, o ≠ .tup vs
  f : ∀ ob u, o ≠ .frz ob u
theorem NoT.lst {xs : List V} : NoT (.lst xs) := ⟨fun _ z => (nomatch z), fun _ _ z => (nomatch z)⟩
theorem NoT.ins {C d : Addr} {fs : List (Str × V)} : NoT (.ins C d fs) := ⟨fun _ z => (nomatch z), fun _ _ z => (nomatch z)⟩
theorem Tms.but {l : Addr} {H H' : Hp} {o : HO} (hl : H l = some o) (no : NoT o) (k : But l H H') : ∀ {vs : List V} {ts : List Tm}, Tms H vs ts → Tms H' vs ts
  | _, _, .nil => .nil
  | _, _, .cons g r => .cons (k _ _ (ne_of g hl (Ne.symm (no.t _))) g) (Tms.but hl no k r)
theorem sqT_but {K : PySem.W.Frag} {l p : Addr} {H H' : Hp} {o : HO} {vs : List V} (hl : H l = some o) (no : NoT o) (k : But l H H') (h : SqT K H p vs) : SqT K H' p vs := by
  rcases h with (h | ⟨o, h⟩) | h
  · exact .inl (.inl (k _ _ (ne_of h hl (Ne.symm (no.t _))) h))
  · exact .inl (.inr ⟨o, k _ _ (ne_of h hl (Ne.symm (no.f _ _))) h⟩)
  · exact .inr h
theorem TmT.but {K : PySem.W.Frag} {l p : Addr} {H H' : Hp} {o : HO} {ts : List Tm} (hl : H l = some o) (no : NoT o) (k : But l H H') (T : TmT K H p ts) : TmT K H' p ts := by
  obtain ⟨vs, h1, h2⟩ := T.ex
  exact ⟨⟨vs, sqT_but hl no k h1, h2.but hl no k⟩, T.ok, T.few⟩
theorem Me.butX {K : PySem.W.Frag} {C l : Addr} {H H' : Hp} {o : HO} {x : Addr} {b : Int} {ts : List Tm} (M : Me K C H x b ts) (hl : H l = some o) (no : NoT o) (ne : x ≠ l) (k : But l H H') : Me K C H' x b ts := by
  obtain ⟨dx, p, e, T⟩ := M.ex
  exact ⟨⟨dx, p, k _ _ ne e, T.but hl no k⟩, M.gd, M.po⟩
theorem Me.but {K : PySem.W.Frag} {C l : Addr} {H H' : Hp} {xs : List V} {x : Addr} {b : Int} {ts : List Tm} (M : Me K C H x b ts) (hl : H l = some (.lst xs)) (k : But l H H') : Me K C H' x b ts := by
  obtain ⟨dx, p, e, T⟩ := M.ex
  exact M.butX hl .lst (ne_of e hl (by intro z; cases z)) k
theorem Tms.upd {H : Hp} {l : Addr} {xs : List V} {o : HO} (h : H l = some (.lst xs)) : ∀ {vs : List V} {ts : List Tm}, Tms H vs ts → Tms (L2.upd H l o) vs ts
  | _, _, .nil => .nil
  | _, _, .cons g r => .cons (by rw [upd_ne (ne_of g h (by intro z; cases z))]; exact g) (Tms.upd h r)
theorem Tms.snoc {H : Hp} {p : Addr} {t : Tm} (h : H p = some (.tup (tmV t))) : ∀ {vs : List V} {ts : List Tm}, Tms H vs ts → Tms H (vs ++ [.ref p]) (ts ++ [t])
  | _, _, .nil => .cons h .nil
  | _, _, .cons g r => .cons g (Tms.snoc h r)
def spNumB : Sp := fun vs H Q _ => ∃ c : Int, vs = [.int c] ∧ ∀ (k : Int) (H' : Hp), Same H H' → -10000000000000000000000000000000000000000 ≤ k → k ≤ 10000000000000000000000000000000000000000 → Q (.int k) H'
/-- terms in a list -/
structure TmL (K : PySem.W.Frag) (H : Hp) (l : Addr) (us : List V) (ts : List Tm) : Prop where
  li : H l = some (.lst us)
  tm : Tms H us ts
  ok : ∀ t ∈ ts, OkT t
  few : ts.length ≤ 6
theorem TmL.same {K : PySem.W.Frag} {H H' : Hp} {l : Addr} {us : List V} {ts : List Tm} (T : TmL K H l us ts) (s : Same H H') : TmL K H' l us ts := ⟨s _ _ T.li, T.tm.same s, T.ok, T.few⟩
theorem TmL.per {K : PySem.W.Frag} {H : Hp} {l : Addr} {us : List V} {ts : List Tm} (T : TmL K H l us ts) : 0 < PER ts ∧ PER ts ≤ 1000000000000000000 ∧ ∀ t ∈ ts, t.2.2.2 ∣ PER ts := by
  obtain ⟨h1, h2⟩ := per_pow T.ok 6 (by decide)
  have hd := per_dvd T.ok 6 (by decide)
  rw [List.take_of_length_le T.few] at h1 h2 hd
  exact ⟨h1, Int.le_trans h2 (pow6 (by decide)), hd⟩
theorem GoodS.gm {ls : List Int} {lp : Int} {ts : List Tm} (g : GoodS ls lp ts) : GoodM ls.sum ts := ⟨g.sum.1, g.sum.2, Int.le_of_lt g.f1⟩
theorem per_pos {ts : List Tm} (ok : ∀ t ∈ ts, OkT t) (few : ts.length ≤ 6) : 0 < PER ts ∧ PER ts ≤ 1000000000000000000 ∧ ∀ t ∈ ts, t.2.2.2 ∣ PER ts := by
  obtain ⟨h1, h2⟩ := per_pow ok 6 (by decide)
  have hd := per_dvd ok 6 (by decide)
  rw [List.take_of_length_le few] at h1 h2 hd
  exact ⟨h1, Int.le_trans h2 (pow6 (by decide)), hd⟩
theorem GoodS.po {ls : List Int} {lp : Int} {ts : List Tm} (g : GoodS ls lp ts) : 0 < UP ls.sum ts (PER ts) := UP_pos g.ok g.f1 (per_pos g.ok g.few).1
def sF (s lp : Int) (p y : Addr) : List (Str × V) := [("start", .int s), ("months", .ref p), ("leap", .int lp), ("years", .ref y)]
structure SunO (K : PySem.W.Frag) (CS CM : Addr) (H : Hp) (x : Addr) (s : Int) (ls : List Int) (lp : Int) (ts : List Tm) : Prop where
  ex : ∃ dx p y, H x = some (.ins CS dx (sF s lp p y)) ∧ SqT K H p (ls.map V.int) ∧ Me K CM H y ls.sum ts
  gd : GoodS ls lp ts
  bs : Bt 290 s
section
variable {K : PySem.W.Frag} {CS CM : Addr} {H H' : Hp} {x : Addr} {s : Int} {ls : List Int} {lp : Int} {ts : List Tm}
theorem SunO.same (S : SunO K CS CM H x s ls lp ts) (e : Same H H') : SunO K CS CM H' x s ls lp ts := by
  obtain ⟨dx, p, y, h1, h2, h3⟩ := S.ex
  exact ⟨⟨dx, p, y, e _ _ h1, e.tup h2, h3.same e⟩, S.gd, S.bs⟩
theorem SunO.but {l : Addr} {xs : List V} (S : SunO K CS CM H x s ls lp ts) (hl : H l = some (.lst xs)) (k : But l H H') : SunO K CS CM H' x s ls lp ts := by
  obtain ⟨dx, p, y, h1, h2, h3⟩ := S.ex
  exact ⟨⟨dx, p, y, k _ _ (ne_of h1 hl (by intro z; cases z)) h1, sqT_but hl .lst k h2, h3.but hl k⟩, S.gd, S.bs⟩
theorem SunO.meth (S : SunO K CS CM H x s ls lp ts) : ∃ dx fs, H x = some (.ins CS dx fs) ∧ fs.lookup (Str.ofString "year_start") = none ∧ fs.lookup (Str.ofString "year_at") = none ∧ fs.lookup (Str.ofString "lengths") = none ∧ fs.lookup (Str.ofString "cycle") = none ∧ fs.lookup (Str.ofString "date_of") = none ∧ fs.lookup (Str.ofString "day_of") = none := by
  obtain ⟨dx, p, y, e, _⟩ := S.ex
  exact ⟨dx, _, e, rfl, rfl, rfl, rfl, rfl, rfl⟩
end
def spRefMo (K : PySem.W.Frag) : Sp := fun vs H Q _ => ∃ (l : Addr) (lp : Int) (ls : List Int) (ts : List Tm), vs = [.ref l, .int lp] ∧ SqL K H l (ls.map V.int) ∧ GoodS ls lp ts ∧ Q .non H
def spInitS (K : PySem.W.Frag) (CS CM : Addr) : Sp := fun vs H Q _ => ∃ (x dx ll : Addr) (s lp : Int) (v : V) (us : List V) (ls : List Int) (ts : List Tm), vs = [.ref x, .int s, .ref ll, .int lp, v] ∧ H x = some (.ins CS dx []) ∧ H ll = some (.lst (ls.map V.int)) ∧ Tms H us ts ∧ ((v = .non ∧ us = []) ∨ ∃ l, v = .ref l ∧ H l = some (.lst us)) ∧ GoodS ls lp ts ∧ Bt 290 s ∧
  ∀ H', (∀ y o, y ≠ x → H y = some o → H' y = some o) → SunO K CS CM H' x s ls lp ts → Q .non H'
theorem init_sun {K : PySem.W.Frag} {CS CM : Addr} {H1 : Hp} {x dx ll : Addr} {s lp : Int} {v : V} {us : List V} {ls : List Int} {ts : List Tm} {Q : VK} {E : XK} (hx : H1 x = none) (hdx : H1 dx = none) (ne : dx ≠ x) (hl : H1 ll = some (.lst (ls.map V.int))) (hT : Tms H1 us ts) (hv : (v = .non ∧ us = []) ∨ ∃ l, v = .ref l ∧ H1 l = some (.lst us)) (g : GoodS ls lp ts) (bs : Bt 290 s)
    (q : ∀ H', Same H1 H' → SunO K CS CM H' x s ls lp ts → Q .non H') : spInitS K CS CM [.ref x, .int s, .ref ll, .int lp, v] (upd (upd H1 dx (.own x)) x (.ins CS dx [])) Q E := by
  have k4 : Same H1 (upd (upd H1 dx (.own x)) x (.ins CS dx [])) := (same_new hdx _).trans (same_new (by rw [upd_ne (Ne.symm ne)]; exact hx) _)
  have x4 : upd (upd H1 dx (.own x)) x (.ins CS dx []) x = some (.ins CS dx []) := upd_same
  refine ⟨x, dx, ll, s, lp, v, us, ls, ts, rfl, x4, k4 _ _ hl, hT.same k4, ?_, g, bs, fun H5 k5 M => q _ (fun y o h => k5 y o (fun e => by subst e; rw [hx] at h; cases h) (k4 y o h)) M⟩
  rcases hv with z | ⟨l, z, e⟩
  · exact .inl z
  · exact .inr ⟨l, z, k4 _ _ e⟩
def spYS (K : PySem.W.Frag) (CS CM : Addr) : Sp := fun vs H Q _ => ∃ (x : Addr) (n s : Int) (ls : List Int) (lp : Int) (ts : List Tm), vs = [.ref x, .int n] ∧ SunO K CS CM H x s ls lp ts ∧ Bt 390 n ∧ ∀ H', Same H H' → Q (.int (s + UP ls.sum ts n)) H'
def spYA (K : PySem.W.Frag) (CS CM : Addr) : Sp := fun vs H Q _ => ∃ (x : Addr) (n s : Int) (ls : List Int) (lp : Int) (ts : List Tm), vs = [.ref x, .int n] ∧ SunO K CS CM H x s ls lp ts ∧ Bt 290 n ∧ ∀ (k : Int) H', Same H H' → s + UP ls.sum ts k ≤ n → n < s + UP ls.sum ts (k + 1) → Bt 300 k → Q (.int k) H'
def spLens (K : PySem.W.Frag) (CS CM : Addr) : Sp := fun vs H Q _ => ∃ (x : Addr) (n s : Int) (ls : List Int) (lp : Int) (ts : List Tm), vs = [.ref x, .int n] ∧ SunO K CS CM H x s ls lp ts ∧ Bt 390 n ∧ ∀ (p : Addr) H', H p = none → Same H H' → H' p = some (.lst ((LENS ls lp ts n).map V.int)) → Q (.ref p) H'
theorem bt_up {n : Nat} {b : Int} {ts : List Tm} (h : ∀ t ∈ ts, OkT t) (b0 : 0 ≤ b) (b1 : b ≤ 20000) (few : ts.length ≤ 6) {k : Int} (bk : Bt n k) : Bt (n + 16) (UP b ts k) := by
  have := UP_abs h b0 b1 few (k := k) (K := (k.natAbs : Int)) (by omega) (by omega)
  unfold Bt at *
  rw [Nat.pow_add]
  omega
def moF (s : Int) (d m : Addr) : List (Str × V) := [("start", .int s), ("days", .ref d), ("many", .ref m)]
structure MoonO (K : PySem.W.Frag) (CO CM : Addr) (H : Hp) (x : Addr) (s bd : Int) (td : List Tm) (bm : Int) (tm : List Tm) : Prop where
  ex : ∃ dx d m, H x = some (.ins CO dx (moF s d m)) ∧ Me K CM H d bd td ∧ Me K CM H m bm tm
  gd : GoodMo bd td bm tm
  bs : Bt 290 s
section
variable {K : PySem.W.Frag} {CO CM : Addr} {H H' : Hp} {x : Addr} {s bd : Int} {td : List Tm} {bm : Int} {tm : List Tm}
theorem MoonO.same (S : MoonO K CO CM H x s bd td bm tm) (e : Same H H') : MoonO K CO CM H' x s bd td bm tm := by
  obtain ⟨dx, d, m, h1, h2, h3⟩ := S.ex
  exact ⟨⟨dx, d, m, e _ _ h1, h2.same e, h3.same e⟩, S.gd, S.bs⟩
theorem MoonO.but {l : Addr} {xs : List V} (S : MoonO K CO CM H x s bd td bm tm) (hl : H l = some (.lst xs)) (k : But l H H') : MoonO K CO CM H' x s bd td bm tm := by
  obtain ⟨dx, d, m, h1, h2, h3⟩ := S.ex
  exact ⟨⟨dx, d, m, k _ _ (ne_of h1 hl (by intro z; cases z)) h1, h2.but hl k, h3.but hl k⟩, S.gd, S.bs⟩
theorem MoonO.meth (S : MoonO K CO CM H x s bd td bm tm) : ∃ dx fs, H x = some (.ins CO dx fs) ∧ fs.lookup (Str.ofString "year_start") = none ∧ fs.lookup (Str.ofString "year_at") = none ∧ fs.lookup (Str.ofString "lengths") = none ∧ fs.lookup (Str.ofString "cycle") = none ∧ fs.lookup (Str.ofString "date_of") = none ∧ fs.lookup (Str.ofString "day_of") = none := by
  obtain ⟨dx, d, m, e, _⟩ := S.ex
  exact ⟨dx, _, e, rfl, rfl, rfl, rfl, rfl, rfl⟩
end
def spRefPt (K : PySem.W.Frag) (C : Addr) : Sp := fun vs H Q _ => ∃ (y : Addr) (b g : Int) (ts : List Tm), vs = [.ref y, .int g] ∧ Me K C H y b ts ∧ falls ts < b ∧ b ≤ g ∧ ∀ H', Same H H' → Q .non H'
def spInitMo (K : PySem.W.Frag) (CO CM : Addr) : Sp := fun vs H Q _ => ∃ (x dx d m : Addr) (s bd bm : Int) (td tm : List Tm), vs = [.ref x, .int s, .ref d, .ref m] ∧ H x = some (.ins CO dx []) ∧ Me K CM H d bd td ∧ Me K CM H m bm tm ∧ GoodMo bd td bm tm ∧ Bt 290 s ∧
  ∀ H', (∀ y o, y ≠ x → H y = some o → H' y = some o) → MoonO K CO CM H' x s bd td bm tm → Q .non H'
theorem init_moon {K : PySem.W.Frag} {CO CM : Addr} {H1 : Hp} {x dx d m : Addr} {s bd bm : Int} {td tm : List Tm} {Q : VK} {E : XK} (hx : H1 x = none) (hdx : H1 dx = none) (ne : dx ≠ x) (hd : Me K CM H1 d bd td) (hm : Me K CM H1 m bm tm) (g : GoodMo bd td bm tm) (bs : Bt 290 s)
    (q : ∀ H', Same H1 H' → MoonO K CO CM H' x s bd td bm tm → Q .non H') : spInitMo K CO CM [.ref x, .int s, .ref d, .ref m] (upd (upd H1 dx (.own x)) x (.ins CO dx [])) Q E := by
  have k4 : Same H1 (upd (upd H1 dx (.own x)) x (.ins CO dx [])) := (same_new hdx _).trans (same_new (by rw [upd_ne (Ne.symm ne)]; exact hx) _)
  have x4 : upd (upd H1 dx (.own x)) x (.ins CO dx []) x = some (.ins CO dx []) := upd_same
  exact ⟨x, dx, d, m, s, bd, bm, td, tm, rfl, x4, hd.same k4, hm.same k4, g, bs, fun H5 k5 M => q _ (fun y o h => k5 y o (fun e => by subst e; rw [hx] at h; cases h) (k4 y o h)) M⟩
def spMYS (K : PySem.W.Frag) (CO CM : Addr) : Sp := fun vs H Q _ => ∃ (x : Addr) (n s bd bm : Int) (td tm : List Tm), vs = [.ref x, .int n] ∧ MoonO K CO CM H x s bd td bm tm ∧ Bt 370 n ∧ ∀ H', Same H H' → Q (.int (MYS s bd td bm tm n)) H'
def spMYA (K : PySem.W.Frag) (CO CM : Addr) : Sp := fun vs H Q _ => ∃ (x : Addr) (n s bd bm : Int) (td tm : List Tm), vs = [.ref x, .int n] ∧ MoonO K CO CM H x s bd td bm tm ∧ Bt 290 n ∧ ∀ (k : Int) H', Same H H' → MYS s bd td bm tm k ≤ n → n < MYS s bd td bm tm (k + 1) → Bt 300 k → Q (.int k) H'
def spMLens (K : PySem.W.Frag) (CO CM : Addr) : Sp := fun vs H Q _ => ∃ (x : Addr) (n s bd bm : Int) (td tm : List Tm), vs = [.ref x, .int n] ∧ MoonO K CO CM H x s bd td bm tm ∧ Bt 370 n ∧ ∀ (p : Addr) H', H p = none → Same H H' → H' p = some (.lst ((MLEN bd td bm tm n).map V.int)) → Q (.ref p) H'
/-- a measure as a tuple of its base and its list of terms -/
structure MdT (K : PySem.W.Frag) (H : Hp) (p l : Addr) (us : List V) (b : Int) (ts : List Tm) : Prop where
  tu : H p = some (.tup [.int b, .ref l])
  tm : TmL K H l us ts
  fl : falls ts < b
theorem MdT.same {K : PySem.W.Frag} {H H' : Hp} {p l : Addr} {us : List V} {b : Int} {ts : List Tm} (T : MdT K H p l us b ts) (s : Same H H') : MdT K H' p l us b ts := ⟨s _ _ T.tu, T.tm.same s, T.fl⟩
theorem good_m {b : Int} {ts : List Tm} (f : falls ts < b) (h : b ≤ 1000) : GoodM b ts := ⟨by have := falls_nn (ts := ts); omega, by omega, Int.le_of_lt f⟩
theorem cutV_upto (xs : List Int) {j : Nat} (hj : j ≤ xs.length) : cutV (xs.map V.int) none (some (j : Int)) = (xs.take j).map V.int := by
  unfold cutV
  rw [HT.sIx_none, HT.sIx_nat, List.length_map, Nat.min_eq_left hj, List.drop_zero, Nat.sub_zero, List.map_take]
theorem rd_brk {D : Ends} {σ : L2.St} {H : Hp} (h : D.bk σ H) : tBreak D σ H := h
def CalO (K : PySem.W.Frag) (CS CO CM : Addr) (H : Hp) (x : Addr) : CalD → Prop
  | .sun s ls lp ts => SunO K CS CM H x s ls lp ts
  | .moon s bd td bm tm => MoonO K CO CM H x s bd td bm tm
def isSun : CalD → Bool
  | .sun .. => true
  | .moon .. => false
section
variable {K : PySem.W.Frag} {CS CO CM : Addr} {H H' : Hp} {x : Addr} {d : CalD}
theorem CalO.same (S : CalO K CS CO CM H x d) (e : Same H H') : CalO K CS CO CM H' x d := by
  cases d with
  | sun s ls lp ts => exact SunO.same S e
  | moon s bd td bm tm => exact MoonO.same S e
theorem CalO.but {l : Addr} {xs : List V} (S : CalO K CS CO CM H x d) (hl : H l = some (.lst xs)) (k : But l H H') : CalO K CS CO CM H' x d := by
  cases d with
  | sun s ls lp ts => exact SunO.but S hl k
  | moon s bd td bm tm => exact MoonO.but S hl k
theorem CalO.good (S : CalO K CS CO CM H x d) : d.good := by
  cases d with
  | sun s ls lp ts => exact SunO.gd S
  | moon s bd td bm tm => exact MoonO.gd S
theorem CalO.bs (S : CalO K CS CO CM H x d) : Bt 290 d.st := by
  cases d with
  | sun s ls lp ts => exact SunO.bs S
  | moon s bd td bm tm => exact MoonO.bs S
theorem CalO.ys (S : CalO K CS CO CM H x d) : ∃ C dx fs sp, (C, sp) ∈ [(CS, spYS K CS CM), (CO, spMYS K CO CM)] ∧ H x = some (.ins C dx fs) ∧ fs.lookup (Str.ofString "year_start") = none ∧
    ∀ {H2 : Hp} {n : Int} {Q : VK} {E : XK}, CalO K CS CO CM H2 x d → Bt 370 n → (∀ H', Same H2 H' → Q (.int (d.Y n)) H') → sp [.ref x, .int n] H2 Q E := by
  cases d with
  | sun s ls lp ts =>
    obtain ⟨dx, fs, e, m⟩ := SunO.meth S
    exact ⟨CS, dx, fs, _, List.mem_cons_self, e, m.1, fun S2 bn q => ⟨x, _, s, ls, lp, ts, rfl, S2, bn.mono (by decide), q⟩⟩
  | moon s bd td bm tm =>
    obtain ⟨dx, fs, e, m⟩ := MoonO.meth S
    exact ⟨CO, dx, fs, _, List.mem_cons_of_mem _ List.mem_cons_self, e, m.1, fun S2 bn q => ⟨x, _, s, bd, bm, td, tm, rfl, S2, bn, q⟩⟩
theorem CalO.le (S : CalO K CS CO CM H x d) : ∃ C dx fs sp, (C, sp) ∈ [(CS, spLens K CS CM), (CO, spMLens K CO CM)] ∧ H x = some (.ins C dx fs) ∧ fs.lookup (Str.ofString "lengths") = none ∧
    ∀ {H2 : Hp} {n : Int} {Q : VK} {E : XK}, CalO K CS CO CM H2 x d → Bt 370 n → (∀ (p : Addr) H', H2 p = none → Same H2 H' → H' p = some (.lst ((d.L n).map V.int)) → Q (.ref p) H') → sp [.ref x, .int n] H2 Q E := by
  cases d with
  | sun s ls lp ts =>
    obtain ⟨dx, fs, e, m⟩ := SunO.meth S
    exact ⟨CS, dx, fs, _, List.mem_cons_self, e, m.2.2.1, fun S2 bn q => ⟨x, _, s, ls, lp, ts, rfl, S2, bn.mono (by decide), q⟩⟩
  | moon s bd td bm tm =>
    obtain ⟨dx, fs, e, m⟩ := MoonO.meth S
    exact ⟨CO, dx, fs, _, List.mem_cons_of_mem _ List.mem_cons_self, e, m.2.2.1, fun S2 bn q => ⟨x, _, s, bd, bm, td, tm, rfl, S2, bn, q⟩⟩
end
/-- the date of a day; b: of the sun -/
def spDate (K : PySem.W.Frag) (CS CO CM : Addr) (b : Bool) : Sp := fun vs H Q _ => ∃ (x : Addr) (n : Int) (d : CalD), vs = [.ref x, .int n] ∧ isSun d = b ∧ CalO K CS CO CM H x d ∧ Bt 290 n ∧ ∀ (p : Addr) (y m r : Int) H', Same H H' → H' p = some (.tup [.int y, .int m, .int r]) → IsD d y m r → DayOf d y m r = n → Bt 300 y → Q (.ref p) H'
/-- the day of a date that is one -/
def spDay (K : PySem.W.Frag) (CS CO CM : Addr) (b : Bool) : Sp := fun vs H Q _ => ∃ (x p : Addr) (y m r : Int) (d : CalD), vs = [.ref x, .ref p] ∧ isSun d = b ∧ CalO K CS CO CM H x d ∧ SqT K H p [.int y, .int m, .int r] ∧ IsD d y m r ∧ Bt 360 y ∧ ∀ H', Same H H' → Q (.int (DayOf d y m r)) H'
section
variable {K : PySem.W.Frag} {CS CO CM : Addr} {H H' : Hp} {x : Addr} {d : CalD}
theorem CalO.dt (S : CalO K CS CO CM H x d) : ∃ C dx fs sp, (C, sp) ∈ [(CS, spDate K CS CO CM true), (CO, spDate K CS CO CM false)] ∧ H x = some (.ins C dx fs) ∧ fs.lookup (Str.ofString "date_of") = none ∧
    ∀ {H2 : Hp} {n : Int} {Q : VK} {E : XK}, CalO K CS CO CM H2 x d → Bt 290 n → (∀ (p : Addr) (y m r : Int) H', Same H2 H' → H' p = some (.tup [.int y, .int m, .int r]) → IsD d y m r → DayOf d y m r = n → Bt 300 y → Q (.ref p) H') → sp [.ref x, .int n] H2 Q E := by
  cases d with
  | sun s ls lp ts =>
    obtain ⟨dx, fs, e, m⟩ := SunO.meth S
    exact ⟨CS, dx, fs, _, List.mem_cons_self, e, m.2.2.2.2.1, fun S2 bn q => ⟨x, _, _, rfl, rfl, S2, bn, q⟩⟩
  | moon s bd td bm tm =>
    obtain ⟨dx, fs, e, m⟩ := MoonO.meth S
    exact ⟨CO, dx, fs, _, List.mem_cons_of_mem _ List.mem_cons_self, e, m.2.2.2.2.1, fun S2 bn q => ⟨x, _, _, rfl, rfl, S2, bn, q⟩⟩
theorem CalO.dy (S : CalO K CS CO CM H x d) : ∃ C dx fs sp, (C, sp) ∈ [(CS, spDay K CS CO CM true), (CO, spDay K CS CO CM false)] ∧ H x = some (.ins C dx fs) ∧ fs.lookup (Str.ofString "day_of") = none ∧
    ∀ {H2 : Hp} {p : Addr} {y m r : Int} {Q : VK} {E : XK}, CalO K CS CO CM H2 x d → SqT K H2 p [.int y, .int m, .int r] → IsD d y m r → Bt 360 y → (∀ H', Same H2 H' → Q (.int (DayOf d y m r)) H') → sp [.ref x, .ref p] H2 Q E := by
  cases d with
  | sun s ls lp ts =>
    obtain ⟨dx, fs, e, m⟩ := SunO.meth S
    exact ⟨CS, dx, fs, _, List.mem_cons_self, e, m.2.2.2.2.2, fun S2 hp hd by' q => ⟨x, _, _, _, _, _, rfl, rfl, S2, hp, hd, by', q⟩⟩
  | moon s bd td bm tm =>
    obtain ⟨dx, fs, e, m⟩ := MoonO.meth S
    exact ⟨CO, dx, fs, _, List.mem_cons_of_mem _ List.mem_cons_self, e, m.2.2.2.2.2, fun S2 hp hd by' q => ⟨x, _, _, _, _, _, rfl, rfl, S2, hp, hd, by', q⟩⟩
end
def spIsDate : Sp := fun vs H Q _ => ∃ (p : Addr) (y m r : Int), vs = [.ref p] ∧ H p = some (.tup [.int y, .int m, .int r]) ∧ ∀ H', Same H H' → Q (.bl true) H'
theorem comp_wholeT {K : PySem.W.Frag} {i : Nat} {a : Addr} {ns : List Int} {σ : L2.St} {H : Hp} {Q : VK} (ei : σ[i]? = some (some (.ref a))) (hS : SqT K H a (ns.map V.int)) (hz : ns.length ≤ 1000) (h : ∀ D, H D = none → Q (.ref D) (L2.upd H D (.lst ((ns.map fun _ => true).map V.bl)))) :
    tComp (iTup K (tVar i)) tTrue (tCall spWhole [] E0 (tCons (tVar 0) tNil)) σ H Q := by
  refine comp_t ei hS (by rw [List.length_map]; exact small1000 hz) (fun _ => true) (fun _ => .bl true) (fun x' _ D ys Q' _ h => rd_true h) (fun x' hx _ D ys Q' hD h => ?_) (fun D hD => ?_)
  · obtain ⟨n, _, rfl⟩ := List.mem_map.mp hx
    exact ⟨_, rfl, n, rfl, h⟩
  · have e : ((ns.map V.int).filter fun _ => true).map (fun _ => V.bl true) = (ns.map fun _ => true).map V.bl := by
      rw [List.filter_eq_self.mpr (fun _ _ => rfl), List.map_map, List.map_map]
      rfl
    rw [e]
    exact h D hD
theorem eq3 {a b c a' b' c' : Int} (h1 : a = a') (h2 : b = b') (h3 : c = c') : eqVs [V.int a, V.int b, V.int c] [V.int a', V.int b', V.int c'] = true := by
  subst h1 h2 h3
  show ((a == a) && ((b == b) && ((c == c) && true))) = true
  simp
/-- NoDate with its date -/
def ENoD (cD p : Addr) (H : Hp) (E : XK) : Prop := ∀ d H', Same H H' → H' d = some (.xd [("date", .ref p)]) → E (.ref cD) (some d) H'
theorem bt_log {k : Nat} {x : Int} (h : Bt k x) (hk : k ≤ 1920) (h0 : 0 < k) : x.natAbs.log2 < 1920 := by
  unfold Bt at h
  by_cases z : x.natAbs = 0
  · rw [z]; decide
  · exact Nat.lt_of_lt_of_le ((Nat.log2_lt z).mpr h) hk
def spDayE (K : PySem.W.Frag) (CS CO CM cD : Addr) (b : Bool) : Sp := fun vs H Q E => ∃ (x p : Addr) (y m r : Int) (d : CalD), vs = [.ref x, .ref p] ∧ isSun d = b ∧ CalO K CS CO CM H x d ∧ SqT K H p [.int y, .int m, .int r] ∧ Bt 300 y ∧ Bt 300 m ∧ Bt 300 r ∧ (IsD d y m r → ∀ H', Same H H' → Q (.int (DayOf d y m r)) H') ∧ (¬ IsD d y m r → ENoD cD p H E)
theorem CalO.dyE {K : PySem.W.Frag} {CS CO CM cD : Addr} {H : Hp} {x : Addr} {d : CalD} (S : CalO K CS CO CM H x d) : ∃ C dx fs sp, (C, sp) ∈ [(CS, spDayE K CS CO CM cD true), (CO, spDayE K CS CO CM cD false)] ∧ H x = some (.ins C dx fs) ∧ fs.lookup (Str.ofString "day_of") = none ∧
    ∀ {H2 : Hp} {p : Addr} {y m r : Int} {Q : VK} {E : XK}, CalO K CS CO CM H2 x d → SqT K H2 p [.int y, .int m, .int r] → Bt 300 y → Bt 300 m → Bt 300 r → (IsD d y m r → ∀ H', Same H2 H' → Q (.int (DayOf d y m r)) H') → (¬ IsD d y m r → ENoD cD p H2 E) → sp [.ref x, .ref p] H2 Q E := by
  cases d with
  | sun s ls lp ts =>
    obtain ⟨dx, fs, e, m⟩ := SunO.meth S
    exact ⟨CS, dx, fs, _, List.mem_cons_self, e, m.2.2.2.2.2, fun S2 hp b1 b2 b3 q1 q2 => ⟨x, _, _, _, _, _, rfl, rfl, S2, hp, b1, b2, b3, q1, q2⟩⟩
  | moon s bd td bm tm =>
    obtain ⟨dx, fs, e, m⟩ := MoonO.meth S
    exact ⟨CO, dx, fs, _, List.mem_cons_of_mem _ List.mem_cons_self, e, m.2.2.2.2.2, fun S2 hp b1 b2 b3 q1 q2 => ⟨x, _, _, _, _, _, rfl, rfl, S2, hp, b1, b2, b3, q1, q2⟩⟩
instance {a b c a' b' c' : Int} : Decidable (DLe a b c a' b' c') := by unfold DLe; infer_instance
instance {a b c a' b' c' : Int} : Decidable (DLt a b c a' b' c') := by unfold DLt; infer_instance
theorem lex_le {a b c a' b' c' : Int} : lexB (fun i j => decide (i ≤ j)) true [a, b, c] [a', b', c'] = decide (DLe a b c a' b' c') := by
  rw [Bool.eq_iff_iff, decide_eq_true_eq]
  unfold DLe
  by_cases h1 : a = a'
  · rw [lexB, if_pos h1]
    by_cases h2 : b = b'
    · rw [lexB, if_pos h2]
      by_cases h3 : c = c'
      · rw [lexB, if_pos h3]
        exact ⟨fun _ => by omega, fun _ => rfl⟩
      · rw [lexB, if_neg h3, decide_eq_true_eq]
        omega
    · rw [lexB, if_neg h2, decide_eq_true_eq]
      omega
  · rw [lexB, if_neg h1, decide_eq_true_eq]
    omega
theorem lex_ge {a b c a' b' c' : Int} : lexB (fun i j => decide (j ≤ i)) true [a, b, c] [a', b', c'] = decide (DLe a' b' c' a b c) := by
  rw [Bool.eq_iff_iff, decide_eq_true_eq]
  unfold DLe
  by_cases h1 : a = a'
  · rw [lexB, if_pos h1]
    by_cases h2 : b = b'
    · rw [lexB, if_pos h2]
      by_cases h3 : c = c'
      · rw [lexB, if_pos h3]
        exact ⟨fun _ => by omega, fun _ => rfl⟩
      · rw [lexB, if_neg h3, decide_eq_true_eq]
        omega
    · rw [lexB, if_neg h2, decide_eq_true_eq]
      omega
  · rw [lexB, if_neg h1, decide_eq_true_eq]
    omega
theorem lex_lt {a b c a' b' c' : Int} : lexB (fun i j => decide (i < j)) false [a, b, c] [a', b', c'] = decide (DLt a b c a' b' c') := by
  rw [Bool.eq_iff_iff, decide_eq_true_eq]
  unfold DLt
  by_cases h1 : a = a'
  · rw [lexB, if_pos h1]
    by_cases h2 : b = b'
    · rw [lexB, if_pos h2]
      by_cases h3 : c = c'
      · rw [lexB, if_pos h3]
        exact ⟨fun z => (nomatch z), fun z => by omega⟩
      · rw [lexB, if_neg h3, decide_eq_true_eq]
        omega
    · rw [lexB, if_neg h2, decide_eq_true_eq]
      omega
  · rw [lexB, if_neg h1, decide_eq_true_eq]
    omega
def cF (o n : Addr) (k : Int) (lo fn : Addr) : List (Str × V) := [("old", .ref o), ("new", .ref n), ("day", .int k), ("last_old", .ref lo), ("first_new", .ref fn)]
def CalH (K : PySem.W.Frag) (CS CO CM CC : Addr) (H : Hp) : Addr → CalT → Prop
  | x, .one d => CalO K CS CO CM H x d
  | x, .chg a b k => ∃ (dx o n lo fn : Addr) (p q s p' q' s' : Int), H x = some (.ins CC dx (cF o n k lo fn)) ∧ CalH K CS CO CM CC H o a ∧ CalH K CS CO CM CC H n b ∧ H lo = some (.tup [.int p, .int q, .int s]) ∧ H fn = some (.tup [.int p', .int q', .int s']) ∧
    a.D (k - 1) p q s ∧ b.D k p' q' s' ∧ DLt p q s p' q' s' ∧ Bt 288 k
theorem made_in {H1 : Hp} {x dx : Addr} {o o' : HO} (hx : H1 x = none) (hd : H1 dx = none) : Same H1 (upd (upd H1 dx o) x o') := fun y u e => by
  rw [upd_ne (ne_of_none e hx), upd_ne (ne_of_none e hd)]; exact e
section
variable {K : PySem.W.Frag} {CS CO CM CC cD cG : Addr} {H H' : Hp}
theorem CalH.same : ∀ {c : CalT} {x : Addr}, CalH K CS CO CM CC H x c → Same H H' → CalH K CS CO CM CC H' x c
  | .one d, x, S, e => CalO.same S e
  | .chg a b k, x, S, e => by
    obtain ⟨dx, o, n, lo, fn, p, q, s, p', q', s', h1, h2, h3, h4, h5, h6⟩ := S
    exact ⟨dx, o, n, lo, fn, p, q, s, p', q', s', e _ _ h1, CalH.same h2 e, CalH.same h3 e, e _ _ h4, e _ _ h5, h6⟩
theorem CalH.good : ∀ {c : CalT} {x : Addr}, CalH K CS CO CM CC H x c → c.good
  | .one d, x, S => CalO.good S
  | .chg a b k, x, S => by
    obtain ⟨dx, o, n, lo, fn, p, q, s, p', q', s', h1, h2, h3, h4, h5, h6, h7, h8, _⟩ := S
    exact ⟨CalH.good h2, CalH.good h3, p, q, s, p', q', s', h6, h7, h8⟩
end
/-- the date of a day by a change whose calendars are at most m deep -/
def spDateC (K : PySem.W.Frag) (CS CO CM CC : Addr) (m : Nat) : Sp := fun vs H Q _ => ∃ (x : Addr) (n k : Int) (a b : CalT), vs = [.ref x, .int n] ∧ CalH K CS CO CM CC H x (.chg a b k) ∧ a.deep ≤ m ∧ b.deep ≤ m ∧ Bt 290 n ∧
  ∀ (p : Addr) (y mo r : Int) H', Same H H' → H' p = some (.tup [.int y, .int mo, .int r]) → (CalT.chg a b k).D n y mo r → Bt 300 y → Bt 300 mo → Bt 300 r → Q (.ref p) H'
def EGap (cG p : Addr) (k : Int) (H : Hp) (E : XK) : Prop := ∀ d H', Same H H' → H' d = some (.xd [("date", .ref p), ("day", .int k)]) → E (.ref cG) (some d) H'
structure OutQ (cD cG : Addr) (c : CalT) (y m r : Int) (p : Addr) (H : Hp) (Q : VK) (E : XK) : Prop where
  d : ∀ n, c.Out y m r (.day n) → ∀ H', Same H H' → Q (.int n) H'
  n : c.Out y m r .none → ENoD cD p H E
  g : ∀ k, c.Out y m r (.gap k) → EGap cG p k H E
def spDayC (K : PySem.W.Frag) (CS CO CM CC cD cG : Addr) (m : Nat) : Sp := fun vs H Q E => ∃ (x p : Addr) (y mo r k : Int) (a b : CalT), vs = [.ref x, .ref p] ∧ CalH K CS CO CM CC H x (.chg a b k) ∧ a.deep ≤ m ∧ b.deep ≤ m ∧ SqT K H p [.int y, .int mo, .int r] ∧ Bt 300 y ∧ Bt 300 mo ∧ Bt 300 r ∧ OutQ cD cG (.chg a b k) y mo r p H Q E
def spInitC (K : PySem.W.Frag) (CS CO CM CC cN : Addr) (m : Nat) : Sp := fun vs H Q E => ∃ (H0 : Hp) (x dx o nw : Addr) (a b : CalT) (k : Int), vs = [.ref x, .ref o, .ref nw, .int k] ∧ H0 x = none ∧ H0 dx = none ∧ dx ≠ x ∧ H = upd (upd H0 dx (.own x)) x (.ins CC dx []) ∧ CalH K CS CO CM CC H0 o a ∧ CalH K CS CO CM CC H0 nw b ∧ a.deep ≤ m ∧ b.deep ≤ m ∧ Bt 288 k ∧
  ∀ y mo r y' mo' r', a.D (k - 1) y mo r → b.D k y' mo' r' → (DLt y mo r y' mo' r' → ∀ H', Same H0 H' → CalH K CS CO CM CC H' x (.chg a b k) → Q .non H') ∧ (¬ DLt y mo r y' mo' r' → ∀ H', Same H0 H' → E (.ref cN) none H')
section
variable {K : PySem.W.Frag} {CS CO CM CC cD cG : Addr} {H H' : Hp} {x : Addr}
theorem isd_bt {d : CalD} (g : d.good) {y m r : Int} (h : IsD d y m r) : Bt 300 m ∧ Bt 300 r := by
  have m0 := h.m0
  have m1 := h.m1
  have r0 := h.r0
  have r1 := h.r1
  have l := CalD.len g y
  have e := CalD.mem g y _ (getD_mem' (ls := d.L y) (i := (m - 1).toNat) (by omega))
  have big : 2000 < 2 ^ 300 := by decide
  unfold Bt
  omega
theorem CalH.dt0 {c : CalT} (S : CalH K CS CO CM CC H x c) (hc : c.deep ≤ 0) : ∃ C dx fs sp, (C, sp) ∈ [(CS, spDate K CS CO CM true), (CO, spDate K CS CO CM false)] ∧ H x = some (.ins C dx fs) ∧ fs.lookup (Str.ofString "date_of") = none ∧
    ∀ {H2 : Hp} {n : Int} {Q : VK} {E : XK}, CalH K CS CO CM CC H2 x c → Bt 290 n → (∀ (p : Addr) (y m r : Int) H', Same H2 H' → H' p = some (.tup [.int y, .int m, .int r]) → c.D n y m r → Bt 300 y → Bt 300 m → Bt 300 r → Q (.ref p) H') → sp [.ref x, .int n] H2 Q E := by
  cases c with
  | one d =>
    obtain ⟨C, dx, fs, sp, mem, e, lk, use⟩ := CalO.dt S
    exact ⟨C, dx, fs, sp, mem, e, lk, fun S2 bn q => use S2 bn fun p y m r H' s t hd ed by' => q p y m r H' s t ⟨hd, ed⟩ by' (isd_bt (CalO.good S) hd).1 (isd_bt (CalO.good S) hd).2⟩
  | chg a b k => exact absurd hc (by show ¬ (max a.deep b.deep + 1 ≤ 0); omega)
theorem CalH.dtS {c : CalT} (m : Nat) (S : CalH K CS CO CM CC H x c) (hc : c.deep ≤ m + 1) : ∃ C dx fs sp, (C, sp) ∈ [(CS, spDate K CS CO CM true), (CO, spDate K CS CO CM false), (CC, spDateC K CS CO CM CC m)] ∧ H x = some (.ins C dx fs) ∧ fs.lookup (Str.ofString "date_of") = none ∧
    ∀ {H2 : Hp} {n : Int} {Q : VK} {E : XK}, CalH K CS CO CM CC H2 x c → Bt 290 n → (∀ (p : Addr) (y m r : Int) H', Same H2 H' → H' p = some (.tup [.int y, .int m, .int r]) → c.D n y m r → Bt 300 y → Bt 300 m → Bt 300 r → Q (.ref p) H') → sp [.ref x, .int n] H2 Q E := by
  cases c with
  | one d =>
    obtain ⟨C, dx, fs, sp, mem, e, lk, use⟩ := CalH.dt0 (CC := CC) S (Nat.zero_le _)
    refine ⟨C, dx, fs, sp, ?_, e, lk, use⟩
    rcases List.mem_cons.mp mem with z | z
    · exact List.mem_cons.mpr (.inl z)
    · rcases List.mem_cons.mp z with z | z
      · exact List.mem_cons_of_mem _ (List.mem_cons.mpr (.inl z))
      · cases z
  | chg a b k =>
    obtain ⟨dx, o, n, lo, fn, p, q, s, p', q', s', h1, _⟩ := id S
    have hc' : max a.deep b.deep + 1 ≤ m + 1 := hc
    exact ⟨CC, dx, _, _, List.mem_cons_of_mem _ (List.mem_cons_of_mem _ List.mem_cons_self), h1, rfl, fun S2 bn q => ⟨x, _, k, a, b, rfl, S2, by omega, by omega, bn, q⟩⟩
theorem CalH.dy0 {c : CalT} (S : CalH K CS CO CM CC H x c) (hc : c.deep ≤ 0) : ∃ C dx fs sp, (C, sp) ∈ [(CS, spDayE K CS CO CM cD true), (CO, spDayE K CS CO CM cD false)] ∧ H x = some (.ins C dx fs) ∧ fs.lookup (Str.ofString "day_of") = none ∧
    ∀ {H2 : Hp} {p : Addr} {y m r : Int} {Q : VK} {E : XK}, CalH K CS CO CM CC H2 x c → SqT K H2 p [.int y, .int m, .int r] → Bt 300 y → Bt 300 m → Bt 300 r → OutQ cD cG c y m r p H2 Q E → sp [.ref x, .ref p] H2 Q E := by
  cases c with
  | one d =>
    obtain ⟨C, dx, fs, sp, mem, e, lk, use⟩ := CalO.dyE (cD := cD) S
    exact ⟨C, dx, fs, sp, mem, e, lk, fun S2 hp b1 b2 b3 q => use S2 hp b1 b2 b3 (fun hd H' s => q.d _ (.inl ⟨hd, rfl⟩) H' s) (fun hd => q.n (.inr ⟨hd, rfl⟩))⟩
  | chg a b k => exact absurd hc (by show ¬ (max a.deep b.deep + 1 ≤ 0); omega)
theorem CalH.dyS {c : CalT} (m : Nat) (S : CalH K CS CO CM CC H x c) (hc : c.deep ≤ m + 1) : ∃ C dx fs sp, (C, sp) ∈ [(CS, spDayE K CS CO CM cD true), (CO, spDayE K CS CO CM cD false), (CC, spDayC K CS CO CM CC cD cG m)] ∧ H x = some (.ins C dx fs) ∧ fs.lookup (Str.ofString "day_of") = none ∧
    ∀ {H2 : Hp} {p : Addr} {y m r : Int} {Q : VK} {E : XK}, CalH K CS CO CM CC H2 x c → SqT K H2 p [.int y, .int m, .int r] → Bt 300 y → Bt 300 m → Bt 300 r → OutQ cD cG c y m r p H2 Q E → sp [.ref x, .ref p] H2 Q E := by
  cases c with
  | one d =>
    obtain ⟨C, dx, fs, sp, mem, e, lk, use⟩ := CalH.dy0 (CC := CC) (cD := cD) (cG := cG) S (Nat.zero_le _)
    refine ⟨C, dx, fs, sp, ?_, e, lk, use⟩
    rcases List.mem_cons.mp mem with z | z
    · exact List.mem_cons.mpr (.inl z)
    · rcases List.mem_cons.mp z with z | z
      · exact List.mem_cons_of_mem _ (List.mem_cons.mpr (.inl z))
      · cases z
  | chg a b k =>
    obtain ⟨dx, o, n, lo, fn, p, q, s, p', q', s', h1, _⟩ := id S
    have hc' : max a.deep b.deep + 1 ≤ m + 1 := hc
    exact ⟨CC, dx, _, _, List.mem_cons_of_mem _ (List.mem_cons_of_mem _ List.mem_cons_self), h1, rfl, fun S2 hp b1 b2 b3 q => ⟨x, _, _, _, _, k, a, b, rfl, S2, by omega, by omega, hp, b1, b2, b3, q⟩⟩
end
theorem CalD.btk {d : CalD} {k : Nat} (g : d.good) {n : Int} (h : Bt k n) (hs : Bt k d.st) : Bt (k + 33) (d.Y n) := by
  cases d with
  | sun s ls lp ts =>
    have := bt_up (GoodS.ok g) (GoodS.sum g).1 (GoodS.sum g).2 (GoodS.few g) h
    exact ((Bt.mono hs (show k ≤ k + 16 by omega)).add this).mono (by omega)
  | moon s bd td bm tm =>
    have f1 := falls_nn (ts := td)
    have f2 := falls_nn (ts := tm)
    have h1 := GoodMo.fd g
    have h2 := GoodMo.fm g
    have h3 := GoodMo.gd g
    have h4 := GoodMo.gm g
    have a := bt_up (b := bm) (GoodMo.okm g) (by omega) (by omega) (GoodMo.fwm g) h
    have b := bt_up (b := bd) (GoodMo.okd g) (by omega) (by omega) (GoodMo.fwd g) a
    exact ((Bt.mono hs (show k ≤ k + 16 + 16 by omega)).add b).mono (by omega)
def CalT.bd (k : Nat) : CalT → Prop
  | .one d => Bt k d.st
  | .chg a b _ => a.bd k ∧ b.bd k
theorem CalT.bd_mono {k m : Nat} (h : k ≤ m) : ∀ {c : CalT}, c.bd k → c.bd m
  | .one d, b => Bt.mono b h
  | .chg a b _, z => ⟨CalT.bd_mono h z.1, CalT.bd_mono h z.2⟩
theorem CalT.yb {k : Nat} : ∀ {c : CalT}, c.good → c.bd k → ∀ {n y m r : Int}, Bt k n → c.D n y m r → Bt (k + 2) y
  | .one d, g, b, n, y, m, r, bn, h => by
    have e := h.1.year g
    rw [h.2] at e
    have z := CalD.yb g e.1 e.2
    have b' : Bt k d.st := b
    have : 0 < 2 ^ k := Nat.two_pow_pos k
    unfold Bt at *
    rw [Nat.pow_add]
    omega
  | .chg a b k', g, z, n, y, m, r, bn, h => by
    rcases h with ⟨_, h⟩ | ⟨_, h⟩
    · exact CalT.yb g.1 z.1 bn h
    · exact CalT.yb g.2.1 z.2 bn h
theorem CalT.nb {k : Nat} : ∀ {c : CalT}, c.good → c.bd k → ∀ {n y m r : Int}, Bt k y → c.D n y m r → Bt (k + 36) n
  | .one d, g, b, n, y, m, r, by', h => by
    have e := h.1.year g
    rw [h.2] at e
    have b' : Bt k d.st := b
    have p1 : 0 < 2 ^ k := Nat.two_pow_pos k
    have by1 : Bt (k + 1) (y + 1) := by unfold Bt at *; rw [Nat.pow_succ]; omega
    have u1 := CalD.btk g by' b'
    have u2 := CalD.btk g by1 (b'.mono (by omega))
    have u1' := u1.mono (show k + 33 ≤ k + 36 by omega)
    have u2' := u2.mono (show k + 1 + 33 ≤ k + 36 by omega)
    unfold Bt at u1' u2' ⊢
    omega
  | .chg a b k', g, z, n, y, m, r, by', h => by
    rcases h with ⟨_, h⟩ | ⟨_, h⟩
    · exact CalT.nb g.1 z.1 by' h
    · exact CalT.nb g.2.1 z.2 by' h
theorem Bt.sub {k : Nat} {x y : Int} (h : Bt k x) (g : Bt k y) : Bt (k + 1) (x - y) := by
  unfold Bt at *
  rw [Nat.pow_succ]
  omega
theorem Bt.one (k : Nat) : Bt (k + 1) 1 := by
  unfold Bt
  have : 0 < 2 ^ k := Nat.two_pow_pos k
  rw [Nat.pow_succ]
  omega
/-- the law's own number by a cell -/
def mixF (c k : Int) : Int := if c % 2 = 0 then Builtin.bitAnd (c / 2 / 2 ^ (41 * k).toNat) 2199023255551 else
  (c % 2147483647 + 7919 * k + 1) * 48271 % 2147483647 * ((c % 2147483647 + 7919 * k + 1) * 48271 % 2147483647 / 1009 + 69621) % 2147483647 * ((c % 2147483647 + 7919 * k + 1) * 48271 % 2147483647 * ((c % 2147483647 + 7919 * k + 1) * 48271 % 2147483647 / 1009 + 69621) % 2147483647 / 4099 + 16807 + k) % 2147483629
def spMixedD : Sp := fun vs H Q _ => ∃ c k : Int, vs = [.int c, .int k] ∧ 0 ≤ k ∧ k ≤ 100 ∧ Q (.int (mixF c k)) H
def pk2 (a b i : Int) : Int := if i = 0 then a else b
def pk3 (a b c i : Int) : Int := if i = 0 then a else if i = 1 then b else c
theorem at_pk2 {a b : Int} (i : Int) : atI (([a, b] : List Int).map V.int) (i % 2) = some (V.int (pk2 a b (i % 2))) := by
  rcases (by omega : i % 2 = 0 ∨ i % 2 = 1) with e | e <;> rw [e] <;> rfl
theorem at_pk3 {a b c : Int} (i : Int) : atI (([a, b, c] : List Int).map V.int) (i % 3) = some (V.int (pk3 a b c (i % 3))) := by
  rcases (by omega : i % 3 = 0 ∨ i % 3 = 1 ∨ i % 3 = 2) with e | e | e <;> rw [e] <;> rfl
theorem bt_n {x : Int} (h1 : -100000000000000000000000000000000000000000 ≤ x) (h2 : x ≤ 100000000000000000000000000000000000000000) : Bt 140 x := by
  unfold Bt
  have : (2 : Nat) ^ 140 = 1393796574908163946345982392040522594123776 := by decide
  omega
def t43 (c mo k : Int) : Tm := (1 - 2 * (mixF c (5 * k + 4) % 2), mixF c (5 * k + 2) % (1 + mixF c (5 * k + 1) % mo + 1), mixF c (5 * k + 3) % (1 + mixF c (5 * k + 1) % mo), 1 + mixF c (5 * k + 1) % mo)
theorem t43_ok (c mo k : Int) (h : 1 ≤ mo ∧ mo ≤ 1000) : OkT (t43 c mo k) := by
  unfold t43
  have h1 := Int.emod_nonneg (mixF c (5 * k + 1)) (show mo ≠ 0 by omega)
  have h2 := Int.emod_lt_of_pos (mixF c (5 * k + 1)) (show 0 < mo by omega)
  have n : 1 ≤ 1 + mixF c (5 * k + 1) % mo ∧ 1 + mixF c (5 * k + 1) % mo ≤ 1000 := by omega
  generalize 1 + mixF c (5 * k + 1) % mo = n' at n
  have a0 := Int.emod_nonneg (mixF c (5 * k + 2)) (show n' + 1 ≠ 0 by omega)
  have a1 := Int.emod_lt_of_pos (mixF c (5 * k + 2)) (show 0 < n' + 1 by omega)
  have b0 := Int.emod_nonneg (mixF c (5 * k + 3)) (show n' ≠ 0 by omega)
  have b1 := Int.emod_lt_of_pos (mixF c (5 * k + 3)) (show 0 < n' by omega)
  exact ⟨by show 1 - 2 * (mixF c (5 * k + 4) % 2) = 1 ∨ 1 - 2 * (mixF c (5 * k + 4) % 2) = -1; omega, n.1, n.2, a0, by show mixF c (5 * k + 2) % (n' + 1) ≤ n'; omega, b0, b1⟩
def pk4 (a b c d i : Int) : Int := if i = 0 then a else if i = 1 then b else if i = 2 then c else d
theorem at_pk4 {a b c d : Int} (i : Int) : atI (([a, b, c, d] : List Int).map V.int) (i % 4) = some (V.int (pk4 a b c d (i % 4))) := by
  rcases (by omega : i % 4 = 0 ∨ i % 4 = 1 ∨ i % 4 = 2 ∨ i % 4 = 3) with e | e | e | e <;> rw [e] <;> rfl
theorem pk4_box (i : Int) : 1 ≤ pk4 4 19 100 1000 i ∧ pk4 4 19 100 1000 i ≤ 1000 := by
  unfold pk4
  repeat' split
  all_goals decide
def tm43 (c m : Int) : List Tm := (List.range m.toNat).map fun k : Nat => t43 c (pk4 4 19 100 1000 (c % 4)) (k : Int)
theorem tm43_ok (c m : Int) : ∀ t ∈ tm43 c m, OkT t := by
  intro t ht
  obtain ⟨k, _, rfl⟩ := List.mem_map.mp ht
  exact t43_ok _ _ _ (pk4_box _)
theorem tm43_len (c : Int) {m : Int} (h : m ≤ 3) : (tm43 c m).length ≤ 3 := by
  unfold tm43
  rw [List.length_map, List.length_range]
  omega
theorem tm43_few (c : Int) {m : Int} (h : m ≤ 3) : (tm43 c m).length ≤ 6 := Nat.le_trans (tm43_len c h) (by decide)
theorem tm43_falls (c : Int) {m : Int} (h : m ≤ 3) : 0 ≤ falls (tm43 c m) ∧ falls (tm43 c m) ≤ 3 := by
  have l := tm43_len c h
  have := List.length_filter_le (fun t : Tm => decide (t.1 = -1)) (tm43 c m)
  unfold falls
  omega
theorem pk3_box {a b c i lo hi : Int} (ha : lo ≤ a ∧ a ≤ hi) (hb : lo ≤ b ∧ b ≤ hi) (hc : lo ≤ c ∧ c ≤ hi) : lo ≤ pk3 a b c i ∧ pk3 a b c i ≤ hi := by
  unfold pk3
  split
  · exact ha
  · split
    · exact hb
    · exact hc
theorem pk2_box {a b i lo hi : Int} (ha : lo ≤ a ∧ a ≤ hi) (hb : lo ≤ b ∧ b ≤ hi) : lo ≤ pk2 a b i ∧ pk2 a b i ≤ hi := by
  unfold pk2
  split
  · exact ha
  · exact hb
def ls43 (c : Int) : List Int := (List.range (1 + mixF c 33 % 20).toNat).map fun k : Nat => mixF c (40 + (k : Int)) % pk3 40 40 1001 (mixF c 34 % 3)
def lp43 (c : Int) : Int := 1 + mixF c 35 % (1 + mixF c 33 % 20)
def bd43 (c : Int) : Int := 5 + mixF c 31 % pk2 40 990 (mixF c 36 % 2)
def bm43 (c : Int) : Int := 5 + mixF c 32 % 16
def up43 (x : Int) : Int := if x + 4 < 1000 then x + 4 else 1000
def shp43 (c0 s : Int) : CalD := if c0 % 4 = 3 then .moon s (bd43 (c0 / 4)) (tm43 (c0 / 4 / 4) (c0 / 4 % 4)) (bm43 (c0 / 4)) (tm43 (c0 / 4 / 16) (c0 / 4 / 4 % 4)) else .sun s ((ls43 (c0 / 4)).set (lp43 (c0 / 4) - 1).toNat (up43 ((ls43 (c0 / 4)).getD (lp43 (c0 / 4) - 1).toNat 0))) (lp43 (c0 / 4)) (tm43 (c0 / 4 / 4) (c0 / 4 % 4))
theorem shp43_st (c s : Int) : (shp43 c s).st = s := by
  unfold shp43
  split <;> rfl
theorem ls43_len (c : Int) : ((ls43 c).length : Int) = 1 + mixF c 33 % 20 := by
  unfold ls43
  rw [List.length_map, List.length_range]
  omega
theorem lp43_box (c : Int) : 1 ≤ lp43 c ∧ lp43 c ≤ 1 + mixF c 33 % 20 := by
  unfold lp43
  have h0 : 1 ≤ 1 + mixF c 33 % 20 := by omega
  generalize 1 + mixF c 33 % 20 = m at h0 ⊢
  have h1 := Int.emod_nonneg (mixF c 35) (show m ≠ 0 by omega)
  have h2 := Int.emod_lt_of_pos (mixF c 35) (show 0 < m by omega)
  omega
theorem ls43_mem (c : Int) : ∀ n ∈ ls43 c, 0 ≤ n ∧ n ≤ 1000 := by
  intro n hn
  obtain ⟨k, _, rfl⟩ := List.mem_map.mp hn
  have := pk3_box (a := 40) (b := 40) (c := 1001) (i := mixF c 34 % 3) (lo := 1) (hi := 1001) (by decide) (by decide) (by decide)
  have h1 := Int.emod_nonneg (mixF c (40 + (k : Int))) (show pk3 40 40 1001 (mixF c 34 % 3) ≠ 0 by omega)
  have h2 := Int.emod_lt_of_pos (mixF c (40 + (k : Int))) (show 0 < pk3 40 40 1001 (mixF c 34 % 3) by omega)
  omega
theorem up43_box {x : Int} (h : 0 ≤ x) : 4 ≤ up43 x ∧ up43 x ≤ 1000 := by
  unfold up43
  split <;> omega
theorem good43S (c : Int) {ts : List Tm} (ok : ∀ t ∈ ts, OkT t) (few : ts.length ≤ 6) (f : falls ts ≤ 3) : GoodS ((ls43 c).set (lp43 c - 1).toNat (up43 ((ls43 c).getD (lp43 c - 1).toNat 0))) (lp43 c) ts := by
  have l := ls43_len c
  have p := lp43_box c
  have il : (lp43 c - 1).toNat < (ls43 c).length := by omega
  generalize hi : (lp43 c - 1).toNat = i at il
  have g0 := ls43_mem c _ (getD_mem' il)
  have ub := up43_box g0.1
  have mem : ∀ n ∈ (ls43 c).set i (up43 ((ls43 c).getD i 0)), 0 ≤ n ∧ n ≤ 1000 := by
    intro n hn
    rcases List.mem_or_eq_of_mem_set hn with z | z
    · exact ls43_mem c n z
    · omega
  have gi : ((ls43 c).set i (up43 ((ls43 c).getD i 0))).getD i 0 = up43 ((ls43 c).getD i 0) := by
    rw [List.getD_eq_getElem?_getD, List.getElem?_set_self il]
    rfl
  have sm := mem_le_sum (fun n hn => (mem n hn).1) (getD_mem' (ls := (ls43 c).set i (up43 ((ls43 c).getD i 0))) (i := i) (by rw [List.length_set]; exact il))
  rw [gi] at sm
  refine ⟨by rw [List.length_set]; omega, by rw [List.length_set]; omega, mem, by omega, by rw [List.length_set]; omega, by rw [hi, gi]; omega, by omega, ok, few⟩
theorem bd43_box (c : Int) : 5 ≤ bd43 c ∧ bd43 c ≤ 1000 := by
  unfold bd43
  have := pk2_box (a := 40) (b := 990) (i := mixF c 36 % 2) (lo := 1) (hi := 990) (by decide) (by decide)
  have h1 := Int.emod_nonneg (mixF c 31) (show pk2 40 990 (mixF c 36 % 2) ≠ 0 by omega)
  have h2 := Int.emod_lt_of_pos (mixF c 31) (show 0 < pk2 40 990 (mixF c 36 % 2) by omega)
  omega
theorem bm43_box (c : Int) : 5 ≤ bm43 c ∧ bm43 c ≤ 20 := by
  unfold bm43
  omega
theorem good43 (c s : Int) : (shp43 c s).good := by
  have f1 := tm43_falls (c / 4 / 4) (show c / 4 % 4 ≤ 3 by omega)
  have f2 := tm43_falls (c / 4 / 16) (show c / 4 / 4 % 4 ≤ 3 by omega)
  unfold shp43
  split
  · have b := bd43_box (c / 4)
    have m := bm43_box (c / 4)
    exact ⟨by omega, b.2, by omega, m.2, tm43_ok _ _, tm43_ok _ _, tm43_few _ (by omega), tm43_few _ (by omega)⟩
  · exact good43S _ (tm43_ok _ _) (tm43_few _ (by omega)) f1.2
def spTerms43 : Sp := fun vs H Q _ => ∃ c m : Int, vs = [.int c, .int m] ∧ 0 ≤ m ∧ m ≤ 3 ∧ ∀ (l : Addr) (us : List V) (H' : Hp), Same H H' → H' l = some (.lst us) → Tms H' us (tm43 c m) → Q (.ref l) H'
def spMade43 (K : PySem.W.Frag) (CS CO CM : Addr) : Sp := fun vs H Q _ => ∃ c s : Int, vs = [.int c, .int s] ∧ Bt 290 s ∧ ∀ (x : Addr) (H' : Hp), Same H H' → CalO K CS CO CM H' x (shp43 c s) → Q (.ref x) H'
def spBegun43 (K : PySem.W.Frag) (CS CO CM : Addr) : Sp := fun vs H Q _ => ∃ (c y k : Int) (m : Nat), vs = [.int c, .int y, .int k] ∧ 140 ≤ m ∧ m ≤ 250 ∧ Bt m y ∧ Bt m k ∧ ∀ (x : Addr) (d : CalD) (H' : Hp), Same H H' → CalO K CS CO CM H' x d → Bt (m + 38) d.st → Q (.ref x) H'
def spChange43 (K : PySem.W.Frag) (CS CO CM CC : Addr) : Sp := fun vs H Q _ => ∃ (o n : Addr) (k : Int) (a b : CalT), vs = [.ref o, .ref n, .int k] ∧ CalH K CS CO CM CC H o a ∧ CalH K CS CO CM CC H n b ∧ a.deep ≤ 2 ∧ b.deep ≤ 2 ∧ Bt 140 k ∧
  ∀ (t : Addr) (v : V) (H' : Hp), Same H H' → H' t = some (.tup [.bl true, v]) → (v = .non ∨ ∃ x, v = .ref x ∧ CalH K CS CO CM CC H' x (.chg a b k)) → Q (.ref t) H'
def spHeld43 (K : PySem.W.Frag) (CS CO CM CC : Addr) : Sp := fun vs H Q _ => ∃ (x o n l : Addr) (k : Int) (a b : CalT) (ds : List Int), vs = [.ref x, .ref o, .ref n, .int k, .ref l] ∧ CalH K CS CO CM CC H x (.chg a b k) ∧ CalH K CS CO CM CC H o a ∧ CalH K CS CO CM CC H n b ∧ a.deep ≤ 2 ∧ b.deep ≤ 2 ∧ H l = some (.lst (ds.map V.int)) ∧ (∀ d ∈ ds, Bt 280 d) ∧ ∀ H', Same H H' → Q (.bl true) H'
/-- a change with its calendars, in a tuple -/
def Ent (K : PySem.W.Frag) (CS CO CM CC : Addr) (H : Hp) (v : V) : Prop := ∃ (t x o n : Addr) (k : Int) (a b : CalT), v = .ref t ∧ H t = some (.tup [.ref x, .ref o, .ref n, .int k]) ∧ CalH K CS CO CM CC H x (.chg a b k) ∧ CalH K CS CO CM CC H o a ∧ CalH K CS CO CM CC H n b ∧ a.deep ≤ 2 ∧ b.deep ≤ 2
section
variable {K : PySem.W.Frag} {CS CO CM CC : Addr} {H H' : Hp}
theorem Ent.same {v : V} (h : Ent K CS CO CM CC H v) (s : Same H H') : Ent K CS CO CM CC H' v := by
  obtain ⟨t, x, o, n, k, a, b, h1, h2, h3, h4, h5, h6⟩ := h
  exact ⟨t, x, o, n, k, a, b, h1, s _ _ h2, h3.same s, h4.same s, h5.same s, h6⟩
theorem CalH.but {l : Addr} {xs : List V} (hl : H l = some (.lst xs)) (k : But l H H') : ∀ {c : CalT} {x : Addr}, CalH K CS CO CM CC H x c → CalH K CS CO CM CC H' x c
  | .one d, x, S => CalO.but S hl k
  | .chg a b n, x, S => by
    obtain ⟨dx, o, nw, lo, fn, p, q, s, p', q', s', h1, h2, h3, h4, h5, h6⟩ := S
    exact ⟨dx, o, nw, lo, fn, p, q, s, p', q', s', k _ _ (ne_of h1 hl (by intro z; cases z)) h1, CalH.but hl k h2, CalH.but hl k h3, k _ _ (ne_of h4 hl (by intro z; cases z)) h4, k _ _ (ne_of h5 hl (by intro z; cases z)) h5, h6⟩
theorem Ent.but {l : Addr} {xs : List V} {v : V} (hl : H l = some (.lst xs)) (k : But l H H') (h : Ent K CS CO CM CC H v) : Ent K CS CO CM CC H' v := by
  obtain ⟨t, x, o, n, j, a, b, h1, h2, h3, h4, h5, h6⟩ := h
  exact ⟨t, x, o, n, j, a, b, h1, k _ _ (ne_of h2 hl (by intro z; cases z)) h2, h3.but hl k, h4.but hl k, h5.but hl k, h6⟩
end
theorem cut_len (xs : List V) (i j : Nat) : (cutV xs (some (i : Int)) (some (j : Int))).length ≤ j - i ∧ ∀ x ∈ cutV xs (some (i : Int)) (some (j : Int)), x ∈ xs := by
  unfold cutV
  rw [HT.sIx_nat, HT.sIx_nat]
  refine ⟨?_, fun x hx => List.mem_of_mem_drop (List.mem_of_mem_take hx)⟩
  rw [List.length_take]
  omega
structure Errs (K : PySem.W.Frag) (mg : Str → Option Value) (c_FeastError c_NoNumber c_NoMeasure c_NoDate c_InGap c_NoChange c_Measure c_Calendar c_Sun c_Moon c_Change : Addr) : Prop where
  m_FeastError : mg "FeastError" = some (.ref c_FeastError)
  m_NoDate : mg "NoDate" = some (.ref c_NoDate)
  h_NoChange : HCls K mg "NoChange" c_NoChange
  o_NoDate : XOwn K c_NoDate c_FeastError
  f_FeastError : FInit K mg "FeastError" c_FeastError
  na_NoDate_date : PySem.W.findIn K (.ref c_NoDate) "date" = some none
  o_InGap : XOwn K c_InGap c_FeastError
  na_InGap_date : PySem.W.findIn K (.ref c_InGap) "date" = some none
  na_InGap_day : PySem.W.findIn K (.ref c_InGap) "day" = some none
  x_NoChange : XCls K mg "NoChange" c_NoChange
  g_NoChange : XGet K c_NoChange
  i_NoChange_FeastError : PySem.W.kitOne K (.ref c_NoChange) (.ref c_FeastError) = some true
  i_NoChange_NoDate : PySem.W.kitOne K (.ref c_NoChange) (.ref c_NoDate) = some false
  r_NoChange_NoChange : PySem.W.mroIn K c_NoChange (.ref c_NoChange) = some true
  cl_Measure : Cls K c_Measure
  na_Measure_base : NoAttr K c_Measure "base"
  na_Measure_terms : NoAttr K c_Measure "terms"
  na_Measure_full_count : NoAttr K c_Measure "full_count"
  na_Measure_full_sum : NoAttr K c_Measure "full_sum"
  cl_Sun : Cls K c_Sun
  na_Sun_start : NoAttr K c_Sun "start"
  na_Sun_months : NoAttr K c_Sun "months"
  na_Sun_leap : NoAttr K c_Sun "leap"
  na_Sun_years : NoAttr K c_Sun "years"
  cl_Moon : Cls K c_Moon
  na_Moon_start : NoAttr K c_Moon "start"
  na_Moon_days : NoAttr K c_Moon "days"
  na_Moon_many : NoAttr K c_Moon "many"
  cl_Change : Cls K c_Change
  na_Change_old : NoAttr K c_Change "old"
  na_Change_new : NoAttr K c_Change "new"
  na_Change_day : NoAttr K c_Change "day"
  na_Change_last_old : NoAttr K c_Change "last_old"
  na_Change_first_new : NoAttr K c_Change "first_new"
  m_Calendar : mg "Calendar" = some (.ref c_Calendar)
  is_Change_Calendar : PySem.W.kitOne K (.ref c_Change) (.ref c_Calendar) = some true
  kc_Change : PySem.W.findIn K (.ref c_Change) "__class__" = some (some (.builtin "object.__class__"))
  ko_Change : PySem.W.mroIn K c_Change (.type "object") = some true
  ksp : PySem.W.specialIn K (.builtin "object.__class__") "__get__" = some (some (.builtin "getset_descriptor.__get__"))
  ktk : PySem.W.takesIn K (.builtin "object.__class__") = some true
section
variable {P : Program} {w : World} {K : PySem.W.Frag} {mg : Str → Option Value} {base : Heap}
variable {c_FeastError c_NoNumber c_NoMeasure c_NoDate c_InGap c_NoChange c_Measure c_Calendar c_Sun c_Moon c_Change : Addr}
theorem sc_NoDate___init__ : FnScope ["self", "date"] ["self", "date"] (defScope s_NoDate___init__) := ⟨rfl, rfl, rfl, by decide +kernel, rfl, by decide +kernel, by decide +kernel⟩
theorem ok_NoDate___init__ {f : Addr} {fd : FuncData} (F : Fun K "__init__" "NoDate.__init__" s_NoDate___init__ f fd) (er : Errs K mg c_FeastError c_NoNumber c_NoMeasure c_NoDate c_InGap c_NoChange c_Measure c_Calendar c_Sun c_Moon c_Change) : FnOk P w K mg base CX0 1 f fd ["self", "date"] (spInitD K c_NoDate "date") := by
  refine F.ok (k := 0) sc_NoDate___init__ (fun vs H Q E h => ?_) (fun cdv A outer s H vs Q E hr h => ?_)
  · obtain ⟨e, p, a, b, c, rfl, _⟩ := h
    rfl
  obtain ⟨e, p, a, b, c, rfl, hp, ha, hb, hc, he, q⟩ := h
  refine ⟨_, (pss_cons (ps_expr (pe_xinit er.f_FeastError rfl (pa_cons (pv 0) (pa_cons (pe_join (pj_cons pe_str (pj_cons (pe_fmt hr.toN (pv 1)) pj_nil))) pa_nil))))
      (pss_one (ps_xf1 (pv 0) (pv 1) (by rfl)))), ?_⟩
  walk_at "rdx"
  refine rd_jc 0 (by decide) (by decide) fun l1 => rd_jt _ l1 (by decide) rfl hp ha hb hc fun l2 => rd_jnil (fits l2 (by decide)) ?_
  walk_at "rdx"
  refine ⟨e, _, _, _, _, rfl, he, er.o_NoDate, (by show 1 ≤ sizeLine; decide), ?_⟩
  walk_at "rdx"
  exact ⟨e, _, _, rfl, he, er.o_NoDate, er.na_NoDate_date, fun d hd => q d hd⟩
theorem sc_InGap___init__ : FnScope ["self", "date", "day"] ["self", "date", "day"] (defScope s_InGap___init__) := ⟨rfl, rfl, rfl, by decide +kernel, rfl, by decide +kernel, by decide +kernel⟩
theorem ok_InGap___init__ {f : Addr} {fd : FuncData} (F : Fun K "__init__" "InGap.__init__" s_InGap___init__ f fd) (er : Errs K mg c_FeastError c_NoNumber c_NoMeasure c_NoDate c_InGap c_NoChange c_Measure c_Calendar c_Sun c_Moon c_Change) : FnOk P w K mg base CX0 1 f fd ["self", "date", "day"] (spInitG K c_InGap) := by
  refine F.ok (k := 0) sc_InGap___init__ (fun vs H Q E h => ?_) (fun cdv A outer s H vs Q E hr h => ?_)
  · obtain ⟨e, p, a, b, c, n, rfl, _⟩ := h
    rfl
  obtain ⟨e, p, a, b, c, n, rfl, hp, ha, hb, hc, hn, he, q⟩ := h
  refine ⟨_, (pss_cons (ps_expr (pe_xinit er.f_FeastError rfl (pa_cons (pv 0) (pa_cons (pe_join (pj_cons pe_str (pj_cons (pe_fmt hr.toN (pv 2)) (pj_cons pe_str (pj_cons (pe_fmt hr.toN (pv 1)) pj_nil))))) pa_nil))))
      (pss_cons (ps_xf1 (pv 0) (pv 1) (by rfl))
      (pss_one (ps_xf2 (pv 0) (pv 2) (by rfl))))), ?_⟩
  walk_at "rdx"
  refine rd_jc 0 (by decide) (by decide) fun l1 => rd_ji _ l1 (by decide) rfl hn fun l2 => rd_jc _ l2 (by decide) fun l3 => rd_jt _ l3 (by decide) rfl hp ha hb hc fun l4 => rd_jnil (fits l4 (by decide)) ?_
  walk_at "rdx"
  refine ⟨e, _, _, _, _, rfl, he, er.o_InGap, (by show 1 ≤ sizeLine; decide), ?_⟩
  walk_at "rdx"
  refine ⟨e, _, _, rfl, he, er.o_InGap, er.na_InGap_date, fun d hd => ?_⟩
  have de : d ≠ e := Ne.symm (ne_of_none he hd)
  walk_at "rdx"
  refine ⟨e, _, _, d, _, rfl, upd_same, by rw [upd_ne de, upd_same], (by show 1 ≤ 900; decide), er.o_InGap, er.na_InGap_day, ?_⟩
  exact q d hd
theorem sc_refuse_below_one : FnScope ["number"] ["number"] (defScope s_refuse_below_one) := ⟨rfl, rfl, rfl, by decide +kernel, rfl, by decide +kernel, by decide +kernel⟩
theorem ok_refuse_below_one {f : Addr} {fd : FuncData} (F : Fun K "refuse_below_one" "refuse_below_one" s_refuse_below_one f fd) : FnOk P w K mg base CX0 1 f fd ["number"] spRefuse := by
  refine F.ok (k := 0) sc_refuse_below_one (fun vs H Q E h => ?_) (fun cdv A outer s H vs Q E hr h => ?_)
  · obtain ⟨n, rfl, _⟩ := h
    rfl
  obtain ⟨n, rfl, hn, q⟩ := h
  refine ⟨_, (pss_one (ps_if (pt_cmpR op_lt (pv 0) pe_int (nomark _))
        (pss_one ps_never)
        pss_nil)), ?_⟩
  walk_at "rd"
  refine iteN (by omega) ?_
  walk_at "rd"
  exact q
theorem sc_equation : FnScope ["one", "other", "row", "below", "times", "rest"] ["one", "other"] (defScope s_equation) := ⟨rfl, rfl, rfl, by decide +kernel, rfl, by decide +kernel, by decide +kernel⟩
theorem ok_equation {f : Addr} {fd : FuncData} (F : Fun K "equation" "equation" s_equation f fd) : FnOk P w K mg base CX0 1 f fd ["one", "other"] spEq := by
  refine F.ok (k := 0) sc_equation (fun vs H Q E h => ?_) (fun cdv A outer s H vs Q E hr h => ?_)
  · obtain ⟨a, b, rfl, _⟩ := h
    rfl
  obtain ⟨a, b, rfl, ha, hb, q⟩ := h
  refine ⟨_, (pss_cons (ps_set (i := 2) sc_equation.nd rfl (by first | exact Or.inl rfl | exact Or.inr rfl) (pe_tup (pa_cons pe_int (pa_cons pe_int (pa_cons (pv 0) pa_nil)))))
      (pss_cons (ps_set (i := 3) sc_equation.nd rfl (by first | exact Or.inl rfl | exact Or.inr rfl) (pe_tup (pa_cons pe_int (pa_cons pe_int (pa_cons (pv 1) pa_nil)))))
      (pss_cons (ps_while PassesOwn.never (pt_cmpR op_ne (pe_ix ix_tup (pv 3) pe_int (fun _ _ => rfl)) pe_int (nomark _))
        (pss_cons (ps_set (i := 4) sc_equation.nd rfl (by first | exact Or.inl rfl | exact Or.inr rfl) (pe_op op_fdivF (pe_ix ix_tup (pv 2) pe_int (fun _ _ => rfl)) (pe_ix ix_tup (pv 3) pe_int (fun _ _ => rfl))))
      (pss_cons (ps_set (i := 5) sc_equation.nd rfl (by first | exact Or.inl rfl | exact Or.inr rfl) (pe_tup (pa_cons (pe_op op_sub (pe_ix ix_tup (pv 2) pe_int (fun _ _ => rfl)) (pe_op op_mulB (pv 4) (pe_ix ix_tup (pv 3) pe_int (fun _ _ => rfl)))) (pa_cons (pe_op op_sub (pe_ix ix_tup (pv 2) pe_int (fun _ _ => rfl)) (pe_op op_mulB (pv 4) (pe_ix ix_tup (pv 3) pe_int (fun _ _ => rfl)))) (pa_cons (pe_op op_sub (pe_ix ix_tup (pv 2) pe_int (fun _ _ => rfl)) (pe_op op_mulB (pv 4) (pe_ix ix_tup (pv 3) pe_int (fun _ _ => rfl)))) pa_nil)))))
      (pss_cons (ps_set (i := 2) sc_equation.nd rfl (by first | exact Or.inl rfl | exact Or.inr rfl) (pv 3))
      (pss_one (ps_set (i := 3) sc_equation.nd rfl (by first | exact Or.inl rfl | exact Or.inr rfl) (pv 5)))))))
      (pss_cons (ps_if (pt_cmpR op_lt (pe_ix ix_tup (pv 2) pe_int (fun _ _ => rfl)) pe_int (nomark _))
        (pss_one (ps_ret (pe_tup (pa_cons (pe_un un_neg (pe_ix ix_tup (pv 2) pe_int (fun _ _ => rfl))) (pa_cons (pe_un un_neg (pe_ix ix_tup (pv 2) pe_int (fun _ _ => rfl))) (pa_cons (pe_un un_neg (pe_ix ix_tup (pv 2) pe_int (fun _ _ => rfl))) pa_nil))))))
        pss_nil)
      (pss_one (ps_ret (pv 2))))))), ?_⟩
  walk_at "rd"
  refine ⟨three, fun p1 hp1 => ?_⟩
  walk_at "rd"
  refine ⟨three, fun p2 hp2 => ?_⟩
  walk_at "rd"
  have n12 : p1 ≠ p2 := fun z => by rw [← z, upd_same] at hp2; cases hp2
  refine ⟨fun m σ' H' => ∃ (pr pb : Addr) (u v r u' v' r' : Int) (t1 t2 : Option V), σ' = [some (.int a), some (.int b), some (.ref pr), some (.ref pb), t1, t2] ∧ Same H H' ∧
      H' pr = some (.tup [.int u, .int v, .int r]) ∧ H' pb = some (.tup [.int u', .int v', .int r']) ∧ EqI a b u v r u' v' r' ∧ m = r'.natAbs,
    ⟨_, p1, p2, 1, 0, a, 0, 1, b, none, none, rfl, (same_new hp1 _).trans (same_new hp2 _), by rw [upd_ne n12]; exact upd_same, upd_same, EqI.start a b, rfl⟩, ?_⟩
  rintro m σ' H' ⟨pr, pb, u, v, r, u', v', r', t1, t2, rfl, sm, hpr, hpb, I, rfl⟩
  have B := I.bounds
  have br := bt_le2 (m := 510) ha hb (show r.natAbs ≤ a.natAbs + b.natAbs + 4 by omega) (by decide)
  have br' := bt_le (m := 510) hb (show r'.natAbs ≤ 4 * b.natAbs + 4 by omega) (by decide)
  have bu' := bt_le (m := 510) hb (show u'.natAbs ≤ 4 * b.natAbs + 4 by omega) (by decide)
  have bv' := bt_le (m := 510) ha (show v'.natAbs ≤ 4 * a.natAbs + 4 by omega) (by decide)
  walk_at "rd"
  refine rd_ixT (SqT.of hpb) at32 ?_
  walk_at "rd"
  by_cases hz : r' = 0
  · subst hz
    refine iteNS rfl ?_
    have D := I.done
    walk_at "rd"
    refine rd_ixT (SqT.of hpr) at32 ?_
    walk_at "rd"
    refine ite2d (fun c => ?_) (fun c => ?_)
    · walk_at "rd"
      refine rd_ixT (SqT.of hpr) at30 ?_
      walk_at "rd"
      refine rd_ixT (SqT.of hpr) at31 ?_
      walk_at "rd"
      refine rd_ixT (SqT.of hpr) at32 ?_
      walk_at "rd"
      refine ⟨three, fun p hp => ?_⟩
      exact q p _ _ _ _ (sm.trans (same_new hp _)) upd_same (D.1 c)
    · walk_at "rd"
      exact q pr _ _ _ _ sm hpr (D.2 c)
  · refine iteNN (fun z => hz (V.int.inj z)) ?_
    refine ⟨_, fun σ' H' hh => hh, ?_⟩
    have St := I.step hz
    have bq := bt_le (m := 520) br (show (r.fdiv r').natAbs ≤ 4 * r.natAbs + 4 by have := quot_bound (r := r) hz; omega) (by decide)
    walk_at "rd"
    refine rd_ixT (SqT.of hpr) at32 ?_
    walk_at "rd"
    refine rd_ixT (SqT.of hpb) at32 ?_
    refine rd_i ⟨hz, br'.mono (by decide)⟩ ?_
    walk_at "rd"
    refine rd_ixT (SqT.of hpr) at30 ?_
    walk_at "rd"
    refine rd_ixT (SqT.of hpb) at30 ?_
    refine rd_i ⟨520, 510, bq, bu', by decide⟩ ?_
    walk_at "rd"
    refine rd_ixT (SqT.of hpr) at31 ?_
    walk_at "rd"
    refine rd_ixT (SqT.of hpb) at31 ?_
    refine rd_i ⟨520, 510, bq, bv', by decide⟩ ?_
    walk_at "rd"
    refine rd_ixT (SqT.of hpr) at32 ?_
    walk_at "rd"
    refine rd_ixT (SqT.of hpb) at32 ?_
    refine rd_i ⟨520, 510, bq, br', by decide⟩ ?_
    walk_at "rd"
    refine ⟨three, fun p hp => ?_⟩
    walk_at "rd"
    exact ⟨_, St.2, pb, p, u', v', r', _, _, _, _, _, rfl, sm.trans (same_new hp _), (same_new hp _) _ _ hpb, upd_same, St.1, rfl⟩
theorem sc_divisor : FnScope ["one", "other"] ["one", "other"] (defScope s_divisor) := ⟨rfl, rfl, rfl, by decide +kernel, rfl, by decide +kernel, by decide +kernel⟩
theorem ok_divisor {f : Addr} {fd : FuncData} (F : Fun K "divisor" "divisor" s_divisor f fd) (c_equation : Cal P w K mg base 1 "equation" ["one", "other"] spEq) : FnOk P w K mg base CX0 2 f fd ["one", "other"] spDivisor := by
  refine F.ok (k := 1) sc_divisor (fun vs H Q E h => ?_) (fun cdv A outer s H vs Q E hr h => ?_)
  · obtain ⟨a, b, rfl, _⟩ := h
    rfl
  obtain ⟨a, b, rfl, ha, hb, q⟩ := h
  refine ⟨_, (pss_one (ps_ret (pe_ix ix_tup (pe_cal c_equation (hr.mono (by decide)) rfl (pa_cons (pv 0) (pa_cons (pv 1) pa_nil))) pe_int (fun _ _ => rfl)))), ?_⟩
  walk_at "rd"
  refine ⟨a, b, rfl, ha, hb, fun p u v g H' sm hp e => ?_⟩
  walk_at "rd"
  refine rd_ixT (SqT.of hp) at32 ?_
  rw [e.gd]
  exact q _ sm
theorem sc_common : FnScope ["one", "other"] ["one", "other"] (defScope s_common) := ⟨rfl, rfl, rfl, by decide +kernel, rfl, by decide +kernel, by decide +kernel⟩
theorem ok_common {f : Addr} {fd : FuncData} (F : Fun K "common" "common" s_common f fd) (c_refuse_below_one : Cal P w K mg base 1 "refuse_below_one" ["number"] spRefuse) (c_divisor : Cal P w K mg base 2 "divisor" ["one", "other"] spDivisor) : FnOk P w K mg base CX0 3 f fd ["one", "other"] spCommon := by
  refine F.ok (k := 2) sc_common (fun vs H Q E h => ?_) (fun cdv A outer s H vs Q E hr h => ?_)
  · obtain ⟨a, b, rfl, _⟩ := h
    rfl
  obtain ⟨a, b, rfl, a0, b0, ha, hb, q⟩ := h
  refine ⟨_, (pss_cons (ps_expr (pe_cal c_refuse_below_one (hr.mono (by decide)) rfl (pa_cons (pv 0) pa_nil)))
      (pss_cons (ps_expr (pe_cal c_refuse_below_one (hr.mono (by decide)) rfl (pa_cons (pv 1) pa_nil)))
      (pss_one (ps_ret (pe_op op_mulB (pe_op op_fdivB (pv 0) (pe_cal c_divisor (hr.mono (by decide)) rfl (pa_cons (pv 0) (pa_cons (pv 1) pa_nil)))) (pv 1)))))), ?_⟩
  walk_at "rd"
  refine ⟨a, rfl, by omega, ?_⟩
  walk_at "rd"
  refine ⟨b, rfl, by omega, ?_⟩
  walk_at "rd"
  refine ⟨a, b, rfl, ha, hb, fun H' sm => ?_⟩
  have g0 := gcd_pos (b := b) a0
  have g1 := gcd_le (b := b) a0
  refine rd_i ⟨g0, (ha.le (x := (Int.gcd a b : Int)) (by omega)).mono (by decide)⟩ ?_
  walk_at "rd"
  have d0 : 0 ≤ a / (Int.gcd a b : Int) := Int.ediv_nonneg (by omega) (by omega)
  have d1 : a / (Int.gcd a b : Int) ≤ a := Int.ediv_le_self _ (by omega)
  refine rd_i ⟨500, 500, ha.le (by omega), hb, by decide⟩ ?_
  exact q _ sm
theorem sc_term_on : FnScope ["term", "k"] ["term", "k"] (defScope s_term_on) := ⟨rfl, rfl, rfl, by decide +kernel, rfl, by decide +kernel, by decide +kernel⟩
theorem ok_term_on {f : Addr} {fd : FuncData} (F : Fun K "term_on" "term_on" s_term_on f fd) : FnOk P w K mg base CX0 1 f fd ["term", "k"] spTermOn := by
  refine F.ok (k := 0) sc_term_on (fun vs H Q E h => ?_) (fun cdv A outer s H vs Q E hr h => ?_)
  · obtain ⟨p, k, t, rfl, _⟩ := h
    rfl
  obtain ⟨p, k, t, rfl, hp, ok, bk, q⟩ := h
  have n0 := ok.n0
  have n1 := ok.n1
  have a0 := ok.a0
  have a1 := ok.a1
  refine ⟨_, (pss_one (ps_ret (pe_cmpR op_ge (pe_op op_add (pe_op op_mod (pe_op op_add (pe_op op_mulB (pe_ix ix_tup (pv 0) pe_int (fun _ _ => rfl)) (pv 1)) (pe_ix ix_tup (pv 0) pe_int (fun _ _ => rfl))) (pe_ix ix_tup (pv 0) pe_int (fun _ _ => rfl))) (pe_ix ix_tup (pv 0) pe_int (fun _ _ => rfl))) (pe_ix ix_tup (pv 0) pe_int (fun _ _ => rfl)) (nomark _)))), ?_⟩
  walk_at "rd"
  refine rd_ixT (SqT.of hp) at41 ?_
  walk_at "rd"
  refine rd_i ⟨64, 400, bt_small (by omega) (by omega) (by decide), bk, by decide⟩ ?_
  walk_at "rd"
  refine rd_ixT (SqT.of hp) at42 ?_
  walk_at "rd"
  refine rd_ixT (SqT.of hp) at43 ?_
  walk_at "rd"
  refine rd_ixT (SqT.of hp) at41 ?_
  walk_at "rd"
  refine rd_ixT (SqT.of hp) at43 ?_
  walk_at "rd"
  exact q
theorem sc_signs_upto : FnScope ["terms", "k"] ["terms", "k"] (defScope s_signs_upto) := ⟨rfl, rfl, rfl, by decide +kernel, rfl, by decide +kernel, by decide +kernel⟩
theorem ok_signs_upto {f : Addr} {fd : FuncData} (F : Fun K "signs_upto" "signs_upto" s_signs_upto f fd) (z_sum : mg "sum" = none) : FnOk P w K mg base CX0 1 f fd ["terms", "k"] (spSigns K) := by
  refine F.ok (k := 0) sc_signs_upto (fun vs H Q E h => ?_) (fun cdv A outer s H vs Q E hr h => ?_)
  · obtain ⟨p, k, ts, rfl, _⟩ := h
    rfl
  obtain ⟨p, k, ts, rfl, T, bk, q⟩ := h
  obtain ⟨us, hS, hT⟩ := T.ex
  refine ⟨_, (pss_one (ps_ret (pe_callB (call_sum rfl) rfl z_sum PyProof.Rows.boot_sum (pa_cons (pe_comp rfl (compOk_freeM ["terms", "k"] ["terms", "k"] rfl rfl (by with_unfolding_all rfl) (by decide +kernel) rfl (by decide +kernel) rfl (by decide +kernel) (by walk_at "fm") (by with_unfolding_all rfl) (by with_unfolding_all rfl)) (pi_tup (pv 0)) (fun _ _ _ _ => pifs_nil) (fun _ _ _ _ => (pe_op op_mulB (pe_ix ix_tup_c (pv 0) pe_int (fun _ _ => rfl)) (pe_op op_fdivB (pe_op op_add (pe_op op_mulB (pe_ix ix_tup_c (pv 0) pe_int (fun _ _ => rfl)) (pv 2)) (pe_ix ix_tup_c (pv 0) pe_int (fun _ _ => rfl))) (pe_ix ix_tup_c (pv 0) pe_int (fun _ _ => rfl)))))) pa_nil)))), ?_⟩
  walk_at "rd"
  refine comp_t rfl hS (by rw [hT.len]; exact small1000 (by have := T.few; omega)) (fun v => ((tmAt H v).map fun _ => true).getD false) (fun v => ((tmAt H v).map fun t => V.int (t.1 * ctT t k)).getD .non) (fun x hx D ys Q' hD h => ?_) (fun x hx _ D ys Q' hD h => ?_) (fun D hD => ?_)
  · obtain ⟨a, t, rfl, ht, ha⟩ := hT.mem hx
    rw [tmAt_eq ha] at h
    exact h
  · obtain ⟨a, t, rfl, ht, ha⟩ := hT.mem hx
    rw [tmAt_eq ha] at h
    have ok := T.ok t ht
    have n0 := ok.n0
    have n1 := ok.n1
    have a0 := ok.a0
    have a1 := ok.a1
    have sg := ok.sg
    have b0 := ok.b0
    have b1 := ok.b1
    have ha' := same_new hD (.lst ys) _ _ ha
    walk_at "rd"
    refine rd_ixT (SqT.of ha') at40 ?_
    walk_at "rd"
    refine rd_ixT (SqT.of ha') at41 ?_
    walk_at "rd"
    refine rd_i ⟨64, 400, bt_small (by omega) (by omega) (by decide), bk, by decide⟩ ?_
    walk_at "rd"
    refine rd_ixT (SqT.of ha') at42 ?_
    walk_at "rd"
    refine rd_ixT (SqT.of ha') at43 ?_
    refine rd_i (cdiv_small (by omega) (by omega)) ?_
    have bb : Bt 465 (t.2.1 * k + t.2.2.1) := ((show Bt 64 t.2.1 from bt_small (by omega) (by omega) (by decide)).mul bk).add ((show Bt 64 t.2.2.1 from bt_small (by omega) (by omega) (by decide)).mono (by decide))
    refine rd_i ⟨200, 465, bt_of (by omega) (by omega), bt_div bb (by omega), by decide⟩ ?_
    exact h
  rw [hT.fm (fun _ => true) fun t => V.int (t.1 * ctT t k), List.filter_eq_self.mpr (fun _ _ => rfl)]
  have e : (ts.map fun t => V.int (t.1 * ctT t k)) = (ts.map fun t => t.1 * ctT t k).map V.int := by rw [List.map_map]; rfl
  rw [e]
  walk_at "rd"
  refine ⟨D, _, rfl, SqL.of upd_same, ?_⟩
  exact q _ (same_new hD _)
theorem sc_is_term : FnScope ["term"] ["term"] (defScope s_is_term) := ⟨rfl, rfl, rfl, by decide +kernel, rfl, by decide +kernel, by decide +kernel⟩
theorem ok_is_term {f : Addr} {fd : FuncData} (F : Fun K "is_term" "is_term" s_is_term f fd) {tk_GREATEST_N : Tok} (m_GREATEST_N : mg "GREATEST_N" = some (.int 1000 tk_GREATEST_N)) : FnOk P w K mg base CX0 1 f fd ["term"] spIsTerm := by
  refine F.ok (k := 0) sc_is_term (fun vs H Q E h => ?_) (fun cdv A outer s H vs Q E hr h => ?_)
  · obtain ⟨p, t, rfl, _⟩ := h
    rfl
  obtain ⟨p, t, rfl, hp, ok, q⟩ := h
  have n0 := ok.n0
  have n1 := ok.n1
  have a0 := ok.a0
  have a1 := ok.a1
  have sg := ok.sg
  have b0 := ok.b0
  have b1 := ok.b1
  refine ⟨_, (pss_cons (ps_if (PW.pt (pw_and (pt_cmpR op_ne (pe_ix ix_tup (pv 0) pe_int (fun _ _ => rfl)) pe_int (nomark _)) (pw_and1 (pt_cmpR op_ne (pe_ix ix_tup (pv 0) pe_int (fun _ _ => rfl)) (pe_un un_neg pe_int) (nomark _)))))
        (pss_one (ps_ret pe_bl))
        pss_nil)
      (pss_one (ps_ret (pe_and (pe_chain op_le op_le pe_int (pe_ix ix_tup (pv 0) pe_int (fun _ _ => rfl)) (pe_glob rfl m_GREATEST_N (rel_int _ _))) (pe_and (pe_chain op_le op_le pe_int (pe_ix ix_tup (pv 0) pe_int (fun _ _ => rfl)) (pe_ix ix_tup (pv 0) pe_int (fun _ _ => rfl))) (pe_one (pe_chain op_le op_lt pe_int (pe_ix ix_tup (pv 0) pe_int (fun _ _ => rfl)) (pe_ix ix_tup (pv 0) pe_int (fun _ _ => rfl))))))))), ?_⟩
  walk_at "rd"
  refine rd_ixT (SqT.of hp) at40 ?_
  walk_at "rd"
  have rest : True := trivial
  rcases sg with e | e
  · refine iteNS (congrArg V.int e) (iteF ?_)
    walk_at "rd"
    refine rd_ixT (SqT.of hp) at43 ?_
    walk_at "rd"
    refine iteD n0 ?_
    walk_at "rd"
    rw [decide_eq_true n1]
    refine iteT ?_
    walk_at "rd"
    refine rd_ixT (SqT.of hp) at41 ?_
    walk_at "rd"
    refine iteD a0 ?_
    walk_at "rd"
    refine rd_ixT (SqT.of hp) at43 ?_
    walk_at "rd"
    rw [decide_eq_true a1]
    refine iteT ?_
    walk_at "rd"
    refine rd_ixT (SqT.of hp) at42 ?_
    walk_at "rd"
    refine iteD b0 ?_
    walk_at "rd"
    refine rd_ixT (SqT.of hp) at43 ?_
    walk_at "rd"
    rw [decide_eq_true b1]
    exact q
  · refine iteNN (fun z => by have := V.int.inj z; omega) ?_
    walk_at "rd"
    refine rd_ixT (SqT.of hp) at40 ?_
    walk_at "rd"
    refine iteNS (congrArg V.int e) ?_
    walk_at "rd"
    refine rd_ixT (SqT.of hp) at43 ?_
    walk_at "rd"
    refine iteD n0 ?_
    walk_at "rd"
    rw [decide_eq_true n1]
    refine iteT ?_
    walk_at "rd"
    refine rd_ixT (SqT.of hp) at41 ?_
    walk_at "rd"
    refine iteD a0 ?_
    walk_at "rd"
    refine rd_ixT (SqT.of hp) at43 ?_
    walk_at "rd"
    rw [decide_eq_true a1]
    refine iteT ?_
    walk_at "rd"
    refine rd_ixT (SqT.of hp) at42 ?_
    walk_at "rd"
    refine iteD b0 ?_
    walk_at "rd"
    refine rd_ixT (SqT.of hp) at43 ?_
    walk_at "rd"
    rw [decide_eq_true b1]
    exact q
theorem sc_least_length : FnScope ["base", "terms"] ["base", "terms"] (defScope s_least_length) := ⟨rfl, rfl, rfl, by decide +kernel, rfl, by decide +kernel, by decide +kernel⟩
theorem ok_least_length {f : Addr} {fd : FuncData} (F : Fun K "least_length" "least_length" s_least_length f fd) (z_len : mg "len" = none) : FnOk P w K mg base CX0 1 f fd ["base", "terms"] (spLeast K) := by
  refine F.ok (k := 0) sc_least_length (fun vs H Q E h => ?_) (fun cdv A outer s H vs Q E hr h => ?_)
  · obtain ⟨p, b, ts, rfl, _⟩ := h
    rfl
  obtain ⟨p, b, ts, rfl, T, q⟩ := h
  obtain ⟨us, hS, hT⟩ := T.ex
  refine ⟨_, (pss_one (ps_ret (pe_op op_sub (pv 0) (pe_callB call_len_seq rfl z_len PySem.boot_len (pa_cons (pe_comp rfl (compOk_nil ["base", "terms"] rfl (by decide +kernel) rfl (by decide +kernel) rfl (by decide +kernel) (by decide +kernel)) (pi_tup (pv 1)) (fun _ _ _ _ => (pifs_one (pt_cmpR op_eq (pe_ix ix_tup_c (pv 0) pe_int (fun _ _ => rfl)) (pe_un un_neg pe_int) (nomark _)))) (fun _ _ _ _ => (pv 0))) pa_nil))))), ?_⟩
  walk_at "rd"
  refine comp_t rfl hS (by rw [hT.len]; exact small1000 (by have := T.few; omega)) (fun v => ((tmAt H v).map fun t => decide (t.1 = -1)).getD false) (fun v => v) (fun x hx D ys Q' hD h => ?_) (fun x hx _ D ys Q' hD h => ⟨_, rfl, h⟩) (fun D hD => ?_)
  · obtain ⟨a, t, rfl, ht, ha⟩ := hT.mem hx
    rw [tmAt_eq ha] at h
    walk_at "rd"
    refine rd_ixT (SqT.of (same_new hD _ _ _ ha)) at40 ?_
    walk_at "rd"
    rw [dec_int0]
    exact h
  walk_at "rd"
  refine ⟨D, _, rfl, .inl (SqL.of upd_same), ?_⟩
  walk_at "rd"
  have e : ((us.filter fun v => ((tmAt H v).map fun t => decide (t.1 = -1)).getD false).map fun v => v).length = (ts.filter fun t => decide (t.1 = -1)).length := by
    have := congrArg List.length (hT.fm (fun t => decide (t.1 = -1)) (fun _ => V.non))
    rw [List.length_map, List.length_map] at this
    rw [List.length_map]
    exact this
  rw [e]
  exact q _ (same_new hD _)
theorem sc_refuse_measure : FnScope ["base", "terms"] ["base", "terms"] (defScope s_refuse_measure) := ⟨rfl, rfl, rfl, by decide +kernel, rfl, by decide +kernel, by decide +kernel⟩
theorem ok_refuse_measure {f : Addr} {fd : FuncData} (F : Fun K "refuse_measure" "refuse_measure" s_refuse_measure f fd) (c_is_term : Cal P w K mg base 1 "is_term" ["term"] spIsTerm) (c_least_length : Cal P w K mg base 1 "least_length" ["base", "terms"] (spLeast K)) (z_len : mg "len" = none) (z_all : mg "all" = none) {tk_GREATEST_BASE : Tok} (m_GREATEST_BASE : mg "GREATEST_BASE" = some (.int 20000 tk_GREATEST_BASE)) {tk_MOST_TERMS : Tok} (m_MOST_TERMS : mg "MOST_TERMS" = some (.int 6 tk_MOST_TERMS)) : FnOk P w K mg base CX0 2 f fd ["base", "terms"] (spRefuseM K) := by
  refine F.ok (k := 1) sc_refuse_measure (fun vs H Q E h => ?_) (fun cdv A outer s H vs Q E hr h => ?_)
  · obtain ⟨p, b, ts, rfl, _⟩ := h
    rfl
  obtain ⟨p, b, ts, rfl, T, g, q⟩ := h
  obtain ⟨us, hS, hT⟩ := T.ex
  have b0 := g.b0
  have b1 := g.b1
  have fl := g.fl
  have few := T.few
  refine ⟨_, (pss_cons (ps_if (PW.pt (pw_or (pt_cmpR op_lt (pv 0) pe_int (nomark _)) (pw_or1 (pt_cmpR op_gt (pv 0) (pe_glob rfl m_GREATEST_BASE (rel_int _ _)) (nomark _)))))
        (pss_one ps_never)
        pss_nil)
      (pss_cons (ps_if (pt_cmpR op_gt (pe_callB call_len_seq rfl z_len PySem.boot_len (pa_cons (pv 1) pa_nil)) (pe_glob rfl m_MOST_TERMS (rel_int _ _)) (nomark _))
        (pss_one ps_never)
        pss_nil)
      (pss_cons (ps_if (pt_not (pt_val (pe_callB (call_all rfl) rfl z_all PyProof.Rows.boot_all (pa_cons (pe_comp rfl (compOk_nil ["base", "terms"] rfl (by decide +kernel) rfl (by decide +kernel) rfl (by decide +kernel) (by decide +kernel)) (pi_tup (pv 1)) (fun _ _ _ _ => pifs_nil) (fun _ _ _ _ => (pe_cal c_is_term (hr.mono (by decide)) rfl (pa_cons (pv 0) pa_nil)))) pa_nil))))
        (pss_one ps_never)
        pss_nil)
      (pss_one (ps_if (pt_cmpR op_lt (pe_cal c_least_length (hr.mono (by decide)) rfl (pa_cons (pv 0) (pa_cons (pv 1) pa_nil))) pe_int (nomark _))
        (pss_one ps_never)
        pss_nil))))), ?_⟩
  walk_at "rd"
  refine iteN (by omega) ?_
  walk_at "rd"
  refine iteN (by omega) ?_
  walk_at "rd"
  refine ⟨p, us, rfl, .inr hS, ?_⟩
  walk_at "rd"
  refine iteN (by rw [hT.len]; omega) ?_
  walk_at "rd"
  refine comp_t rfl hS (by rw [hT.len]; exact small1000 (by omega)) (fun _ => true) (fun _ => .bl true) (fun x hx D ys Q' hD h => h) (fun x hx _ D ys Q' hD h => ?_) (fun D hD => ?_)
  · obtain ⟨a, t, rfl, ht, ha⟩ := hT.mem hx
    walk_at "rd"
    exact ⟨a, t, rfl, same_new hD _ _ _ ha, T.ok t ht, h⟩
  have s1 := same_new hD (.lst ((us.filter fun _ => true).map fun _ => V.bl true))
  have e : ((us.filter fun _ => true).map fun _ => V.bl true) = (us.map fun _ => true).map V.bl := by
    rw [List.filter_eq_self.mpr (fun _ _ => rfl), List.map_map]
    rfl
  walk_at "rd"
  refine ⟨D, us.map (fun _ => true), rfl, SqL.of (by rw [upd_same, e]), ?_⟩
  walk_at "rd"
  rw [show ((us.map fun _ => true).all id) = true from List.all_eq_true.mpr (fun x hx => by obtain ⟨_, _, rfl⟩ := List.mem_map.mp hx; rfl)]
  refine iteF ?_
  walk_at "rd"
  refine ⟨p, b, ts, rfl, T.same s1, fun H2 s2 => ?_⟩
  walk_at "rd"
  refine iteN (by omega) ?_
  walk_at "rd"
  exact q _ (s1.trans s2)
theorem sc_period_of : FnScope ["terms", "told", "term"] ["terms"] (defScope s_period_of) := ⟨rfl, rfl, rfl, by decide +kernel, rfl, by decide +kernel, by decide +kernel⟩
theorem ok_period_of {f : Addr} {fd : FuncData} (F : Fun K "period_of" "period_of" s_period_of f fd) (c_common : Cal P w K mg base 3 "common" ["one", "other"] spCommon) : FnOk P w K mg base CX0 4 f fd ["terms"] (spPeriod K) := by
  refine F.ok (k := 3) sc_period_of (fun vs H Q E h => ?_) (fun cdv A outer s H vs Q E hr h => ?_)
  · obtain ⟨p, ts, rfl, _⟩ := h
    rfl
  obtain ⟨p, ts, rfl, T, q⟩ := h
  obtain ⟨us, hS, hT⟩ := T.ex
  have few := T.few
  have ulen := hT.len
  refine ⟨_, (pss_cons (ps_set (i := 1) sc_period_of.nd rfl (by first | exact Or.inl rfl | exact Or.inr rfl) pe_int)
      (pss_cons (ps_for PassesOwn.never rfl (pi_tup (pv 0)) (pg_name (i := 2) sc_period_of.nd rfl (by first | exact Or.inl rfl | exact Or.inr rfl))
        (pss_one (ps_set (i := 1) sc_period_of.nd rfl (by first | exact Or.inl rfl | exact Or.inr rfl) (pe_cal c_common (hr.mono (by decide)) rfl (pa_cons (pv 1) (pa_cons (pe_ix ix_tup (pv 2) pe_int (fun _ _ => rfl)) pa_nil))))))
      (pss_one (ps_ret (pv 1))))), ?_⟩
  walk_at "rd"
  walk_at "rdf"
  walk_at "rd"
  refine ⟨p, rfl, ⟨us, hS⟩, for_tup (xs := us) (fun i σ' H' => Same H H' ∧ ∃ c : Option V, σ' = [some (.ref p), some (.int (PER (ts.take i))), c]) ⟨Same.refl _, none, rfl⟩ ?_ ?_ ?_⟩
  · rintro i σ' H' _ ⟨s, _⟩
    exact s.tup hS
  · rintro i x σ' H' hx ⟨s, c, rfl⟩
    obtain ⟨a, t, rfl, ht, ha⟩ := hT.at hx
    have i6 : i < 6 := by
      have := (List.getElem?_eq_some_iff.mp ht).1
      omega
    obtain ⟨h1, h2⟩ := per_pow T.ok i (by omega)
    have h3 := pow6 (show i ≤ 6 by omega)
    have ok := T.ok t (List.mem_of_getElem? ht)
    have n0 := ok.n0
    have n1 := ok.n1
    walk_at "rd"
    refine rd_ixT (SqT.of (s _ _ ha)) at43 ?_
    walk_at "rd"
    refine ⟨_, _, rfl, h1, by omega, bt_small (by omega) (by omega) (by decide), bt_small (by omega) (by omega) (by decide), fun H2 s2 => ?_⟩
    walk_at "rd"
    refine ⟨s.trans s2, some (.ref a), ?_⟩
    have e2 : PER (ts.take (i + 1)) = lcmI (PER (ts.take i)) t.2.2.2 := by
      unfold PER
      rw [List.take_add_one, ht, Option.toList_some, List.foldl_append]
      rfl
    rw [e2]
    rfl
  · rintro σ' H' ⟨s, c, rfl⟩
    walk_at "rd"
    rw [ulen, List.take_length]
    exact q _ s
theorem sc_Measure_upto : FnScope ["self", "k"] ["self", "k"] (defScope s_Measure_upto) := ⟨rfl, rfl, rfl, by decide +kernel, rfl, by decide +kernel, by decide +kernel⟩
theorem ok_Measure_upto {f : Addr} {fd : FuncData} (F : Fun K "upto" "Measure.upto" s_Measure_upto f fd) (er : Errs K mg c_FeastError c_NoNumber c_NoMeasure c_NoDate c_InGap c_NoChange c_Measure c_Calendar c_Sun c_Moon c_Change) (c_signs_upto : Cal P w K mg base 1 "signs_upto" ["terms", "k"] (spSigns K)) : FnOk P w K mg base CX0 2 f fd ["self", "k"] (spUpto K c_Measure) := by
  refine F.ok (k := 1) sc_Measure_upto (fun vs H Q E h => ?_) (fun cdv A outer s H vs Q E hr h => ?_)
  · obtain ⟨x, p, dx, k, b, ts, fs, rfl, _⟩ := h
    rfl
  obtain ⟨x, p, dx, k, b, ts, fs, rfl, hx, fb, ft, T, b0, b1, bk, q⟩ := h
  refine ⟨_, (pss_one (ps_ret (pe_op op_add (pe_op op_mulB (pe_fld (pv 0) (by rfl)) (pv 1)) (pe_cal c_signs_upto (hr.mono (by decide)) rfl (pa_cons (pe_fld (pv 0) (by rfl)) (pa_cons (pv 1) pa_nil)))))), ?_⟩
  walk_at "rd"
  refine ⟨x, c_Measure, dx, fs, _, rfl, hx, er.cl_Measure, er.na_Measure_base, fb, ?_⟩
  walk_at "rd"
  refine rd_i ⟨64, 400, bt_small (by omega) (by omega) (by decide), bk, by decide⟩ ?_
  walk_at "rd"
  refine ⟨x, c_Measure, dx, fs, _, rfl, hx, er.cl_Measure, er.na_Measure_terms, ft, ?_⟩
  walk_at "rd"
  refine ⟨p, k, ts, rfl, T, bk, fun H' s => ?_⟩
  walk_at "rd"
  exact q _ s
theorem sc_Measure___init__ : FnScope ["self", "base", "terms"] ["self", "base", "terms"] (defScope s_Measure___init__) := ⟨rfl, rfl, rfl, by decide +kernel, rfl, by decide +kernel, by decide +kernel⟩
theorem ok_Measure___init__ {f : Addr} {fd : FuncData} {ds : Array Value} (F : FunD K "__init__" "Measure.__init__" s_Measure___init__ f fd ds) (er : Errs K mg c_FeastError c_NoNumber c_NoMeasure c_NoDate c_InGap c_NoChange c_Measure c_Calendar c_Sun c_Moon c_Change) (c_refuse_measure : Cal P w K mg base 2 "refuse_measure" ["base", "terms"] (spRefuseM K)) (c_period_of : Cal P w K mg base 4 "period_of" ["terms"] (spPeriod K)) (c_Measure_upto : CalM P w K mg base CX0 2 c_Measure "upto" ["self", "k"] (spUpto K c_Measure)) (z_tuple : mg "tuple" = none) : FnOk P w K mg base CX0 5 f fd ["self", "base", "terms"] (spInitM K c_Measure) := by
  refine F.ok (k := 4) sc_Measure___init__ (fun vs H Q E h => ?_) (fun cdv A outer s H vs Q E hr h => ?_)
  · obtain ⟨x, dx, b, v, us, ts, rfl, _⟩ := h
    rfl
  obtain ⟨x, dx, b, v, us, ts, rfl, hx, hT, hv, ok, few, g, po, q⟩ := h
  refine ⟨_, (pss_cons (ps_fld (pv 0) (pv 1) (by rfl))
      (pss_cons (ps_fld (pv 0) (pe_ifExp (pt_cmpR op_isN (pv 2) pe_non (nomark _)) (pe_tup pa_nil) (pe_callTy call_tuple_of rfl z_tuple PyProof.Rows.boot_tuple (pa_cons (pv 2) pa_nil))) (by rfl))
      (pss_cons (ps_expr (pe_cal c_refuse_measure (hr.mono (by decide)) rfl (pa_cons (pe_fld (pv 0) (by rfl)) (pa_cons (pe_fld (pv 0) (by rfl)) pa_nil))))
      (pss_cons (ps_fld (pv 0) (pe_cal c_period_of (hr.mono (by decide)) rfl (pa_cons (pe_fld (pv 0) (by rfl)) pa_nil)) (by rfl))
      (pss_cons (ps_fld (pv 0) (pe_mcal c_Measure_upto er.cl_Measure (hr.mono (by decide)) (pv 0) (pa_cons (pe_fld (pv 0) (by rfl)) pa_nil)) (by rfl))
      (pss_one (ps_if (pt_cmpR op_eq (pe_fld (pv 0) (by rfl)) pe_int (nomark _))
        (pss_one ps_never)
        pss_nil))))))), ?_⟩
  walk_at "rdx"
  refine ⟨x, c_Measure, dx, [], rfl, hx, er.cl_Measure, er.na_Measure_base, by decide, ?_⟩
  have k1 : ∀ y o, y ≠ x → H y = some o → upd H x (.ins c_Measure dx (putF (Str.ofString "base") (.int b) [])) y = some o := fun y o hy h => by rw [upd_ne hy]; exact h
  have x1 : upd H x (.ins c_Measure dx (putF (Str.ofString "base") (.int b) [])) x = some (.ins c_Measure dx [(Str.ofString "base", .int b)]) := upd_same
  generalize upd H x (.ins c_Measure dx (putF (Str.ofString "base") (.int b) [])) = H1 at k1 x1 ⊢
  have tmk : ∀ {H' : Hp}, (∀ y o, y ≠ x → H y = some o → H' y = some o) → Tms H' us ts := fun {H'} k => by
    have : ∀ {vs : List V} {ts : List Tm}, Tms H vs ts → Tms H' vs ts := fun {vs ts} h => by
      induction h with
      | nil => exact .nil
      | cons h _ ih => exact .cons (k _ _ (fun e => by subst e; rw [hx] at h; cases h) h) ih
    exact this hT
  walk_at "rdx"
  rcases hv with ⟨rfl, eu⟩ | ⟨l, rfl, hl⟩
  all_goals refine ⟨rfl, ?_⟩
  all_goals walk_at "rdx"
  all_goals first | refine iteD rfl ?_ | refine iteN (fun z => by cases z) ?_
  all_goals walk_at "rdx"
  all_goals first
    | refine ⟨l, us, rfl, .inl ⟨SqL.of (k1 _ _ (ne_of hl hx (by intro z; cases z)) hl), fun p hp => ?_⟩⟩
    | (refine ⟨Nat.zero_le _, fun p hp => ?_⟩
       rw [show upd H1 p (.tup []) = upd H1 p (.tup us) by rw [eu]])
  all_goals
    have px : x ≠ p := ne_of_none x1 hp
    walk_at "rdx"
    refine ⟨x, c_Measure, dx, _, rfl, by rw [upd_ne px]; exact x1, er.cl_Measure, er.na_Measure_terms, (by show 1 < 1000; decide), ?_⟩
    have k2 : ∀ y o, y ≠ x → H1 y = some o → upd (upd H1 p (.tup us)) x (.ins c_Measure dx (putF (Str.ofString "terms") (.ref p) [(Str.ofString "base", .int b)])) y = some o := fun y o hy h => by
      rw [upd_ne hy]
      exact same_new hp _ _ _ h
    have x2 : upd (upd H1 p (.tup us)) x (.ins c_Measure dx (putF (Str.ofString "terms") (.ref p) [(Str.ofString "base", .int b)])) x = some (.ins c_Measure dx [(Str.ofString "base", .int b), (Str.ofString "terms", .ref p)]) := upd_same
    have p2 : upd (upd H1 p (.tup us)) x (.ins c_Measure dx (putF (Str.ofString "terms") (.ref p) [(Str.ofString "base", .int b)])) p = some (.tup us) := by rw [upd_ne (Ne.symm px), upd_same]
    generalize upd (upd H1 p (.tup us)) x (.ins c_Measure dx (putF (Str.ofString "terms") (.ref p) [(Str.ofString "base", .int b)])) = H2 at k2 x2 p2 ⊢
    have k02 : ∀ y o, y ≠ x → H y = some o → H2 y = some o := fun y o hy h => k2 y o hy (k1 y o hy h)
    have T2 : TmT K H2 p ts := ⟨⟨us, SqT.of p2, tmk k02⟩, ok, few⟩
    walk_at "rdx"
    refine ⟨x, c_Measure, dx, _, _, rfl, x2, er.cl_Measure, er.na_Measure_base, rfl, ?_⟩
    walk_at "rdx"
    refine ⟨x, c_Measure, dx, _, _, rfl, x2, er.cl_Measure, er.na_Measure_terms, rfl, ?_⟩
    walk_at "rdx"
    refine ⟨p, b, ts, rfl, T2, g, fun H3 s3 => ?_⟩
    have x3 := s3 _ _ x2
    walk_at "rdx"
    refine ⟨x, c_Measure, dx, _, _, rfl, x3, er.cl_Measure, er.na_Measure_terms, rfl, ?_⟩
    walk_at "rdx"
    refine ⟨p, ts, rfl, T2.same s3, fun H4 s4 => ?_⟩
    have x4 := s4 _ _ x3
    have p4 := (s3.trans s4) _ _ p2
    walk_at "rdx"
    refine ⟨x, c_Measure, dx, _, rfl, x4, er.cl_Measure, er.na_Measure_full_count, (by show 2 < 1000; decide), ?_⟩
    have pne : p ≠ x := Ne.symm px
    have k5 : ∀ y o, y ≠ x → H4 y = some o → upd H4 x (.ins c_Measure dx (putF (Str.ofString "full_count") (.int (PER ts)) [(Str.ofString "base", .int b), (Str.ofString "terms", .ref p)])) y = some o := fun y o hy h => by rw [upd_ne hy]; exact h
    have x5 : upd H4 x (.ins c_Measure dx (putF (Str.ofString "full_count") (.int (PER ts)) [(Str.ofString "base", .int b), (Str.ofString "terms", .ref p)])) x = some (.ins c_Measure dx [(Str.ofString "base", .int b), (Str.ofString "terms", .ref p), (Str.ofString "full_count", .int (PER ts))]) := upd_same
    generalize upd H4 x (.ins c_Measure dx (putF (Str.ofString "full_count") (.int (PER ts)) [(Str.ofString "base", .int b), (Str.ofString "terms", .ref p)])) = H5 at k5 x5 ⊢
    have k05 : ∀ y o, y ≠ x → H y = some o → H5 y = some o := fun y o hy h => k5 y o hy ((s3.trans s4) _ _ (k02 y o hy h))
    have T5 : TmT K H5 p ts := ⟨⟨us, SqT.of (k5 _ _ pne p4), tmk k05⟩, ok, few⟩
    obtain ⟨h1, h2⟩ := per_pow ok 6 (by decide)
    rw [List.take_of_length_le few] at h1 h2
    have h3 := pow6 (show 6 ≤ 6 by decide)
    walk_at "rdx"
    refine ⟨x, dx, _, rfl, x5, rfl, ?_⟩
    walk_at "rdx"
    refine ⟨x, c_Measure, dx, _, _, rfl, x5, er.cl_Measure, er.na_Measure_full_count, rfl, ?_⟩
    walk_at "rdx"
    refine ⟨x, p, dx, PER ts, b, ts, _, rfl, x5, rfl, rfl, T5, g.b0, g.b1, bt_small (by omega) (by omega) (by decide), fun H6 s6 => ?_⟩
    have x6 := s6 _ _ x5
    walk_at "rdx"
    refine ⟨x, c_Measure, dx, _, rfl, x6, er.cl_Measure, er.na_Measure_full_sum, (by show 3 < 1000; decide), ?_⟩
    have k7 : ∀ y o, y ≠ x → H6 y = some o → upd H6 x (.ins c_Measure dx (putF (Str.ofString "full_sum") (.int (UP b ts (PER ts))) [(Str.ofString "base", .int b), (Str.ofString "terms", .ref p), (Str.ofString "full_count", .int (PER ts))])) y = some o := fun y o hy h => by rw [upd_ne hy]; exact h
    have x7 : upd H6 x (.ins c_Measure dx (putF (Str.ofString "full_sum") (.int (UP b ts (PER ts))) [(Str.ofString "base", .int b), (Str.ofString "terms", .ref p), (Str.ofString "full_count", .int (PER ts))])) x = some (.ins c_Measure dx (mF b p (PER ts) (UP b ts (PER ts)))) := upd_same
    generalize upd H6 x (.ins c_Measure dx (putF (Str.ofString "full_sum") (.int (UP b ts (PER ts))) [(Str.ofString "base", .int b), (Str.ofString "terms", .ref p), (Str.ofString "full_count", .int (PER ts))])) = H7 at k7 x7 ⊢
    have k07 : ∀ y o, y ≠ x → H y = some o → H7 y = some o := fun y o hy h => k7 y o hy (s6 _ _ (k05 y o hy h))
    walk_at "rdx"
    refine ⟨x, c_Measure, dx, _, _, rfl, x7, er.cl_Measure, er.na_Measure_full_sum, rfl, ?_⟩
    walk_at "rdx"
    refine iteN (fun z => by have := V.int.inj z; omega) ?_
    walk_at "rdx"
    refine q _ k07 ⟨⟨dx, p, x7, ⟨us, SqT.of (k7 _ _ pne (s6 _ _ (k5 _ _ pne p4))), tmk k07⟩, ok, few⟩, g, po⟩
theorem sc_Measure_at : FnScope ["self", "k"] ["self", "k"] (defScope s_Measure_at) := ⟨rfl, rfl, rfl, by decide +kernel, rfl, by decide +kernel, by decide +kernel⟩
theorem ok_Measure_at {f : Addr} {fd : FuncData} (F : Fun K "at" "Measure.at" s_Measure_at f fd) (er : Errs K mg c_FeastError c_NoNumber c_NoMeasure c_NoDate c_InGap c_NoChange c_Measure c_Calendar c_Sun c_Moon c_Change) (c_term_on : Cal P w K mg base 1 "term_on" ["term", "k"] spTermOn) (z_sum : mg "sum" = none) : FnOk P w K mg base CX0 2 f fd ["self", "k"] (spAt K c_Measure) := by
  refine F.ok (k := 1) sc_Measure_at (fun vs H Q E h => ?_) (fun cdv A outer s H vs Q E hr h => ?_)
  · obtain ⟨x, k, b, ts, rfl, _⟩ := h
    rfl
  obtain ⟨x, k, b, ts, rfl, M, bk, q⟩ := h
  obtain ⟨dx, p, hx, T⟩ := M.ex
  obtain ⟨us, hS, hT⟩ := T.ex
  refine ⟨_, (pss_one (ps_ret (pe_op op_add (pe_fld (pv 0) (by rfl)) (pe_callB (call_sum rfl) rfl z_sum PyProof.Rows.boot_sum (pa_cons (pe_comp rfl (compOk_freeM ["self", "k"] ["self", "k"] rfl rfl (by with_unfolding_all rfl) (by decide +kernel) rfl (by decide +kernel) rfl (by decide +kernel) (by walk_at "fm") (by with_unfolding_all rfl) (by with_unfolding_all rfl)) (pi_tup (pe_fld (pv 0) (by rfl))) (fun _ _ _ _ => (pifs_one (pt_val (pe_cal c_term_on (hr.mono (by decide)) rfl (pa_cons (pv 0) (pa_cons (pv 2) pa_nil)))))) (fun _ _ _ _ => (pe_ix ix_tup_c (pv 0) pe_int (fun _ _ => rfl)))) pa_nil))))), ?_⟩
  walk_at "rdx"
  refine ⟨x, c_Measure, dx, _, _, rfl, hx, er.cl_Measure, er.na_Measure_base, rfl, ?_⟩
  walk_at "rdx"
  refine rd_comp (rd_iT ?_)
  walk_at "rdx"
  refine ⟨x, c_Measure, dx, _, _, rfl, hx, er.cl_Measure, er.na_Measure_terms, rfl, ?_⟩
  refine ⟨p, rfl, ⟨_, hS⟩, comp_go walk_t (by rw [hT.len]; exact small1000 (by have := T.few; omega)) (fun D ys hD => (same_new hD _).tup hS) (fun v => ((tmAt H v).map fun t => onT t k).getD false) (fun v => ((tmAt H v).map fun t => V.int t.1).getD .non) (fun y hy D ys Q' hD h => ?_) (fun y hy _ D ys Q' hD h => ?_) (fun D hD => ?_)⟩
  · obtain ⟨a, t, rfl, ht, ha⟩ := hT.mem hy
    rw [tmAt_eq ha] at h
    walk_at "rdx"
    exact ⟨a, k, t, rfl, same_new hD _ _ _ ha, T.ok t ht, bk, ⟨_, rfl, h⟩⟩
  · obtain ⟨a, t, rfl, ht, ha⟩ := hT.mem hy
    rw [tmAt_eq ha] at h
    walk_at "rdx"
    refine rd_ixT (SqT.of (same_new hD _ _ _ ha)) at40 ?_
    exact h
  rw [hT.fm (fun t => onT t k) fun t => V.int t.1]
  have e : ((ts.filter fun t => onT t k).map fun t => V.int t.1) = ((ts.filter fun t => onT t k).map fun t => t.1).map V.int := by rw [List.map_map]; rfl
  rw [e]
  walk_at "rdx"
  refine ⟨D, _, rfl, SqL.of upd_same, ?_⟩
  walk_at "rdx"
  exact q _ (same_new hD _)
theorem sc_Measure_seek : FnScope ["self", "total", "rest", "low", "high", "middle"] ["self", "total"] (defScope s_Measure_seek) := ⟨rfl, rfl, rfl, by decide +kernel, rfl, by decide +kernel, by decide +kernel⟩
theorem ok_Measure_seek {f : Addr} {fd : FuncData} (F : Fun K "seek" "Measure.seek" s_Measure_seek f fd) (er : Errs K mg c_FeastError c_NoNumber c_NoMeasure c_NoDate c_InGap c_NoChange c_Measure c_Calendar c_Sun c_Moon c_Change) (c_Measure_upto : CalM P w K mg base CX0 2 c_Measure "upto" ["self", "k"] (spUpto K c_Measure)) : FnOk P w K mg base CX0 3 f fd ["self", "total"] (spSeek K c_Measure) := by
  refine F.ok (k := 2) sc_Measure_seek (fun vs H Q E h => ?_) (fun cdv A outer s H vs Q E hr h => ?_)
  · obtain ⟨x, n, b, ts, rfl, _⟩ := h
    rfl
  obtain ⟨x, n, b, ts, rfl, M, bn, q⟩ := h
  obtain ⟨dx, p, hx, T⟩ := M.ex
  have po := M.po
  have g := M.gd
  have hb0 := g.b0
  have hb1 := g.b1
  have up := UP_step (base := b) T.ok
  have mono := fun {j k : Int} (h : j ≤ k) => UP_mono T.ok g.fl h
  have per := UP_per (base := b) T.ok (P := PER ts) (fun t ht => by
    have := per_dvd T.ok 6 (by decide)
    rw [List.take_of_length_le T.few] at this
    exact this t ht)
  obtain ⟨h1, h2⟩ := per_pow T.ok 6 (by decide)
  rw [List.take_of_length_le T.few] at h1 h2
  have h3 := pow6 (show 6 ≤ 6 by decide)
  have uz := UP_zero (base := b) T.ok
  have sl := SU_le T.ok (Int.le_of_lt h1)
  have ln : (ts.length : Int) * PER ts ≤ 6 * PER ts := Int.mul_le_mul_of_nonneg_right (by have := T.few; omega) (Int.le_of_lt h1)
  have bm : b * PER ts ≤ 20000 * PER ts := Int.mul_le_mul_of_nonneg_right hb1 (Int.le_of_lt h1)
  have us : UP b ts (PER ts) = b * PER ts + SU ts (PER ts) := rfl
  have bS : Bt 500 (UP b ts (PER ts)) := (bt_of (by omega) (by omega)).mono (by decide)
  clear us bm ln sl
  generalize hP : PER ts = P at *
  generalize hS : UP b ts P = S at *
  have m0 := Int.emod_nonneg n (show S ≠ 0 by omega)
  have m1 := Int.emod_lt_of_pos n po
  have md := Int.mul_ediv_add_emod n S
  refine ⟨_, (pss_cons (ps_set (i := 2) sc_Measure_seek.nd rfl (by first | exact Or.inl rfl | exact Or.inr rfl) (pe_op op_mod (pv 1) (pe_fld (pv 0) (by rfl))))
      (pss_cons (ps_set (i := 3) sc_Measure_seek.nd rfl (by first | exact Or.inl rfl | exact Or.inr rfl) pe_int)
      (pss_cons (ps_set (i := 4) sc_Measure_seek.nd rfl (by first | exact Or.inl rfl | exact Or.inr rfl) (pe_fld (pv 0) (by rfl)))
      (pss_cons (ps_while PassesOwn.never (pt_cmpR op_gt (pe_op op_sub (pv 4) (pv 3)) pe_int (nomark _))
        (pss_cons (ps_set (i := 5) sc_Measure_seek.nd rfl (by first | exact Or.inl rfl | exact Or.inr rfl) (pe_op op_fdivB (pe_op op_add (pv 3) (pv 4)) pe_int))
      (pss_one (ps_cut (ps_if (pt_cmpR op_le (pe_mcal c_Measure_upto er.cl_Measure (hr.mono (by decide)) (pv 0) (pa_cons (pv 5) pa_nil)) (pv 2) (nomark _))
        (pss_one (ps_set (i := 3) sc_Measure_seek.nd rfl (by first | exact Or.inl rfl | exact Or.inr rfl) (pv 5)))
        (pss_one (ps_set (i := 4) sc_Measure_seek.nd rfl (by first | exact Or.inl rfl | exact Or.inr rfl) (pv 5))))))))
      (pss_one (ps_ret (pe_op op_add (pe_op op_mulB (pe_op op_fdivB (pv 1) (pe_fld (pv 0) (by rfl))) (pe_fld (pv 0) (by rfl))) (pv 3)))))))), ?_⟩
  walk_at "rdx"
  refine ⟨x, c_Measure, dx, _, _, rfl, hx, er.cl_Measure, er.na_Measure_full_sum, rfl, ?_⟩
  walk_at "rdx"
  refine ⟨x, c_Measure, dx, _, _, rfl, hx, er.cl_Measure, er.na_Measure_full_count, rfl, ?_⟩
  walk_at "rdx"
  refine ⟨fun m σ' H' => Same H H' ∧ ∃ (lo hi : Int) (c : Option V), σ' = [some (.ref x), some (.int n), some (.int (n % S)), some (.int lo), some (.int hi), c] ∧ 0 ≤ lo ∧ lo < hi ∧ hi ≤ P ∧ UP b ts lo ≤ n % S ∧ n % S < UP b ts hi ∧ m = (hi - lo).toNat,
    ⟨_, Same.refl _, 0, P, none, rfl, by decide, h1, Int.le_refl _, by rw [uz]; exact m0, by rw [hS]; exact m1, rfl⟩, ?_⟩
  rintro m σ' H1 ⟨s1, lo, hi, c, rfl, l0, lh, hP', u1, u2, rfl⟩
  walk_at "rdx"
  refine ite2d (fun cc => ?_) (fun cc => ?_)
  · refine ⟨_, fun σ' H' hh => hh, ?_⟩
    walk_at "rdx"
    generalize hm : (lo + hi) / 2 = mi
    refine rd_cut (fun σ' H' => ∃ i, i < (hi - lo).toNat ∧ Same H H' ∧ ∃ (lo hi : Int) (c : Option V), σ' = [some (.ref x), some (.int n), some (.int (n % S)), some (.int lo), some (.int hi), c] ∧ 0 ≤ lo ∧ lo < hi ∧ hi ≤ P ∧ UP b ts lo ≤ n % S ∧ n % S < UP b ts hi ∧ i = (hi - lo).toNat) ?_ (fun _ _ h => h)
    walk_at "rdx"
    refine ⟨x, dx, _, rfl, s1 _ _ hx, rfl, ?_⟩
    walk_at "rdx"
    refine ⟨x, p, dx, mi, b, ts, _, rfl, s1 _ _ hx, rfl, rfl, T.same s1, hb0, hb1, bt_small (by omega) (by omega) (by decide), fun H2 s2 => ?_⟩
    walk_at "rdx"
    refine ite2d (fun c2 => ?_) (fun c2 => ?_)
    · walk_at "rdx"
      exact ⟨(hi - mi).toNat, by omega, s1.trans s2, mi, hi, _, rfl, by omega, by omega, hP', c2, u2, rfl⟩
    · walk_at "rdx"
      exact ⟨(mi - lo).toNat, by omega, s1.trans s2, lo, mi, _, rfl, l0, by omega, by omega, u1, by omega, rfl⟩
  · have e : hi = lo + 1 := by omega
    subst e
    walk_at "rdx"
    refine ⟨x, c_Measure, dx, _, _, rfl, s1 _ _ hx, er.cl_Measure, er.na_Measure_full_sum, rfl, ?_⟩
    walk_at "rdx"
    refine rd_i ⟨po, bS.mono (by decide)⟩ ?_
    walk_at "rdx"
    refine ⟨x, c_Measure, dx, _, _, rfl, s1 _ _ hx, er.cl_Measure, er.na_Measure_full_count, rfl, ?_⟩
    have bP : Bt 64 P := bt_small (by omega) (by omega) (by decide)
    refine rd_i ⟨300, 64, bt_div bn po, bP, by decide⟩ ?_
    walk_at "rdx"
    have e := per lo (n / S)
    have e' := per (lo + 1) (n / S)
    rw [show n / S * P + lo = lo + P * (n / S) by rw [Int.mul_comm]; omega]
    refine q _ _ s1 ?_ ?_ ?_
    · rw [e, Int.mul_comm (n / S) S]
      omega
    · rw [show lo + P * (n / S) + 1 = lo + 1 + P * (n / S) by omega, e', Int.mul_comm (n / S) S]
      omega
    · have := (bP.mul (bt_div bn po)).add ((show Bt 64 lo from bt_small (by omega) (by omega) (by decide)).mono (show 64 ≤ 64 + 300 by decide))
      rw [Int.add_comm]
      exact this.mono (by decide)
theorem sc_refuse_months : FnScope ["lengths", "leap"] ["lengths", "leap"] (defScope s_refuse_months) := ⟨rfl, rfl, rfl, by decide +kernel, rfl, by decide +kernel, by decide +kernel⟩
theorem ok_refuse_months {f : Addr} {fd : FuncData} (F : Fun K "refuse_months" "refuse_months" s_refuse_months f fd) (z_len : mg "len" = none) (z_min : mg "min" = none) (z_max : mg "max" = none) {tk_MOST_MONTHS : Tok} (m_MOST_MONTHS : mg "MOST_MONTHS" = some (.int 20 tk_MOST_MONTHS)) {tk_LONGEST_MONTH : Tok} (m_LONGEST_MONTH : mg "LONGEST_MONTH" = some (.int 1000 tk_LONGEST_MONTH)) : FnOk P w K mg base CX0 1 f fd ["lengths", "leap"] (spRefMo K) := by
  refine F.ok (k := 0) sc_refuse_months (fun vs H Q E h => ?_) (fun cdv A outer s H vs Q E hr h => ?_)
  · obtain ⟨l, lp, ls, ts, rfl, _⟩ := h
    rfl
  obtain ⟨l, lp, ls, ts, rfl, hS, g, q⟩ := h
  have l0 := g.l0
  have l1 := g.l1
  have p0 := g.p0
  have p1 := g.p1
  have ne : ls ≠ [] := fun z => by rw [z] at l0; simp at l0
  refine ⟨_, (pss_cons (ps_if (PW.pt (pw_or (pt_cmpR op_lt (pe_callB call_len_seq rfl z_len PySem.boot_len (pa_cons (pv 0) pa_nil)) pe_int (nomark _)) (pw_or1 (pt_cmpR op_gt (pe_callB call_len_seq rfl z_len PySem.boot_len (pa_cons (pv 0) pa_nil)) (pe_glob rfl m_MOST_MONTHS (rel_int _ _)) (nomark _)))))
        (pss_one ps_never)
        pss_nil)
      (pss_cons (ps_if (PW.pt (pw_or (pt_cmpR op_lt (pe_callB (call_minL rfl) rfl z_min PyProof.Rows.boot_min (pa_cons (pv 0) pa_nil)) pe_int (nomark _)) (pw_or1 (pt_cmpR op_gt (pe_callB (call_maxL rfl) rfl z_max PyProof.Rows.boot_max (pa_cons (pv 0) pa_nil)) (pe_glob rfl m_LONGEST_MONTH (rel_int _ _)) (nomark _)))))
        (pss_one ps_never)
        pss_nil)
      (pss_one (ps_if (PW.pt (pw_or (pt_cmpR op_lt (pv 1) pe_int (nomark _)) (pw_or1 (pt_cmpR op_gt (pv 1) (pe_callB call_len_seq rfl z_len PySem.boot_len (pa_cons (pv 0) pa_nil)) (nomark _)))))
        (pss_one ps_never)
        pss_nil)))), ?_⟩
  walk_at "rdx"
  refine ⟨l, _, rfl, .inl hS, ?_⟩
  rw [List.length_map]
  walk_at "rdx"
  refine iteN (by omega) ?_
  walk_at "rdx"
  refine ⟨l, _, rfl, .inl hS, ?_⟩
  rw [List.length_map]
  walk_at "rdx"
  refine iteN (by omega) ?_
  walk_at "rdx"
  refine ⟨l, ls, rfl, hS, ne, fun m hm _ => ?_⟩
  have := g.m m hm
  walk_at "rdx"
  refine iteN (by omega) ?_
  walk_at "rdx"
  refine ⟨l, ls, rfl, hS, ne, fun m hm _ => ?_⟩
  have := g.m m hm
  walk_at "rdx"
  refine iteN (by omega) ?_
  walk_at "rdx"
  refine iteN (by omega) ?_
  walk_at "rdx"
  refine ⟨l, _, rfl, .inl hS, ?_⟩
  rw [List.length_map]
  walk_at "rdx"
  refine iteN (by omega) ?_
  walk_at "rdx"
  exact q
theorem sc_Sun___init__ : FnScope ["self", "start", "lengths", "leap", "terms"] ["self", "start", "lengths", "leap", "terms"] (defScope s_Sun___init__) := ⟨rfl, rfl, rfl, by decide +kernel, rfl, by decide +kernel, by decide +kernel⟩
theorem ok_Sun___init__ {f : Addr} {fd : FuncData} {ds : Array Value} (F : FunD K "__init__" "Sun.__init__" s_Sun___init__ f fd ds) (er : Errs K mg c_FeastError c_NoNumber c_NoMeasure c_NoDate c_InGap c_NoChange c_Measure c_Calendar c_Sun c_Moon c_Change) (c_refuse_months : Cal P w K mg base 1 "refuse_months" ["lengths", "leap"] (spRefMo K)) (c_Measure___init__ : CalI P w K mg base CX0 5 "Measure" c_Measure ["self", "base", "terms"] (spInitM K c_Measure)) (c_least_length : Cal P w K mg base 1 "least_length" ["base", "terms"] (spLeast K)) (z_tuple : mg "tuple" = none) (z_sum : mg "sum" = none) : FnOk P w K mg base CX0 7 f fd ["self", "start", "lengths", "leap", "terms"] (spInitS K c_Sun c_Measure) := by
  refine F.ok (k := 6) sc_Sun___init__ (fun vs H Q E h => ?_) (fun cdv A outer s H vs Q E hr h => ?_)
  · obtain ⟨x, dx, ll, s, lp, v, us, ls, ts, rfl, _⟩ := h
    rfl
  obtain ⟨x, dx, ll, s, lp, v, us, ls, ts, rfl, hx, hl, hT, hv, g, bs, q⟩ := h
  have lx : ll ≠ x := ne_of hl hx (by intro z; cases z)
  have l0 := g.l0
  have l1 := g.l1
  have p0 := g.p0
  have p1 := g.p1
  have f0 := g.f0
  have f1 := g.f1
  refine ⟨_, (pss_cons (ps_expr (pe_cal c_refuse_months (hr.mono (by decide)) rfl (pa_cons (pv 2) (pa_cons (pv 3) pa_nil))))
      (pss_cons (ps_fld (pv 0) (pv 1) (by rfl))
      (pss_cons (ps_fld (pv 0) (pe_callTy call_tuple_of rfl z_tuple PyProof.Rows.boot_tuple (pa_cons (pv 2) pa_nil)) (by rfl))
      (pss_cons (ps_fld (pv 0) (pv 3) (by rfl))
      (pss_cons (ps_fld (pv 0) (pe_mk c_Measure___init__ (hr.mono (by decide)) rfl (pa_cons (pe_callB (call_sum rfl) rfl z_sum PyProof.Rows.boot_sum (pa_cons (pv 2) pa_nil)) (pa_cons (pv 4) pa_nil))) (by rfl))
      (pss_cons (ps_if (pt_cmpR op_lt (pe_cal c_least_length (hr.mono (by decide)) rfl (pa_cons (pe_ix ix_list (pv 2) (pe_op op_sub (pv 3) pe_int) (fun _ _ => rfl)) (pa_cons (pe_fld (pe_fld (pv 0) (by rfl)) (by rfl)) pa_nil))) pe_int (nomark _))
        (pss_one ps_never)
        pss_nil)
      (pss_one (ps_if (pt_cmpR op_lt (pe_cal c_least_length (hr.mono (by decide)) rfl (pa_cons (pe_fld (pe_fld (pv 0) (by rfl)) (by rfl)) (pa_cons (pe_fld (pe_fld (pv 0) (by rfl)) (by rfl)) pa_nil))) pe_int (nomark _))
        (pss_one ps_never)
        pss_nil)))))))), ?_⟩
  walk_at "rdx"
  refine ⟨ll, lp, ls, ts, rfl, SqL.of hl, g, ?_⟩
  walk_at "rdx"
  refine ⟨x, c_Sun, dx, [], rfl, hx, er.cl_Sun, er.na_Sun_start, by decide, ?_⟩
  have k1 : But x H (upd H x (.ins c_Sun dx (putF (Str.ofString "start") (.int s) []))) := But.upd
  have x1 : upd H x (.ins c_Sun dx (putF (Str.ofString "start") (.int s) [])) x = some (.ins c_Sun dx [(Str.ofString "start", .int s)]) := upd_same
  generalize upd H x (.ins c_Sun dx (putF (Str.ofString "start") (.int s) [])) = H1 at k1 x1 ⊢
  walk_at "rdx"
  refine ⟨ll, _, rfl, .inl ⟨SqL.of (k1 _ _ lx hl), fun p hp => ?_⟩⟩
  have px : x ≠ p := ne_of_none x1 hp
  walk_at "rdx"
  refine ⟨x, c_Sun, dx, _, rfl, by rw [upd_ne px]; exact x1, er.cl_Sun, er.na_Sun_months, (by show 1 < 1000; decide), ?_⟩
  have k2 : But x H1 (upd (upd H1 p (.tup (ls.map V.int))) x (.ins c_Sun dx (putF (Str.ofString "months") (.ref p) [(Str.ofString "start", .int s)]))) := fun y o hy h => by
    rw [upd_ne hy]
    exact same_new hp _ _ _ h
  have x2 : upd (upd H1 p (.tup (ls.map V.int))) x (.ins c_Sun dx (putF (Str.ofString "months") (.ref p) [(Str.ofString "start", .int s)])) x = some (.ins c_Sun dx [(Str.ofString "start", .int s), (Str.ofString "months", .ref p)]) := upd_same
  have t2 : upd (upd H1 p (.tup (ls.map V.int))) x (.ins c_Sun dx (putF (Str.ofString "months") (.ref p) [(Str.ofString "start", .int s)])) p = some (.tup (ls.map V.int)) := by rw [upd_ne (Ne.symm px), upd_same]
  generalize upd (upd H1 p (.tup (ls.map V.int))) x (.ins c_Sun dx (putF (Str.ofString "months") (.ref p) [(Str.ofString "start", .int s)])) = H2 at k2 x2 t2 ⊢
  walk_at "rdx"
  refine ⟨x, c_Sun, dx, _, rfl, x2, er.cl_Sun, er.na_Sun_leap, (by show 2 < 1000; decide), ?_⟩
  have k3 : But x H2 (upd H2 x (.ins c_Sun dx (putF (Str.ofString "leap") (.int lp) [(Str.ofString "start", .int s), (Str.ofString "months", .ref p)]))) := But.upd
  have x3 : upd H2 x (.ins c_Sun dx (putF (Str.ofString "leap") (.int lp) [(Str.ofString "start", .int s), (Str.ofString "months", .ref p)])) x = some (.ins c_Sun dx [(Str.ofString "start", .int s), (Str.ofString "months", .ref p), (Str.ofString "leap", .int lp)]) := upd_same
  generalize upd H2 x (.ins c_Sun dx (putF (Str.ofString "leap") (.int lp) [(Str.ofString "start", .int s), (Str.ofString "months", .ref p)])) = H3 at k3 x3 ⊢
  have k03 : But x H H3 := fun y o hy h => k3 y o hy (k2 y o hy (k1 y o hy h))
  have l3 := k03 _ _ lx hl
  have t3 := k3 _ _ (Ne.symm px) t2
  walk_at "rdx"
  refine ⟨ll, ls, rfl, SqL.of l3, ?_⟩
  walk_at "rdx"
  refine fun y dy hy hdy ne => init_me hy hdy ne (hT.but hx .ins k03) ?_ g.ok g.few g.gm g.po fun H4 s4 M4 => ⟨rfl, ?_⟩
  · rcases hv with z | ⟨l, z, e⟩
    · exact .inl z
    · exact .inr ⟨l, z, k03 _ _ (ne_of e hx (by intro z; cases z)) e⟩
  have x4 := s4 _ _ x3
  have yx : y ≠ x := fun e => by subst e; rw [x3] at hy; cases hy
  walk_at "rdx"
  refine ⟨x, c_Sun, dx, _, rfl, x4, er.cl_Sun, er.na_Sun_years, (by show 3 < 1000; decide), ?_⟩
  have k5 : But x H4 (upd H4 x (.ins c_Sun dx (putF (Str.ofString "years") (.ref y) [(Str.ofString "start", .int s), (Str.ofString "months", .ref p), (Str.ofString "leap", .int lp)]))) := But.upd
  have x5 : upd H4 x (.ins c_Sun dx (putF (Str.ofString "years") (.ref y) [(Str.ofString "start", .int s), (Str.ofString "months", .ref p), (Str.ofString "leap", .int lp)])) x = some (.ins c_Sun dx (sF s lp p y)) := upd_same
  generalize upd H4 x (.ins c_Sun dx (putF (Str.ofString "years") (.ref y) [(Str.ofString "start", .int s), (Str.ofString "months", .ref p), (Str.ofString "leap", .int lp)])) = H5 at k5 x5 ⊢
  have M5 := M4.butX x4 .ins yx k5
  have t5 := k5 _ _ (Ne.symm px) (s4 _ _ t3)
  have l5 := k5 _ _ lx (s4 _ _ l3)
  have k05 : ∀ y o, y ≠ x → H y = some o → H5 y = some o := fun y o hy h => k5 y o hy (s4 _ _ (k03 y o hy h))
  obtain ⟨d5, tp, e5, T5⟩ := M5.ex
  have elp : lp - 1 = (((lp - 1).toNat : Nat) : Int) := by omega
  have hat : atI (ls.map V.int) (lp - 1) = some (V.int (ls.getD (lp - 1).toNat 0)) := by
    conv => lhs; rw [elp]
    refine atI_nat ?_
    rw [List.getElem?_map, List.getD_eq_getElem?_getD, List.getElem?_eq_getElem (by omega)]
    rfl
  walk_at "rdx"
  refine rd_ixL (SqL.of l5) hat ?_
  walk_at "rdx"
  refine ⟨x, c_Sun, dx, _, _, rfl, x5, er.cl_Sun, er.na_Sun_years, rfl, ?_⟩
  walk_at "rdx"
  refine ⟨y, c_Measure, d5, _, _, rfl, e5, er.cl_Measure, er.na_Measure_terms, rfl, ?_⟩
  walk_at "rdx"
  refine ⟨tp, _, ts, rfl, T5, fun H6 s6 => ?_⟩
  walk_at "rdx"
  refine iteN (by omega) ?_
  walk_at "rdx"
  have x6 := s6 _ _ x5
  have e6 := s6 _ _ e5
  refine ⟨x, c_Sun, dx, _, _, rfl, x6, er.cl_Sun, er.na_Sun_years, rfl, ?_⟩
  walk_at "rdx"
  refine ⟨y, c_Measure, d5, _, _, rfl, e6, er.cl_Measure, er.na_Measure_base, rfl, ?_⟩
  walk_at "rdx"
  refine ⟨x, c_Sun, dx, _, _, rfl, x6, er.cl_Sun, er.na_Sun_years, rfl, ?_⟩
  walk_at "rdx"
  refine ⟨y, c_Measure, d5, _, _, rfl, e6, er.cl_Measure, er.na_Measure_terms, rfl, ?_⟩
  walk_at "rdx"
  refine ⟨tp, _, ts, rfl, T5.same s6, fun H7 s7 => ?_⟩
  walk_at "rdx"
  refine iteN (by omega) ?_
  walk_at "rdx"
  refine q _ (fun y o hy h => s7 _ _ (s6 _ _ (k05 y o hy h))) ⟨⟨dx, p, y, s7 _ _ x6, SqT.of (s7 _ _ (s6 _ _ t5)), (M5.same s6).same s7⟩, g, bs⟩
theorem sc_Sun_year_start : FnScope ["self", "year"] ["self", "year"] (defScope s_Sun_year_start) := ⟨rfl, rfl, rfl, by decide +kernel, rfl, by decide +kernel, by decide +kernel⟩
theorem ok_Sun_year_start {f : Addr} {fd : FuncData} (F : Fun K "year_start" "Sun.year_start" s_Sun_year_start f fd) (er : Errs K mg c_FeastError c_NoNumber c_NoMeasure c_NoDate c_InGap c_NoChange c_Measure c_Calendar c_Sun c_Moon c_Change) (c_Measure_upto : CalM P w K mg base CX0 2 c_Measure "upto" ["self", "k"] (spUpto K c_Measure)) : FnOk P w K mg base CX0 3 f fd ["self", "year"] (spYS K c_Sun c_Measure) := by
  refine F.ok (k := 2) sc_Sun_year_start (fun vs H Q E h => ?_) (fun cdv A outer s H vs Q E hr h => ?_)
  · obtain ⟨x, n, s, ls, lp, ts, rfl, _⟩ := h
    rfl
  obtain ⟨x, n, s, ls, lp, ts, rfl, S, bn, q⟩ := h
  obtain ⟨dx, p, y, hx, hp, M⟩ := S.ex
  obtain ⟨d, fs, ey, ly⟩ := M.meth
  obtain ⟨d2, tp, e2, T2⟩ := M.ex
  refine ⟨_, (pss_one (ps_ret (pe_op op_add (pe_fld (pv 0) (by rfl)) (pe_mcal c_Measure_upto er.cl_Measure (hr.mono (by decide)) (pe_fld (pv 0) (by rfl)) (pa_cons (pv 1) pa_nil))))), ?_⟩
  walk_at "rdx"
  refine ⟨x, c_Sun, dx, _, _, rfl, hx, er.cl_Sun, er.na_Sun_start, rfl, ?_⟩
  walk_at "rdx"
  refine ⟨x, c_Sun, dx, _, _, rfl, hx, er.cl_Sun, er.na_Sun_years, rfl, ?_⟩
  walk_at "rdx"
  refine ⟨y, d, fs, rfl, ey, ly.2.2.1, ?_⟩
  walk_at "rdx"
  refine ⟨y, tp, d2, n, _, ts, _, rfl, e2, rfl, rfl, T2, M.gd.b0, M.gd.b1, bn.mono (by decide), fun H' s' => ?_⟩
  walk_at "rdx"
  exact q _ s'
theorem sc_Sun_year_at : FnScope ["self", "day"] ["self", "day"] (defScope s_Sun_year_at) := ⟨rfl, rfl, rfl, by decide +kernel, rfl, by decide +kernel, by decide +kernel⟩
theorem ok_Sun_year_at {f : Addr} {fd : FuncData} (F : Fun K "year_at" "Sun.year_at" s_Sun_year_at f fd) (er : Errs K mg c_FeastError c_NoNumber c_NoMeasure c_NoDate c_InGap c_NoChange c_Measure c_Calendar c_Sun c_Moon c_Change) (c_Measure_seek : CalM P w K mg base CX0 3 c_Measure "seek" ["self", "total"] (spSeek K c_Measure)) : FnOk P w K mg base CX0 4 f fd ["self", "day"] (spYA K c_Sun c_Measure) := by
  refine F.ok (k := 3) sc_Sun_year_at (fun vs H Q E h => ?_) (fun cdv A outer s H vs Q E hr h => ?_)
  · obtain ⟨x, n, s, ls, lp, ts, rfl, _⟩ := h
    rfl
  obtain ⟨x, n, s, ls, lp, ts, rfl, S, bn, q⟩ := h
  obtain ⟨dx, p, y, hx, hp, M⟩ := S.ex
  obtain ⟨d, fs, ey, ly⟩ := M.meth
  refine ⟨_, (pss_one (ps_ret (pe_mcal c_Measure_seek er.cl_Measure (hr.mono (by decide)) (pe_fld (pv 0) (by rfl)) (pa_cons (pe_op op_sub (pv 1) (pe_fld (pv 0) (by rfl))) pa_nil)))), ?_⟩
  walk_at "rdx"
  refine ⟨x, c_Sun, dx, _, _, rfl, hx, er.cl_Sun, er.na_Sun_years, rfl, ?_⟩
  walk_at "rdx"
  refine ⟨y, d, fs, rfl, ey, ly.1, ?_⟩
  walk_at "rdx"
  refine ⟨x, c_Sun, dx, _, _, rfl, hx, er.cl_Sun, er.na_Sun_start, rfl, ?_⟩
  walk_at "rdx"
  refine ⟨y, n - s, _, ts, rfl, M, (bn.sub S.bs).mono (by decide), fun k H' s' u1 u2 bk => ?_⟩
  exact q _ _ s' (by omega) (by omega) (((bn.sub S.bs).le (seek_small S.gd.ok S.gd.f1 u1 u2)).mono (by decide))
theorem sc_Sun_lengths : FnScope ["self", "year", "told"] ["self", "year"] (defScope s_Sun_lengths) := ⟨rfl, rfl, rfl, by decide +kernel, rfl, by decide +kernel, by decide +kernel⟩
theorem ok_Sun_lengths {f : Addr} {fd : FuncData} (F : Fun K "lengths" "Sun.lengths" s_Sun_lengths f fd) (er : Errs K mg c_FeastError c_NoNumber c_NoMeasure c_NoDate c_InGap c_NoChange c_Measure c_Calendar c_Sun c_Moon c_Change) (c_Measure_at : CalM P w K mg base CX0 2 c_Measure "at" ["self", "k"] (spAt K c_Measure)) (z_list : mg "list" = none) : FnOk P w K mg base CX0 3 f fd ["self", "year"] (spLens K c_Sun c_Measure) := by
  refine F.ok (k := 2) sc_Sun_lengths (fun vs H Q E h => ?_) (fun cdv A outer s H vs Q E hr h => ?_)
  · obtain ⟨x, n, s, ls, lp, ts, rfl, _⟩ := h
    rfl
  obtain ⟨x, n, s, ls, lp, ts, rfl, S, bn, q⟩ := h
  obtain ⟨dx, p, y, hx, hp, M⟩ := S.ex
  have g := S.gd
  have p0 := g.p0
  have p1 := g.p1
  have elp : lp - 1 = (((lp - 1).toNat : Nat) : Int) := by omega
  generalize hi : (lp - 1).toNat = i at elp
  have il : i < ls.length := by omega
  refine ⟨_, (pss_cons (ps_set (i := 2) sc_Sun_lengths.nd rfl (by first | exact Or.inl rfl | exact Or.inr rfl) (pe_callTy call_list_of rfl z_list PyProof.Rows.boot_list (pa_cons (pe_fld (pv 0) (by rfl)) pa_nil)))
      (pss_cons (ps_asg (pe_op op_sub (pe_op op_add (pe_ix ix_list (pv 2) (pe_op op_sub (pe_fld (pv 0) (by rfl)) pe_int) (fun _ _ => rfl)) (pe_mcal c_Measure_at er.cl_Measure (hr.mono (by decide)) (pe_fld (pv 0) (by rfl)) (pa_cons (pv 1) pa_nil))) (pe_fld (pe_fld (pv 0) (by rfl)) (by rfl))) (pg_sub (pv 2) (pe_op op_sub (pe_fld (pv 0) (by rfl)) pe_int) set_list))
      (pss_one (ps_ret (pv 2))))), ?_⟩
  walk_at "rdx"
  refine ⟨x, c_Sun, dx, _, _, rfl, hx, er.cl_Sun, er.na_Sun_months, rfl, ?_⟩
  walk_at "rdx"
  refine ⟨p, _, rfl, .inr hp, fun l hl => ?_⟩
  have s1 := same_new hl (.lst (ls.map V.int))
  have t1 : upd H l (.lst (ls.map V.int)) l = some (.lst (ls.map V.int)) := upd_same
  generalize upd H l (.lst (ls.map V.int)) = H1 at s1 t1 ⊢
  have M1 := M.same s1
  obtain ⟨d1, fs, e1, l1⟩ := M1.meth
  obtain ⟨d2, tp, e2, T2⟩ := M1.ex
  have x1 := s1 _ _ hx
  walk_at "rdx"
  refine ⟨x, c_Sun, dx, _, _, rfl, x1, er.cl_Sun, er.na_Sun_leap, rfl, ?_⟩
  walk_at "rdx"
  rw [elp]
  have hat : atI (ls.map V.int) (i : Int) = some (V.int (ls.getD i 0)) := by
    refine atI_nat ?_
    rw [List.getElem?_map, List.getD_eq_getElem?_getD, List.getElem?_eq_getElem il]
    rfl
  refine rd_ixL (SqL.of t1) hat ?_
  walk_at "rdx"
  refine ⟨x, c_Sun, dx, _, _, rfl, x1, er.cl_Sun, er.na_Sun_years, rfl, ?_⟩
  walk_at "rdx"
  refine ⟨y, d1, fs, rfl, e1, l1.2.1, ?_⟩
  walk_at "rdx"
  refine ⟨y, n, _, ts, rfl, M1, bn.mono (by decide), fun H2 s2 => ?_⟩
  have x2 := s2 _ _ x1
  walk_at "rdx"
  refine ⟨x, c_Sun, dx, _, _, rfl, x2, er.cl_Sun, er.na_Sun_years, rfl, ?_⟩
  walk_at "rdx"
  refine ⟨y, c_Measure, d2, _, _, rfl, s2 _ _ e2, er.cl_Measure, er.na_Measure_base, rfl, ?_⟩
  walk_at "rdx"
  refine ⟨x, c_Sun, dx, _, _, rfl, x2, er.cl_Sun, er.na_Sun_leap, rfl, ?_⟩
  walk_at "rdx"
  rw [elp]
  have t2 := s2 _ _ t1
  refine rd_setL t2 (by rw [List.length_map]; exact il) ?_
  walk_at "rdx"
  have ev : ls.getD i 0 + AT ls.sum ts n - ls.sum = ls.getD i 0 + ONS ts n := by
    unfold AT
    omega
  rw [ev]
  have el : (ls.map V.int).set i (V.int (ls.getD i 0 + ONS ts n)) = (LENS ls lp ts n).map V.int := by
    unfold LENS
    rw [hi, List.map_set]
  rw [el]
  refine q l _ hl (fun b o h => ?_) upd_same
  rw [upd_ne (ne_of_none h hl)]
  exact s2 _ _ (s1 _ _ h)
theorem sc_refuse_part : FnScope ["measure", "greatest"] ["measure", "greatest"] (defScope s_refuse_part) := ⟨rfl, rfl, rfl, by decide +kernel, rfl, by decide +kernel, by decide +kernel⟩
theorem ok_refuse_part {f : Addr} {fd : FuncData} (F : Fun K "refuse_part" "refuse_part" s_refuse_part f fd) (er : Errs K mg c_FeastError c_NoNumber c_NoMeasure c_NoDate c_InGap c_NoChange c_Measure c_Calendar c_Sun c_Moon c_Change) (c_least_length : Cal P w K mg base 1 "least_length" ["base", "terms"] (spLeast K)) : FnOk P w K mg base CX0 2 f fd ["measure", "greatest"] (spRefPt K c_Measure) := by
  refine F.ok (k := 1) sc_refuse_part (fun vs H Q E h => ?_) (fun cdv A outer s H vs Q E hr h => ?_)
  · obtain ⟨y, b, g, ts, rfl, _⟩ := h
    rfl
  obtain ⟨y, b, g, ts, rfl, M, f, bg, q⟩ := h
  obtain ⟨d, p, e, T⟩ := M.ex
  refine ⟨_, (pss_cons (ps_if (pt_cmpR op_lt (pe_cal c_least_length (hr.mono (by decide)) rfl (pa_cons (pe_fld (pv 0) (by rfl)) (pa_cons (pe_fld (pv 0) (by rfl)) pa_nil))) pe_int (nomark _))
        (pss_one ps_never)
        pss_nil)
      (pss_one (ps_if (pt_cmpR op_gt (pe_fld (pv 0) (by rfl)) (pv 1) (nomark _))
        (pss_one ps_never)
        pss_nil))), ?_⟩
  walk_at "rdx"
  refine ⟨y, c_Measure, d, _, _, rfl, e, er.cl_Measure, er.na_Measure_base, rfl, ?_⟩
  walk_at "rdx"
  refine ⟨y, c_Measure, d, _, _, rfl, e, er.cl_Measure, er.na_Measure_terms, rfl, ?_⟩
  walk_at "rdx"
  refine ⟨p, _, ts, rfl, T, fun H1 s1 => ?_⟩
  walk_at "rdx"
  refine iteN (by omega) ?_
  walk_at "rdx"
  refine ⟨y, c_Measure, d, _, _, rfl, s1 _ _ e, er.cl_Measure, er.na_Measure_base, rfl, ?_⟩
  walk_at "rdx"
  refine iteN (by omega) ?_
  walk_at "rdx"
  exact q _ s1
theorem sc_Moon___init__ : FnScope ["self", "start", "days", "many"] ["self", "start", "days", "many"] (defScope s_Moon___init__) := ⟨rfl, rfl, rfl, by decide +kernel, rfl, by decide +kernel, by decide +kernel⟩
theorem ok_Moon___init__ {f : Addr} {fd : FuncData} (F : Fun K "__init__" "Moon.__init__" s_Moon___init__ f fd) (er : Errs K mg c_FeastError c_NoNumber c_NoMeasure c_NoDate c_InGap c_NoChange c_Measure c_Calendar c_Sun c_Moon c_Change) (c_refuse_part : Cal P w K mg base 2 "refuse_part" ["measure", "greatest"] (spRefPt K c_Measure)) {tk_LONGEST_MONTH : Tok} (m_LONGEST_MONTH : mg "LONGEST_MONTH" = some (.int 1000 tk_LONGEST_MONTH)) {tk_MOST_MONTHS : Tok} (m_MOST_MONTHS : mg "MOST_MONTHS" = some (.int 20 tk_MOST_MONTHS)) : FnOk P w K mg base CX0 3 f fd ["self", "start", "days", "many"] (spInitMo K c_Moon c_Measure) := by
  refine F.ok (k := 2) sc_Moon___init__ (fun vs H Q E h => ?_) (fun cdv A outer s H vs Q E hr h => ?_)
  · obtain ⟨x, dx, d, m, s, bd, bm, td, tm, rfl, _⟩ := h
    rfl
  obtain ⟨x, dx, d, m, s, bd, bm, td, tm, rfl, hx, hd, hm, g, bs, q⟩ := h
  refine ⟨_, (pss_cons (ps_expr (pe_cal c_refuse_part (hr.mono (by decide)) rfl (pa_cons (pv 2) (pa_cons (pe_glob rfl m_LONGEST_MONTH (rel_int _ _)) pa_nil))))
      (pss_cons (ps_expr (pe_cal c_refuse_part (hr.mono (by decide)) rfl (pa_cons (pv 3) (pa_cons (pe_glob rfl m_MOST_MONTHS (rel_int _ _)) pa_nil))))
      (pss_cons (ps_fld (pv 0) (pv 1) (by rfl))
      (pss_cons (ps_fld (pv 0) (pv 2) (by rfl))
      (pss_one (ps_fld (pv 0) (pv 3) (by rfl))))))), ?_⟩
  walk_at "rdx"
  refine ⟨d, bd, _, td, rfl, hd, g.fd, g.gd, fun H0 s0 => ?_⟩
  walk_at "rdx"
  refine ⟨m, bm, _, tm, rfl, hm.same s0, g.fm, g.gm, fun H9 s9 => ?_⟩
  have s09 := s0.trans s9
  have hx := s09 _ _ hx
  have hd := hd.same s09
  have hm := hm.same s09
  have dnx : d ≠ x := by
    obtain ⟨_, _, e, _⟩ := hd.ex
    exact ne_of e hx (by intro z; injection z with _ _ z; cases z)
  have mnx : m ≠ x := by
    obtain ⟨_, _, e, _⟩ := hm.ex
    exact ne_of e hx (by intro z; injection z with _ _ z; cases z)
  walk_at "rdx"
  refine ⟨x, c_Moon, dx, [], rfl, hx, er.cl_Moon, er.na_Moon_start, by decide, ?_⟩
  have k1 : But x H9 (upd H9 x (.ins c_Moon dx (putF (Str.ofString "start") (.int s) []))) := But.upd
  have x1 : upd H9 x (.ins c_Moon dx (putF (Str.ofString "start") (.int s) [])) x = some (.ins c_Moon dx [(Str.ofString "start", .int s)]) := upd_same
  generalize upd H9 x (.ins c_Moon dx (putF (Str.ofString "start") (.int s) [])) = H1 at k1 x1 ⊢
  walk_at "rdx"
  refine ⟨x, c_Moon, dx, _, rfl, x1, er.cl_Moon, er.na_Moon_days, (by show 1 < 1000; decide), ?_⟩
  have k2 : But x H1 (upd H1 x (.ins c_Moon dx (putF (Str.ofString "days") (.ref d) [(Str.ofString "start", .int s)]))) := But.upd
  have x2 : upd H1 x (.ins c_Moon dx (putF (Str.ofString "days") (.ref d) [(Str.ofString "start", .int s)])) x = some (.ins c_Moon dx [(Str.ofString "start", .int s), (Str.ofString "days", .ref d)]) := upd_same
  generalize upd H1 x (.ins c_Moon dx (putF (Str.ofString "days") (.ref d) [(Str.ofString "start", .int s)])) = H2 at k2 x2 ⊢
  walk_at "rdx"
  refine ⟨x, c_Moon, dx, _, rfl, x2, er.cl_Moon, er.na_Moon_many, (by show 2 < 1000; decide), ?_⟩
  have k3 : But x H2 (upd H2 x (.ins c_Moon dx (putF (Str.ofString "many") (.ref m) [(Str.ofString "start", .int s), (Str.ofString "days", .ref d)]))) := But.upd
  have x3 : upd H2 x (.ins c_Moon dx (putF (Str.ofString "many") (.ref m) [(Str.ofString "start", .int s), (Str.ofString "days", .ref d)])) x = some (.ins c_Moon dx (moF s d m)) := upd_same
  generalize upd H2 x (.ins c_Moon dx (putF (Str.ofString "many") (.ref m) [(Str.ofString "start", .int s), (Str.ofString "days", .ref d)])) = H3 at k3 x3 ⊢
  have k03 : But x H9 H3 := fun y o hy h => k3 y o hy (k2 y o hy (k1 y o hy h))
  walk_at "rdx"
  refine q _ (fun y o hy h => k03 y o hy (s09 _ _ h)) ⟨⟨dx, d, m, x3, hd.butX hx .ins dnx k03, hm.butX hx .ins mnx k03⟩, g, bs⟩
theorem sc_Moon_year_start : FnScope ["self", "year"] ["self", "year"] (defScope s_Moon_year_start) := ⟨rfl, rfl, rfl, by decide +kernel, rfl, by decide +kernel, by decide +kernel⟩
theorem ok_Moon_year_start {f : Addr} {fd : FuncData} (F : Fun K "year_start" "Moon.year_start" s_Moon_year_start f fd) (er : Errs K mg c_FeastError c_NoNumber c_NoMeasure c_NoDate c_InGap c_NoChange c_Measure c_Calendar c_Sun c_Moon c_Change) (c_Measure_upto : CalM P w K mg base CX0 2 c_Measure "upto" ["self", "k"] (spUpto K c_Measure)) : FnOk P w K mg base CX0 3 f fd ["self", "year"] (spMYS K c_Moon c_Measure) := by
  refine F.ok (k := 2) sc_Moon_year_start (fun vs H Q E h => ?_) (fun cdv A outer s H vs Q E hr h => ?_)
  · obtain ⟨x, n, s, bd, bm, td, tm, rfl, _⟩ := h
    rfl
  obtain ⟨x, n, s, bd, bm, td, tm, rfl, S, bn, q⟩ := h
  obtain ⟨dx, d, m, hx, D, M⟩ := S.ex
  obtain ⟨d1, f1, e1, l1⟩ := D.meth
  obtain ⟨d2, f2, e2, l2⟩ := M.meth
  obtain ⟨d4, p4, e4, T4⟩ := M.ex
  have g := S.gd
  refine ⟨_, (pss_one (ps_ret (pe_op op_add (pe_fld (pv 0) (by rfl)) (pe_mcal c_Measure_upto er.cl_Measure (hr.mono (by decide)) (pe_fld (pv 0) (by rfl)) (pa_cons (pe_mcal c_Measure_upto er.cl_Measure (hr.mono (by decide)) (pe_fld (pv 0) (by rfl)) (pa_cons (pv 1) pa_nil)) pa_nil))))), ?_⟩
  walk_at "rdx"
  refine ⟨x, c_Moon, dx, _, _, rfl, hx, er.cl_Moon, er.na_Moon_start, rfl, ?_⟩
  walk_at "rdx"
  refine ⟨x, c_Moon, dx, _, _, rfl, hx, er.cl_Moon, er.na_Moon_days, rfl, ?_⟩
  walk_at "rdx"
  refine ⟨d, d1, f1, rfl, e1, l1.2.2.1, ?_⟩
  walk_at "rdx"
  refine ⟨x, c_Moon, dx, _, _, rfl, hx, er.cl_Moon, er.na_Moon_many, rfl, ?_⟩
  walk_at "rdx"
  refine ⟨m, d2, f2, rfl, e2, l2.2.2.1, ?_⟩
  walk_at "rdx"
  refine ⟨m, p4, d4, n, _, tm, _, rfl, e4, rfl, rfl, T4, M.gd.b0, M.gd.b1, bn.mono (by decide), fun H1 s1 => ?_⟩
  obtain ⟨d3, p3, e3, T3⟩ := (D.same s1).ex
  walk_at "rdx"
  refine ⟨d, p3, d3, _, _, td, _, rfl, e3, rfl, rfl, T3, D.gd.b0, D.gd.b1, (bt_up g.okm M.gd.b0 M.gd.b1 g.fwm bn).mono (by decide), fun H2 s2 => ?_⟩
  walk_at "rdx"
  exact q _ (s1.trans s2)
theorem sc_Moon_year_at : FnScope ["self", "day"] ["self", "day"] (defScope s_Moon_year_at) := ⟨rfl, rfl, rfl, by decide +kernel, rfl, by decide +kernel, by decide +kernel⟩
theorem ok_Moon_year_at {f : Addr} {fd : FuncData} (F : Fun K "year_at" "Moon.year_at" s_Moon_year_at f fd) (er : Errs K mg c_FeastError c_NoNumber c_NoMeasure c_NoDate c_InGap c_NoChange c_Measure c_Calendar c_Sun c_Moon c_Change) (c_Measure_seek : CalM P w K mg base CX0 3 c_Measure "seek" ["self", "total"] (spSeek K c_Measure)) : FnOk P w K mg base CX0 4 f fd ["self", "day"] (spMYA K c_Moon c_Measure) := by
  refine F.ok (k := 3) sc_Moon_year_at (fun vs H Q E h => ?_) (fun cdv A outer s H vs Q E hr h => ?_)
  · obtain ⟨x, n, s, bd, bm, td, tm, rfl, _⟩ := h
    rfl
  obtain ⟨x, n, s, bd, bm, td, tm, rfl, S, bn, q⟩ := h
  obtain ⟨dx, d, m, hx, D, M⟩ := S.ex
  obtain ⟨d1, f1, e1, l1⟩ := D.meth
  obtain ⟨d2, f2, e2, l2⟩ := M.meth
  have g := S.gd
  have b1 : Bt 291 (n - s) := bn.sub S.bs
  refine ⟨_, (pss_one (ps_ret (pe_mcal c_Measure_seek er.cl_Measure (hr.mono (by decide)) (pe_fld (pv 0) (by rfl)) (pa_cons (pe_mcal c_Measure_seek er.cl_Measure (hr.mono (by decide)) (pe_fld (pv 0) (by rfl)) (pa_cons (pe_op op_sub (pv 1) (pe_fld (pv 0) (by rfl))) pa_nil)) pa_nil)))), ?_⟩
  walk_at "rdx"
  refine ⟨x, c_Moon, dx, _, _, rfl, hx, er.cl_Moon, er.na_Moon_many, rfl, ?_⟩
  walk_at "rdx"
  refine ⟨m, d2, f2, rfl, e2, l2.1, ?_⟩
  walk_at "rdx"
  refine ⟨x, c_Moon, dx, _, _, rfl, hx, er.cl_Moon, er.na_Moon_days, rfl, ?_⟩
  walk_at "rdx"
  refine ⟨d, d1, f1, rfl, e1, l1.1, ?_⟩
  walk_at "rdx"
  refine ⟨x, c_Moon, dx, _, _, rfl, hx, er.cl_Moon, er.na_Moon_start, rfl, ?_⟩
  walk_at "rdx"
  refine ⟨d, n - s, _, td, rfl, D, b1.mono (by decide), fun j H1 s1 u1 u2 _ => ?_⟩
  have bj : Bt 291 j := b1.le (seek_small g.okd g.fd u1 u2)
  walk_at "rdx"
  refine ⟨m, j, _, tm, rfl, M.same s1, bj.mono (by decide), fun k H2 s2 v1 v2 _ => ?_⟩
  have bk : Bt 291 k := bj.le (seek_small g.okm g.fm v1 v2)
  have m1 := UP_mono g.okd (Int.le_of_lt g.fd) v1
  have m2 := UP_mono g.okd (Int.le_of_lt g.fd) (show j + 1 ≤ UP bm tm (k + 1) by omega)
  refine q _ _ (s1.trans s2) ?_ ?_ (bk.mono (by decide))
  · unfold MYS
    omega
  · unfold MYS
    omega
theorem sc_Moon_lengths : FnScope ["self", "year", "first"] ["self", "year"] (defScope s_Moon_lengths) := ⟨rfl, rfl, rfl, by decide +kernel, rfl, by decide +kernel, by decide +kernel⟩
theorem ok_Moon_lengths {f : Addr} {fd : FuncData} (F : Fun K "lengths" "Moon.lengths" s_Moon_lengths f fd) (er : Errs K mg c_FeastError c_NoNumber c_NoMeasure c_NoDate c_InGap c_NoChange c_Measure c_Calendar c_Sun c_Moon c_Change) (c_Measure_upto : CalM P w K mg base CX0 2 c_Measure "upto" ["self", "k"] (spUpto K c_Measure)) (c_Measure_at : CalM P w K mg base CX0 2 c_Measure "at" ["self", "k"] (spAt K c_Measure)) (z_range : mg "range" = none) : FnOk P w K mg base CX0 3 f fd ["self", "year"] (spMLens K c_Moon c_Measure) := by
  refine F.ok (k := 2) sc_Moon_lengths (fun vs H Q E h => ?_) (fun cdv A outer s H vs Q E hr h => ?_)
  · obtain ⟨x, n, s, bd, bm, td, tm, rfl, _⟩ := h
    rfl
  obtain ⟨x, n, s, bd, bm, td, tm, rfl, S, bn, q⟩ := h
  obtain ⟨dx, d, m, hx, D, M⟩ := S.ex
  obtain ⟨d2, f2, e2, l2⟩ := M.meth
  obtain ⟨d4, p4, e4, T4⟩ := M.ex
  have g := S.gd
  have a0 := AT_pos g.okm g.fm n
  have a1 := AT_le g.okm g.fwm (b := bm) n
  have gm := g.gm
  refine ⟨_, (pss_cons (ps_set (i := 2) sc_Moon_lengths.nd rfl (by first | exact Or.inl rfl | exact Or.inr rfl) (pe_mcal c_Measure_upto er.cl_Measure (hr.mono (by decide)) (pe_fld (pv 0) (by rfl)) (pa_cons (pv 1) pa_nil)))
      (pss_one (ps_ret (pe_comp rfl (compOk_freeM ["self", "year", "first"] ["self", "year", "first"] rfl rfl (by with_unfolding_all rfl) (by decide +kernel) rfl (by decide +kernel) rfl (by decide +kernel) (by walk_at "fm") (by with_unfolding_all rfl) (by with_unfolding_all rfl)) (pi_range1 rfl z_range (pa_cons (pe_mcal c_Measure_at er.cl_Measure (hr.mono (by decide)) (pe_fld (pv 0) (by rfl)) (pa_cons (pv 1) pa_nil)) pa_nil)) (fun _ _ _ _ => pifs_nil) (fun _ _ _ _ => (pe_mcal (ta := tFld K (tVar 1) (Str.ofString "days")) c_Measure_at er.cl_Measure (hr.mono (by decide)) (pe_fld (pv 1) (by rfl)) (pa_cons (pe_op op_add (pv 3) (pv 0)) pa_nil))))))), ?_⟩
  walk_at "rdx"
  refine ⟨x, c_Moon, dx, _, _, rfl, hx, er.cl_Moon, er.na_Moon_many, rfl, ?_⟩
  walk_at "rdx"
  refine ⟨m, d2, f2, rfl, e2, l2.2.2.1, ?_⟩
  walk_at "rdx"
  refine ⟨m, p4, d4, n, _, tm, _, rfl, e4, rfl, rfl, T4, M.gd.b0, M.gd.b1, bn.mono (by decide), fun H1 s1 => ?_⟩
  have hx1 := s1 _ _ hx
  have M1 := M.same s1
  have D1 := D.same s1
  have bu : Bt 386 (UP bm tm n) := bt_up g.okm M.gd.b0 M.gd.b1 g.fwm bn
  obtain ⟨d3, f3, e3, l3⟩ := M1.meth
  walk_at "rdx"
  refine rd_comp (rd_rng1 ?_)
  walk_at "rdx"
  refine ⟨x, c_Moon, dx, _, _, rfl, hx1, er.cl_Moon, er.na_Moon_many, rfl, ?_⟩
  walk_at "rdx"
  refine ⟨m, d3, f3, rfl, e3, l3.2.1, ?_⟩
  walk_at "rdx"
  refine ⟨m, n, _, tm, rfl, M1, bn.mono (by decide), fun H2 s2 => ?_⟩
  have hx2 := s2 _ _ hx1
  have D2 := D1.same s2
  refine ⟨_, rfl, by omega, by omega, ?_⟩
  refine comp_inv walk_r (by rw [List.length_map, List.length_range]; exact small1000 (by omega)) (fun E i ys H3 => H3 E = some (.lst ys) ∧ Same H2 H3 ∧ ys = ((List.range i).map fun j : Nat => AT bd td (UP bm tm n + (j : Int))).map V.int) (fun E hE => ⟨upd_same, same_new hE _, rfl⟩)
    (fun E i ys H3 _ ⟨h1, _, h3⟩ => ⟨h1, by rw [h3, List.length_map, List.length_map, List.length_range]; exact Nat.le_refl _, trivial⟩) (fun E i v ys H3 hE hv ⟨h1, h2, h3⟩ => ?_) (fun E ys H3 hE ⟨h1, h2, h3⟩ => ?_)
  · rw [List.getElem?_map] at hv
    obtain ⟨j, hj, rfl⟩ := Option.map_eq_some_iff.mp hv
    have jl : j < (AT bm tm n).toNat := List.mem_range.mp (List.mem_of_getElem? hj)
    obtain rfl : j = i := by
      have := List.getElem?_eq_some_iff.mp hj
      obtain ⟨_, e⟩ := this
      rw [List.getElem_range] at e
      exact e.symm
    have D3 := D2.same h2
    obtain ⟨d5, f5, e5, l5⟩ := D3.meth
    refine rd_true (iteT ?_)
    rw [Int.zero_add]
    walk_at "rdx"
    refine ⟨x, c_Moon, dx, _, _, rfl, h2 _ _ hx2, er.cl_Moon, er.na_Moon_days, rfl, ?_⟩
    walk_at "rdx"
    refine ⟨d, d5, f5, rfl, e5, l5.2.1, ?_⟩
    walk_at "rdx"
    refine ⟨d, _, _, td, rfl, D3, (bu.add ((show Bt 64 (j : Int) from bt_small (by omega) (by omega) (by decide)).mono (show 64 ≤ 386 by decide))).mono (show 387 ≤ 400 by decide), fun H4 s4 => ?_⟩
    refine ⟨s4 _ _ h1, upd_same, same_app hE (h2.trans s4), ?_⟩
    rw [h3, List.range_succ, List.map_append, List.map_append]
    rfl
  · rw [List.length_map, List.length_range] at h3
    subst h3
    exact q E H3 ((s1.trans s2).free hE) ((s1.trans s2).trans h2) h1
theorem sc_Sun_date_of : FnScope ["self", "day", "year", "rest", "month", "length"] ["self", "day"] (defScope s_Sun_date_of) := ⟨rfl, rfl, rfl, by decide +kernel, rfl, by decide +kernel, by decide +kernel⟩
theorem ok_Sun_date_of {f : Addr} {fd : FuncData} (F : Fun K "date_of" "Calendar.date_of" s_Sun_date_of f fd) (er : Errs K mg c_FeastError c_NoNumber c_NoMeasure c_NoDate c_InGap c_NoChange c_Measure c_Calendar c_Sun c_Moon c_Change) (c_Sun_year_at : CalM P w K mg base CX0 4 c_Sun "year_at" ["self", "day"] (spYA K c_Sun c_Measure)) (c_Sun_year_start : CalM P w K mg base CX0 3 c_Sun "year_start" ["self", "year"] (spYS K c_Sun c_Measure)) (c_Sun_lengths : CalM P w K mg base CX0 3 c_Sun "lengths" ["self", "year"] (spLens K c_Sun c_Measure)) : FnOk P w K mg base CX0 5 f fd ["self", "day"] (spDate K c_Sun c_Moon c_Measure true) := by
  refine F.ok (k := 4) sc_Sun_date_of (fun vs H Q E h => ?_) (fun cdv A outer s H vs Q E hr h => ?_)
  · obtain ⟨x, n, d, rfl, _⟩ := h
    rfl
  obtain ⟨x, n, d, rfl, hb, S, bn, q⟩ := h
  obtain ⟨s, ls, lp, ts, rfl⟩ : ∃ s ls lp ts, d = .sun s ls lp ts := by
    cases d with
    | sun s ls lp ts => first | exact ⟨s, ls, lp, ts, rfl⟩ | cases hb
    | moon s bd td bm tm => first | exact (Bool.noConfusion hb) | cases hb
  have g := CalO.good S
  refine ⟨_, (pss_cons (ps_set (i := 2) sc_Sun_date_of.nd rfl (by first | exact Or.inl rfl | exact Or.inr rfl) (pe_mcal c_Sun_year_at er.cl_Sun (hr.mono (by decide)) (pv 0) (pa_cons (pv 1) pa_nil)))
      (pss_cons (ps_set (i := 3) sc_Sun_date_of.nd rfl (by first | exact Or.inl rfl | exact Or.inr rfl) (pe_op op_sub (pv 1) (pe_mcal c_Sun_year_start er.cl_Sun (hr.mono (by decide)) (pv 0) (pa_cons (pv 2) pa_nil))))
      (pss_cons (ps_set (i := 4) sc_Sun_date_of.nd rfl (by first | exact Or.inl rfl | exact Or.inr rfl) pe_int)
      (pss_cons (ps_for PassesOwn.never rfl (pi_list (pe_mcal c_Sun_lengths er.cl_Sun (hr.mono (by decide)) (pv 0) (pa_cons (pv 2) pa_nil))) (pg_name (i := 5) sc_Sun_date_of.nd rfl (by first | exact Or.inl rfl | exact Or.inr rfl))
        (pss_cons (ps_if (pt_cmpR op_lt (pv 3) (pv 5) (nomark _))
        (pss_one ps_break)
        pss_nil)
      (pss_cons (ps_set (i := 3) sc_Sun_date_of.nd rfl (by first | exact Or.inl rfl | exact Or.inr rfl) (pe_op op_sub (pv 3) (pv 5)))
      (pss_one (ps_set (i := 4) sc_Sun_date_of.nd rfl (by first | exact Or.inl rfl | exact Or.inr rfl) (pe_op op_add (pv 4) pe_int))))))
      (pss_one (ps_ret (pe_tup (pa_cons (pv 2) (pa_cons (pv 4) (pa_cons (pe_op op_add (pv 3) pe_int) pa_nil)))))))))), ?_⟩
  walk_at "rdx"
  obtain ⟨dx, fs, e, ml⟩ := SunO.meth S
  refine ⟨x, dx, fs, rfl, e, ml.2.1, ?_⟩
  walk_at "rdx"
  refine ⟨x, n, s, ls, lp, ts, rfl, S, bn, fun y H1 s1 y0 y1 by' => ?_⟩
  have S1 := CalO.same S s1
  walk_at "rdx"
  obtain ⟨dx1, fs1, e1, ml1⟩ := SunO.meth S1
  refine ⟨x, dx1, fs1, rfl, e1, ml1.1, ?_⟩
  walk_at "rdx"
  refine ⟨x, y, s, ls, lp, ts, rfl, S1, by'.mono (by decide), fun H2 s2 => ?_⟩
  have S2 := CalO.same S1 s2
  walk_at "rdx"
  walk_at "rdf"
  walk_at "rdx"
  obtain ⟨dx2, fs2, e2, ml2⟩ := SunO.meth S2
  refine ⟨x, dx2, fs2, rfl, e2, ml2.2.2.1, ?_⟩
  walk_at "rdx"
  refine ⟨x, y, s, ls, lp, ts, rfl, S2, by'.mono (by decide), fun l H3 hl s3 t3 => ?_⟩
  have st := CalD.step g y
  have nn := CalD.mem g y
  have ln := CalD.len g y
  generalize hD : CalD.sun s ls lp ts = d at *
  replace y0 : d.Y y ≤ n := by rw [← hD]; exact y0
  replace y1 : n < d.Y (y + 1) := by rw [← hD]; exact y1
  replace t3 : H3 l = some (.lst ((d.L y).map V.int)) := by rw [← hD]; exact t3
  have eY : s + UP ls.sum ts y = d.Y y := by rw [← hD]; rfl
  rw [eY]
  refine ⟨l, rfl, ⟨_, SqL.of t3⟩, for_list (xs := (d.L y).map V.int) (fun i σ' H' => H3 = H' ∧ i ≤ (d.L y).length ∧ PS (d.L y) i ≤ n - d.Y y ∧ ∃ c : Option V, σ' = [some (.ref x), some (.int n), some (.int y), some (.int (n - d.Y y - PS (d.L y) i)), some (.int ((i : Int) + 1)), c]) ⟨rfl, Nat.zero_le _, by rw [PS_zero]; omega, none, ?_⟩ ?_ ?_ ?_⟩
  · rw [PS_zero, Int.sub_zero]
    rfl
  · rintro i σ' H' _ ⟨rfl, _⟩
    exact SqL.of t3
  · rintro i v σ' H' hv ⟨rfl, hi, hp, c, rfl⟩
    rw [List.getElem?_map] at hv
    obtain ⟨z, hz, rfl⟩ := Option.map_eq_some_iff.mp hv
    have il : i < (d.L y).length := (List.getElem?_eq_some_iff.mp hz).1
    have ez : (d.L y).getD i 0 = z := by
      rw [List.getD_eq_getElem?_getD, hz]
      rfl
    have ps := PS_succ il
    rw [ez] at ps
    walk_at "rdx"
    refine ite2d (fun c1 => ?_) (fun c1 => ?_)
    · walk_at "rdx"
      refine rd_brk ?_
      walk_at "rdx"
      refine ⟨three, fun p hp' => ?_⟩
      refine q p y ((i : Int) + 1) _ _ ((s1.trans s2).trans (s3.trans (same_new hp' _))) upd_same ⟨by omega, by omega, by omega, ?_⟩ ?_ by'
      · rw [show ((i : Int) + 1 - 1).toNat = i by omega, ez]
        omega
      · unfold DayOf
        rw [show ((i : Int) + 1 - 1).toNat = i by omega]
        omega
    · walk_at "rdx"
      refine ⟨rfl, by omega, by omega, some (.int z), ?_⟩
      rw [ps, show n - d.Y y - (PS (d.L y) i + z) = n - d.Y y - PS (d.L y) i - z by omega, show ((i + 1 : Nat) : Int) + 1 = (i : Int) + 1 + 1 by omega]
      rfl
  · rintro σ' H' ⟨rfl, _, hp, c, rfl⟩
    rw [List.length_map, PS_len] at hp
    omega
theorem sc_Moon_date_of : FnScope ["self", "day", "year", "rest", "month", "length"] ["self", "day"] (defScope s_Moon_date_of) := ⟨rfl, rfl, rfl, by decide +kernel, rfl, by decide +kernel, by decide +kernel⟩
theorem ok_Moon_date_of {f : Addr} {fd : FuncData} (F : Fun K "date_of" "Calendar.date_of" s_Moon_date_of f fd) (er : Errs K mg c_FeastError c_NoNumber c_NoMeasure c_NoDate c_InGap c_NoChange c_Measure c_Calendar c_Sun c_Moon c_Change) (c_Moon_year_at : CalM P w K mg base CX0 4 c_Moon "year_at" ["self", "day"] (spMYA K c_Moon c_Measure)) (c_Moon_year_start : CalM P w K mg base CX0 3 c_Moon "year_start" ["self", "year"] (spMYS K c_Moon c_Measure)) (c_Moon_lengths : CalM P w K mg base CX0 3 c_Moon "lengths" ["self", "year"] (spMLens K c_Moon c_Measure)) : FnOk P w K mg base CX0 5 f fd ["self", "day"] (spDate K c_Sun c_Moon c_Measure false) := by
  refine F.ok (k := 4) sc_Moon_date_of (fun vs H Q E h => ?_) (fun cdv A outer s H vs Q E hr h => ?_)
  · obtain ⟨x, n, d, rfl, _⟩ := h
    rfl
  obtain ⟨x, n, d, rfl, hb, S, bn, q⟩ := h
  obtain ⟨s, bd, td, bm, tm, rfl⟩ : ∃ s bd td bm tm, d = .moon s bd td bm tm := by
    cases d with
    | sun s ls lp ts => first | exact (Bool.noConfusion hb) | cases hb
    | moon s bd td bm tm => first | exact ⟨s, bd, td, bm, tm, rfl⟩ | cases hb
  have g := CalO.good S
  refine ⟨_, (pss_cons (ps_set (i := 2) sc_Moon_date_of.nd rfl (by first | exact Or.inl rfl | exact Or.inr rfl) (pe_mcal c_Moon_year_at er.cl_Moon (hr.mono (by decide)) (pv 0) (pa_cons (pv 1) pa_nil)))
      (pss_cons (ps_set (i := 3) sc_Moon_date_of.nd rfl (by first | exact Or.inl rfl | exact Or.inr rfl) (pe_op op_sub (pv 1) (pe_mcal c_Moon_year_start er.cl_Moon (hr.mono (by decide)) (pv 0) (pa_cons (pv 2) pa_nil))))
      (pss_cons (ps_set (i := 4) sc_Moon_date_of.nd rfl (by first | exact Or.inl rfl | exact Or.inr rfl) pe_int)
      (pss_cons (ps_for PassesOwn.never rfl (pi_list (pe_mcal c_Moon_lengths er.cl_Moon (hr.mono (by decide)) (pv 0) (pa_cons (pv 2) pa_nil))) (pg_name (i := 5) sc_Moon_date_of.nd rfl (by first | exact Or.inl rfl | exact Or.inr rfl))
        (pss_cons (ps_if (pt_cmpR op_lt (pv 3) (pv 5) (nomark _))
        (pss_one ps_break)
        pss_nil)
      (pss_cons (ps_set (i := 3) sc_Moon_date_of.nd rfl (by first | exact Or.inl rfl | exact Or.inr rfl) (pe_op op_sub (pv 3) (pv 5)))
      (pss_one (ps_set (i := 4) sc_Moon_date_of.nd rfl (by first | exact Or.inl rfl | exact Or.inr rfl) (pe_op op_add (pv 4) pe_int))))))
      (pss_one (ps_ret (pe_tup (pa_cons (pv 2) (pa_cons (pv 4) (pa_cons (pe_op op_add (pv 3) pe_int) pa_nil)))))))))), ?_⟩
  walk_at "rdx"
  obtain ⟨dx, fs, e, ml⟩ := MoonO.meth S
  refine ⟨x, dx, fs, rfl, e, ml.2.1, ?_⟩
  walk_at "rdx"
  refine ⟨x, n, s, bd, bm, td, tm, rfl, S, bn, fun y H1 s1 y0 y1 by' => ?_⟩
  have S1 := CalO.same S s1
  walk_at "rdx"
  obtain ⟨dx1, fs1, e1, ml1⟩ := MoonO.meth S1
  refine ⟨x, dx1, fs1, rfl, e1, ml1.1, ?_⟩
  walk_at "rdx"
  refine ⟨x, y, s, bd, bm, td, tm, rfl, S1, by'.mono (by decide), fun H2 s2 => ?_⟩
  have S2 := CalO.same S1 s2
  walk_at "rdx"
  walk_at "rdf"
  walk_at "rdx"
  obtain ⟨dx2, fs2, e2, ml2⟩ := MoonO.meth S2
  refine ⟨x, dx2, fs2, rfl, e2, ml2.2.2.1, ?_⟩
  walk_at "rdx"
  refine ⟨x, y, s, bd, bm, td, tm, rfl, S2, by'.mono (by decide), fun l H3 hl s3 t3 => ?_⟩
  have st := CalD.step g y
  have nn := CalD.mem g y
  have ln := CalD.len g y
  generalize hD : CalD.moon s bd td bm tm = d at *
  replace y0 : d.Y y ≤ n := by rw [← hD]; exact y0
  replace y1 : n < d.Y (y + 1) := by rw [← hD]; exact y1
  replace t3 : H3 l = some (.lst ((d.L y).map V.int)) := by rw [← hD]; exact t3
  have eY : MYS s bd td bm tm y = d.Y y := by rw [← hD]; rfl
  rw [eY]
  refine ⟨l, rfl, ⟨_, SqL.of t3⟩, for_list (xs := (d.L y).map V.int) (fun i σ' H' => H3 = H' ∧ i ≤ (d.L y).length ∧ PS (d.L y) i ≤ n - d.Y y ∧ ∃ c : Option V, σ' = [some (.ref x), some (.int n), some (.int y), some (.int (n - d.Y y - PS (d.L y) i)), some (.int ((i : Int) + 1)), c]) ⟨rfl, Nat.zero_le _, by rw [PS_zero]; omega, none, ?_⟩ ?_ ?_ ?_⟩
  · rw [PS_zero, Int.sub_zero]
    rfl
  · rintro i σ' H' _ ⟨rfl, _⟩
    exact SqL.of t3
  · rintro i v σ' H' hv ⟨rfl, hi, hp, c, rfl⟩
    rw [List.getElem?_map] at hv
    obtain ⟨z, hz, rfl⟩ := Option.map_eq_some_iff.mp hv
    have il : i < (d.L y).length := (List.getElem?_eq_some_iff.mp hz).1
    have ez : (d.L y).getD i 0 = z := by
      rw [List.getD_eq_getElem?_getD, hz]
      rfl
    have ps := PS_succ il
    rw [ez] at ps
    walk_at "rdx"
    refine ite2d (fun c1 => ?_) (fun c1 => ?_)
    · walk_at "rdx"
      refine rd_brk ?_
      walk_at "rdx"
      refine ⟨three, fun p hp' => ?_⟩
      refine q p y ((i : Int) + 1) _ _ ((s1.trans s2).trans (s3.trans (same_new hp' _))) upd_same ⟨by omega, by omega, by omega, ?_⟩ ?_ by'
      · rw [show ((i : Int) + 1 - 1).toNat = i by omega, ez]
        omega
      · unfold DayOf
        rw [show ((i : Int) + 1 - 1).toNat = i by omega]
        omega
    · walk_at "rdx"
      refine ⟨rfl, by omega, by omega, some (.int z), ?_⟩
      rw [ps, show n - d.Y y - (PS (d.L y) i + z) = n - d.Y y - PS (d.L y) i - z by omega, show ((i + 1 : Nat) : Int) + 1 = (i : Int) + 1 + 1 by omega]
      rfl
  · rintro σ' H' ⟨rfl, _, hp, c, rfl⟩
    rw [List.length_map, PS_len] at hp
    omega
theorem sc_Sun_day_of : FnScope ["self", "date", "lengths"] ["self", "date"] (defScope s_Sun_day_of) := ⟨rfl, rfl, rfl, by decide +kernel, rfl, by decide +kernel, by decide +kernel⟩
theorem ok_Sun_day_of {f : Addr} {fd : FuncData} (F : Fun K "day_of" "Calendar.day_of" s_Sun_day_of f fd) (er : Errs K mg c_FeastError c_NoNumber c_NoMeasure c_NoDate c_InGap c_NoChange c_Measure c_Calendar c_Sun c_Moon c_Change) (c_Sun_lengths : CalM P w K mg base CX0 3 c_Sun "lengths" ["self", "year"] (spLens K c_Sun c_Measure)) (c_NoDate___init__ : CalX P w K mg base 1 "NoDate" c_NoDate c_FeastError ["self", "date"] (spInitD K c_NoDate "date")) (c_Sun_year_start : CalM P w K mg base CX0 3 c_Sun "year_start" ["self", "year"] (spYS K c_Sun c_Measure)) (z_len : mg "len" = none) (z_sum : mg "sum" = none) : FnOk P w K mg base (CX1 P w) 4 f fd ["self", "date"] (spDayE K c_Sun c_Moon c_Measure c_NoDate true) := by
  refine F.okE (k := 3) sc_Sun_day_of (fun vs H Q E h => ?_) (fun cdv A outer s H vs Q E hr h T => ?_)
  · obtain ⟨x, p, y, m, r, d, rfl, _⟩ := h
    rfl
  obtain ⟨x, p, y, m, r, d, rfl, hb, S, hp, by', bm', br', q, qe⟩ := h
  obtain ⟨s, ls, lp, ts, rfl⟩ : ∃ s ls lp ts, d = .sun s ls lp ts := by
    cases d with
    | sun s ls lp ts => first | exact ⟨s, ls, lp, ts, rfl⟩ | cases hb
    | moon s bd td bm tm => first | exact (Bool.noConfusion hb) | cases hb
  have g := CalO.good S
  have ln := CalD.len g y
  refine ⟨_, (pss_cons (ps_set (i := 2) sc_Sun_day_of.nd rfl (by first | exact Or.inl rfl | exact Or.inr rfl) (pe_mcal c_Sun_lengths er.cl_Sun (hr.mono (by decide)) (pv 0) (pa_cons (pe_ix ix_tup (pv 1) pe_int (fun _ _ => rfl)) pa_nil)))
      (pss_cons (ps_if (PW.pt (pw_or (pt_cmpR op_lt (pe_ix ix_tup (pv 1) pe_int (fun _ _ => rfl)) pe_int (nomark _)) (pw_or1 (pt_cmpR op_gt (pe_ix ix_tup (pv 1) pe_int (fun _ _ => rfl)) (pe_callB call_len_seq rfl z_len PySem.boot_len (pa_cons (pv 2) pa_nil)) (nomark _)))))
        (pss_one (ps_raiseC T rfl c_NoDate___init__ (hr.mono (by decide)) rfl (pa_cons (pv 1) pa_nil)))
        pss_nil)
      (pss_cons (ps_if (PW.pt (pw_or (pt_cmpR op_lt (pe_ix ix_tup (pv 1) pe_int (fun _ _ => rfl)) pe_int (nomark _)) (pw_or1 (pt_cmpR op_gt (pe_ix ix_tup (pv 1) pe_int (fun _ _ => rfl)) (pe_ix ix_list (pv 2) (pe_op op_sub (pe_ix ix_tup (pv 1) pe_int (fun _ _ => rfl)) pe_int) (fun _ _ => rfl)) (nomark _)))))
        (pss_one (ps_raiseC T rfl c_NoDate___init__ (hr.mono (by decide)) rfl (pa_cons (pv 1) pa_nil)))
        pss_nil)
      (pss_one (ps_ret (pe_op op_sub (pe_op op_add (pe_op op_add (pe_mcal c_Sun_year_start er.cl_Sun (hr.mono (by decide)) (pv 0) (pa_cons (pe_ix ix_tup (pv 1) pe_int (fun _ _ => rfl)) pa_nil)) (pe_callB (call_sum rfl) rfl z_sum PyProof.Rows.boot_sum (pa_cons (pe_slice sl_list (pv 2) po_none (po_some (pe_op op_sub (pe_ix ix_tup (pv 1) pe_int (fun _ _ => rfl)) pe_int))) pa_nil))) (pe_ix ix_tup (pv 1) pe_int (fun _ _ => rfl))) pe_int)))))), ?_⟩
  walk_at "rdx"
  obtain ⟨dx, fs, e, ml⟩ := SunO.meth S
  refine ⟨x, dx, fs, rfl, e, ml.2.2.1, ?_⟩
  walk_at "rdx"
  refine rd_ixT hp rfl ?_
  walk_at "rdx"
  refine ⟨x, y, s, ls, lp, ts, rfl, S, by'.mono (by decide), fun l H1 hl s1 t1 => ?_⟩
  have S1 := CalO.same S s1
  have hp1 := s1.tup hp
  replace t1 : H1 l = some (.lst (((CalD.sun s ls lp ts).L y).map V.int)) := t1
  have isd : IsD (CalD.sun s ls lp ts) y m r ↔ 1 ≤ m ∧ m ≤ (((CalD.sun s ls lp ts).L y).length : Int) ∧ 1 ≤ r ∧ r ≤ ((CalD.sun s ls lp ts).L y).getD (m - 1).toNat 0 := ⟨fun h => ⟨h.m0, h.m1, h.r0, h.r1⟩, fun h => ⟨h.1, h.2.1, h.2.2.1, h.2.2.2⟩⟩
  generalize hLY : (CalD.sun s ls lp ts).L y = LY at *
  have raise : ∀ {EE : XE} {ta : TA} {D : Ends} {σ : L2.St}, (∀ Q : List V → Hp → Prop, Q [.ref p] H1 → ta σ H1 Q) → ¬ IsD (CalD.sun s ls lp ts) y m r → (∀ d H', E (.ref c_NoDate) (some d) H' → EE (.ref c_NoDate) (some d) σ H') → tRaiseX c_NoDate (spInitD K c_NoDate "date") EE ta D σ H1 := fun hv hn hE => rd_raiseD hv hp1 (bt_log by' (by decide) (by decide)) (bt_log bm' (by decide) (by decide)) (bt_log br' (by decide) (by decide)) fun d H' s e => hE d H' (qe hn d H' (s1.trans s) e)
  walk_at "rdx"
  refine rd_ixT hp1 rfl ?_
  walk_at "rdx"
  by_cases c1 : m < 1
  · refine iteD c1 (iteT ?_)
    walk_at "rdx"
    exact raise (fun Q hQ => rd_cons (rd_var rfl (rd_nil hQ))) (fun z => by have := isd.mp z; omega) fun _ _ h => h
  refine iteN c1 ?_
  walk_at "rdx"
  refine rd_ixT hp1 rfl ?_
  walk_at "rdx"
  refine ⟨l, _, rfl, .inl (SqL.of t1), ?_⟩
  rw [List.length_map]
  walk_at "rdx"
  by_cases c2 : (LY.length : Int) < m
  · refine iteD c2 ?_
    walk_at "rdx"
    exact raise (fun Q hQ => rd_cons (rd_var rfl (rd_nil hQ))) (fun z => by have := isd.mp z; omega) fun _ _ h => h
  refine iteN c2 ?_
  walk_at "rdx"
  refine rd_ixT hp1 rfl ?_
  walk_at "rdx"
  by_cases c3 : r < 1
  · refine iteD c3 (iteT ?_)
    walk_at "rdx"
    exact raise (fun Q hQ => rd_cons (rd_var rfl (rd_nil hQ))) (fun z => by have := isd.mp z; omega) fun _ _ h => h
  refine iteN c3 ?_
  walk_at "rdx"
  refine rd_ixT hp1 rfl ?_
  walk_at "rdx"
  refine rd_ixT hp1 rfl ?_
  walk_at "rdx"
  have em : m - 1 = (((m - 1).toNat : Nat) : Int) := by omega
  have hat : atI (LY.map V.int) (m - 1) = some (V.int (LY.getD (m - 1).toNat 0)) := by
    conv => lhs; rw [em]
    refine atI_nat ?_
    rw [List.getElem?_map, List.getD_eq_getElem?_getD, List.getElem?_eq_getElem (by omega)]
    rfl
  refine rd_ixL (SqL.of t1) hat ?_
  walk_at "rdx"
  by_cases c4 : LY.getD (m - 1).toNat 0 < r
  · refine iteD c4 ?_
    walk_at "rdx"
    exact raise (fun Q hQ => rd_cons (rd_var rfl (rd_nil hQ))) (fun z => by have := isd.mp z; omega) fun _ _ h => h
  refine iteN c4 ?_
  have hd : IsD (CalD.sun s ls lp ts) y m r := isd.mpr ⟨by omega, by omega, by omega, by omega⟩
  walk_at "rdx"
  obtain ⟨dx1, fs1, e1, ml1⟩ := SunO.meth S1
  refine ⟨x, dx1, fs1, rfl, e1, ml1.1, ?_⟩
  walk_at "rdx"
  refine rd_ixT hp1 rfl ?_
  walk_at "rdx"
  refine ⟨x, y, s, ls, lp, ts, rfl, S1, by'.mono (by decide), fun H2 s2 => ?_⟩
  have hp2 := s2.tup hp1
  walk_at "rdx"
  refine rd_ixT hp2 rfl ?_
  walk_at "rdx"
  rw [em]
  refine rd_slL (SqL.of (s2 _ _ t1)) fun e he => ?_
  rw [cutV_upto LY (by omega)]
  have s3 := same_new he (.lst ((LY.take (m - 1).toNat).map V.int))
  have t3 : upd H2 e (.lst ((LY.take (m - 1).toNat).map V.int)) e = some (.lst ((LY.take (m - 1).toNat).map V.int)) := upd_same
  generalize upd H2 e (.lst ((LY.take (m - 1).toNat).map V.int)) = H3 at s3 t3 ⊢
  walk_at "rdx"
  refine ⟨e, _, rfl, SqL.of t3, ?_⟩
  walk_at "rdx"
  refine rd_ixT (s3.tup hp2) rfl ?_
  walk_at "rdx"
  have := q hd H3 ((s1.trans s2).trans s3)
  unfold DayOf at this
  rw [hLY] at this
  exact this
theorem sc_Moon_day_of : FnScope ["self", "date", "lengths"] ["self", "date"] (defScope s_Moon_day_of) := ⟨rfl, rfl, rfl, by decide +kernel, rfl, by decide +kernel, by decide +kernel⟩
theorem ok_Moon_day_of {f : Addr} {fd : FuncData} (F : Fun K "day_of" "Calendar.day_of" s_Moon_day_of f fd) (er : Errs K mg c_FeastError c_NoNumber c_NoMeasure c_NoDate c_InGap c_NoChange c_Measure c_Calendar c_Sun c_Moon c_Change) (c_Moon_lengths : CalM P w K mg base CX0 3 c_Moon "lengths" ["self", "year"] (spMLens K c_Moon c_Measure)) (c_NoDate___init__ : CalX P w K mg base 1 "NoDate" c_NoDate c_FeastError ["self", "date"] (spInitD K c_NoDate "date")) (c_Moon_year_start : CalM P w K mg base CX0 3 c_Moon "year_start" ["self", "year"] (spMYS K c_Moon c_Measure)) (z_len : mg "len" = none) (z_sum : mg "sum" = none) : FnOk P w K mg base (CX1 P w) 4 f fd ["self", "date"] (spDayE K c_Sun c_Moon c_Measure c_NoDate false) := by
  refine F.okE (k := 3) sc_Moon_day_of (fun vs H Q E h => ?_) (fun cdv A outer s H vs Q E hr h T => ?_)
  · obtain ⟨x, p, y, m, r, d, rfl, _⟩ := h
    rfl
  obtain ⟨x, p, y, m, r, d, rfl, hb, S, hp, by', bm', br', q, qe⟩ := h
  obtain ⟨s, bd, td, bm, tm, rfl⟩ : ∃ s bd td bm tm, d = .moon s bd td bm tm := by
    cases d with
    | sun s ls lp ts => first | exact (Bool.noConfusion hb) | cases hb
    | moon s bd td bm tm => first | exact ⟨s, bd, td, bm, tm, rfl⟩ | cases hb
  have g := CalO.good S
  have ln := CalD.len g y
  refine ⟨_, (pss_cons (ps_set (i := 2) sc_Moon_day_of.nd rfl (by first | exact Or.inl rfl | exact Or.inr rfl) (pe_mcal c_Moon_lengths er.cl_Moon (hr.mono (by decide)) (pv 0) (pa_cons (pe_ix ix_tup (pv 1) pe_int (fun _ _ => rfl)) pa_nil)))
      (pss_cons (ps_if (PW.pt (pw_or (pt_cmpR op_lt (pe_ix ix_tup (pv 1) pe_int (fun _ _ => rfl)) pe_int (nomark _)) (pw_or1 (pt_cmpR op_gt (pe_ix ix_tup (pv 1) pe_int (fun _ _ => rfl)) (pe_callB call_len_seq rfl z_len PySem.boot_len (pa_cons (pv 2) pa_nil)) (nomark _)))))
        (pss_one (ps_raiseC T rfl c_NoDate___init__ (hr.mono (by decide)) rfl (pa_cons (pv 1) pa_nil)))
        pss_nil)
      (pss_cons (ps_if (PW.pt (pw_or (pt_cmpR op_lt (pe_ix ix_tup (pv 1) pe_int (fun _ _ => rfl)) pe_int (nomark _)) (pw_or1 (pt_cmpR op_gt (pe_ix ix_tup (pv 1) pe_int (fun _ _ => rfl)) (pe_ix ix_list (pv 2) (pe_op op_sub (pe_ix ix_tup (pv 1) pe_int (fun _ _ => rfl)) pe_int) (fun _ _ => rfl)) (nomark _)))))
        (pss_one (ps_raiseC T rfl c_NoDate___init__ (hr.mono (by decide)) rfl (pa_cons (pv 1) pa_nil)))
        pss_nil)
      (pss_one (ps_ret (pe_op op_sub (pe_op op_add (pe_op op_add (pe_mcal c_Moon_year_start er.cl_Moon (hr.mono (by decide)) (pv 0) (pa_cons (pe_ix ix_tup (pv 1) pe_int (fun _ _ => rfl)) pa_nil)) (pe_callB (call_sum rfl) rfl z_sum PyProof.Rows.boot_sum (pa_cons (pe_slice sl_list (pv 2) po_none (po_some (pe_op op_sub (pe_ix ix_tup (pv 1) pe_int (fun _ _ => rfl)) pe_int))) pa_nil))) (pe_ix ix_tup (pv 1) pe_int (fun _ _ => rfl))) pe_int)))))), ?_⟩
  walk_at "rdx"
  obtain ⟨dx, fs, e, ml⟩ := MoonO.meth S
  refine ⟨x, dx, fs, rfl, e, ml.2.2.1, ?_⟩
  walk_at "rdx"
  refine rd_ixT hp rfl ?_
  walk_at "rdx"
  refine ⟨x, y, s, bd, bm, td, tm, rfl, S, by'.mono (by decide), fun l H1 hl s1 t1 => ?_⟩
  have S1 := CalO.same S s1
  have hp1 := s1.tup hp
  replace t1 : H1 l = some (.lst (((CalD.moon s bd td bm tm).L y).map V.int)) := t1
  have isd : IsD (CalD.moon s bd td bm tm) y m r ↔ 1 ≤ m ∧ m ≤ (((CalD.moon s bd td bm tm).L y).length : Int) ∧ 1 ≤ r ∧ r ≤ ((CalD.moon s bd td bm tm).L y).getD (m - 1).toNat 0 := ⟨fun h => ⟨h.m0, h.m1, h.r0, h.r1⟩, fun h => ⟨h.1, h.2.1, h.2.2.1, h.2.2.2⟩⟩
  generalize hLY : (CalD.moon s bd td bm tm).L y = LY at *
  have raise : ∀ {EE : XE} {ta : TA} {D : Ends} {σ : L2.St}, (∀ Q : List V → Hp → Prop, Q [.ref p] H1 → ta σ H1 Q) → ¬ IsD (CalD.moon s bd td bm tm) y m r → (∀ d H', E (.ref c_NoDate) (some d) H' → EE (.ref c_NoDate) (some d) σ H') → tRaiseX c_NoDate (spInitD K c_NoDate "date") EE ta D σ H1 := fun hv hn hE => rd_raiseD hv hp1 (bt_log by' (by decide) (by decide)) (bt_log bm' (by decide) (by decide)) (bt_log br' (by decide) (by decide)) fun d H' s e => hE d H' (qe hn d H' (s1.trans s) e)
  walk_at "rdx"
  refine rd_ixT hp1 rfl ?_
  walk_at "rdx"
  by_cases c1 : m < 1
  · refine iteD c1 (iteT ?_)
    walk_at "rdx"
    exact raise (fun Q hQ => rd_cons (rd_var rfl (rd_nil hQ))) (fun z => by have := isd.mp z; omega) fun _ _ h => h
  refine iteN c1 ?_
  walk_at "rdx"
  refine rd_ixT hp1 rfl ?_
  walk_at "rdx"
  refine ⟨l, _, rfl, .inl (SqL.of t1), ?_⟩
  rw [List.length_map]
  walk_at "rdx"
  by_cases c2 : (LY.length : Int) < m
  · refine iteD c2 ?_
    walk_at "rdx"
    exact raise (fun Q hQ => rd_cons (rd_var rfl (rd_nil hQ))) (fun z => by have := isd.mp z; omega) fun _ _ h => h
  refine iteN c2 ?_
  walk_at "rdx"
  refine rd_ixT hp1 rfl ?_
  walk_at "rdx"
  by_cases c3 : r < 1
  · refine iteD c3 (iteT ?_)
    walk_at "rdx"
    exact raise (fun Q hQ => rd_cons (rd_var rfl (rd_nil hQ))) (fun z => by have := isd.mp z; omega) fun _ _ h => h
  refine iteN c3 ?_
  walk_at "rdx"
  refine rd_ixT hp1 rfl ?_
  walk_at "rdx"
  refine rd_ixT hp1 rfl ?_
  walk_at "rdx"
  have em : m - 1 = (((m - 1).toNat : Nat) : Int) := by omega
  have hat : atI (LY.map V.int) (m - 1) = some (V.int (LY.getD (m - 1).toNat 0)) := by
    conv => lhs; rw [em]
    refine atI_nat ?_
    rw [List.getElem?_map, List.getD_eq_getElem?_getD, List.getElem?_eq_getElem (by omega)]
    rfl
  refine rd_ixL (SqL.of t1) hat ?_
  walk_at "rdx"
  by_cases c4 : LY.getD (m - 1).toNat 0 < r
  · refine iteD c4 ?_
    walk_at "rdx"
    exact raise (fun Q hQ => rd_cons (rd_var rfl (rd_nil hQ))) (fun z => by have := isd.mp z; omega) fun _ _ h => h
  refine iteN c4 ?_
  have hd : IsD (CalD.moon s bd td bm tm) y m r := isd.mpr ⟨by omega, by omega, by omega, by omega⟩
  walk_at "rdx"
  obtain ⟨dx1, fs1, e1, ml1⟩ := MoonO.meth S1
  refine ⟨x, dx1, fs1, rfl, e1, ml1.1, ?_⟩
  walk_at "rdx"
  refine rd_ixT hp1 rfl ?_
  walk_at "rdx"
  refine ⟨x, y, s, bd, bm, td, tm, rfl, S1, by'.mono (by decide), fun H2 s2 => ?_⟩
  have hp2 := s2.tup hp1
  walk_at "rdx"
  refine rd_ixT hp2 rfl ?_
  walk_at "rdx"
  rw [em]
  refine rd_slL (SqL.of (s2 _ _ t1)) fun e he => ?_
  rw [cutV_upto LY (by omega)]
  have s3 := same_new he (.lst ((LY.take (m - 1).toNat).map V.int))
  have t3 : upd H2 e (.lst ((LY.take (m - 1).toNat).map V.int)) e = some (.lst ((LY.take (m - 1).toNat).map V.int)) := upd_same
  generalize upd H2 e (.lst ((LY.take (m - 1).toNat).map V.int)) = H3 at s3 t3 ⊢
  walk_at "rdx"
  refine ⟨e, _, rfl, SqL.of t3, ?_⟩
  walk_at "rdx"
  refine rd_ixT (s3.tup hp2) rfl ?_
  walk_at "rdx"
  have := q hd H3 ((s1.trans s2).trans s3)
  unfold DayOf at this
  rw [hLY] at this
  exact this
theorem sc_Change_date_of_n0 : FnScope ["self", "day"] ["self", "day"] (defScope s_Change_date_of_n0) := ⟨rfl, rfl, rfl, by decide +kernel, rfl, by decide +kernel, by decide +kernel⟩
theorem ok_Change_date_of_n0 {f : Addr} {fd : FuncData} (F : Fun K "date_of" "Change.date_of" s_Change_date_of_n0 f fd) (er : Errs K mg c_FeastError c_NoNumber c_NoMeasure c_NoDate c_InGap c_NoChange c_Measure c_Calendar c_Sun c_Moon c_Change) (c_Sun_date_of : CalM P w K mg base CX0 5 c_Sun "date_of" ["self", "day"] (spDate K c_Sun c_Moon c_Measure true)) (c_Moon_date_of : CalM P w K mg base CX0 5 c_Moon "date_of" ["self", "day"] (spDate K c_Sun c_Moon c_Measure false)) : FnOk P w K mg base CX0 6 f fd ["self", "day"] (spDateC K c_Sun c_Moon c_Measure c_Change 0) := by
  refine F.ok (k := 5) sc_Change_date_of_n0 (fun vs H Q E h => ?_) (fun cdv A outer s H vs Q E hr h => ?_)
  · obtain ⟨x, n, k, a, b, rfl, _⟩ := h
    rfl
  obtain ⟨x, n, k, a, b, rfl, S, pa, pb, bn, q⟩ := h
  obtain ⟨dx, o, nw, lo, fn, p1, q1, r1, p2, q2, r2, hx, ha, hb, hlo, hfn, d1, d2, l12, bk⟩ := S
  refine ⟨_, (pss_cons (ps_if (pt_cmpR op_lt (pv 1) (pe_fld (pv 0) (by rfl)) (nomark _))
        (pss_one (ps_ret (pe_mcalL (k := 5) (CalL.cons er.cl_Sun c_Sun_date_of (by decide) (CalL.cons er.cl_Moon c_Moon_date_of (by decide) CalL.nil)) (hr.mono (by decide)) (pe_fld (pv 0) (by rfl)) (pa_cons (pv 1) pa_nil))))
        pss_nil)
      (pss_one (ps_ret (pe_mcalL (k := 5) (CalL.cons er.cl_Sun c_Sun_date_of (by decide) (CalL.cons er.cl_Moon c_Moon_date_of (by decide) CalL.nil)) (hr.mono (by decide)) (pe_fld (pv 0) (by rfl)) (pa_cons (pv 1) pa_nil))))), ?_⟩
  walk_at "rdx"
  refine ⟨x, c_Change, dx, _, _, rfl, hx, er.cl_Change, er.na_Change_day, rfl, ?_⟩
  walk_at "rdx"
  by_cases c1 : n < k
  · refine iteD c1 ?_
    walk_at "rdx"
    refine ⟨x, c_Change, dx, _, _, rfl, hx, er.cl_Change, er.na_Change_old, rfl, ?_⟩
    obtain ⟨C, dy, fs, sp, mem, e, lk, use⟩ := CalH.dt0 ha pa
    refine ⟨o, C, dy, fs, sp, mem, rfl, e, lk, ?_⟩
    walk_at "rdx"
    exact use ha bn fun p y m r H1 s1 t1 dd b1 b2 b3 => q p y m r H1 s1 t1 (.inl ⟨c1, dd⟩) b1 b2 b3
  · refine iteN c1 ?_
    walk_at "rdx"
    refine ⟨x, c_Change, dx, _, _, rfl, hx, er.cl_Change, er.na_Change_new, rfl, ?_⟩
    obtain ⟨C, dy, fs, sp, mem, e, lk, use⟩ := CalH.dt0 hb pb
    refine ⟨nw, C, dy, fs, sp, mem, rfl, e, lk, ?_⟩
    walk_at "rdx"
    exact use hb bn fun p y m r H1 s1 t1 dd b1 b2 b3 => q p y m r H1 s1 t1 (.inr ⟨by omega, dd⟩) b1 b2 b3
theorem sc_Change_date_of_n1 : FnScope ["self", "day"] ["self", "day"] (defScope s_Change_date_of_n1) := ⟨rfl, rfl, rfl, by decide +kernel, rfl, by decide +kernel, by decide +kernel⟩
theorem ok_Change_date_of_n1 {f : Addr} {fd : FuncData} (F : Fun K "date_of" "Change.date_of" s_Change_date_of_n1 f fd) (er : Errs K mg c_FeastError c_NoNumber c_NoMeasure c_NoDate c_InGap c_NoChange c_Measure c_Calendar c_Sun c_Moon c_Change) (c_Sun_date_of : CalM P w K mg base CX0 5 c_Sun "date_of" ["self", "day"] (spDate K c_Sun c_Moon c_Measure true)) (c_Moon_date_of : CalM P w K mg base CX0 5 c_Moon "date_of" ["self", "day"] (spDate K c_Sun c_Moon c_Measure false)) (c_Change_date_of_n0 : CalM P w K mg base CX0 6 c_Change "date_of" ["self", "day"] (spDateC K c_Sun c_Moon c_Measure c_Change 0)) : FnOk P w K mg base CX0 7 f fd ["self", "day"] (spDateC K c_Sun c_Moon c_Measure c_Change 1) := by
  refine F.ok (k := 6) sc_Change_date_of_n1 (fun vs H Q E h => ?_) (fun cdv A outer s H vs Q E hr h => ?_)
  · obtain ⟨x, n, k, a, b, rfl, _⟩ := h
    rfl
  obtain ⟨x, n, k, a, b, rfl, S, pa, pb, bn, q⟩ := h
  obtain ⟨dx, o, nw, lo, fn, p1, q1, r1, p2, q2, r2, hx, ha, hb, hlo, hfn, d1, d2, l12, bk⟩ := S
  refine ⟨_, (pss_cons (ps_if (pt_cmpR op_lt (pv 1) (pe_fld (pv 0) (by rfl)) (nomark _))
        (pss_one (ps_ret (pe_mcalL (k := 6) (CalL.cons er.cl_Sun c_Sun_date_of (by decide) (CalL.cons er.cl_Moon c_Moon_date_of (by decide) (CalL.cons er.cl_Change c_Change_date_of_n0 (by decide) CalL.nil))) (hr.mono (by decide)) (pe_fld (pv 0) (by rfl)) (pa_cons (pv 1) pa_nil))))
        pss_nil)
      (pss_one (ps_ret (pe_mcalL (k := 6) (CalL.cons er.cl_Sun c_Sun_date_of (by decide) (CalL.cons er.cl_Moon c_Moon_date_of (by decide) (CalL.cons er.cl_Change c_Change_date_of_n0 (by decide) CalL.nil))) (hr.mono (by decide)) (pe_fld (pv 0) (by rfl)) (pa_cons (pv 1) pa_nil))))), ?_⟩
  walk_at "rdx"
  refine ⟨x, c_Change, dx, _, _, rfl, hx, er.cl_Change, er.na_Change_day, rfl, ?_⟩
  walk_at "rdx"
  by_cases c1 : n < k
  · refine iteD c1 ?_
    walk_at "rdx"
    refine ⟨x, c_Change, dx, _, _, rfl, hx, er.cl_Change, er.na_Change_old, rfl, ?_⟩
    obtain ⟨C, dy, fs, sp, mem, e, lk, use⟩ := CalH.dtS 0 ha pa
    refine ⟨o, C, dy, fs, sp, mem, rfl, e, lk, ?_⟩
    walk_at "rdx"
    exact use ha bn fun p y m r H1 s1 t1 dd b1 b2 b3 => q p y m r H1 s1 t1 (.inl ⟨c1, dd⟩) b1 b2 b3
  · refine iteN c1 ?_
    walk_at "rdx"
    refine ⟨x, c_Change, dx, _, _, rfl, hx, er.cl_Change, er.na_Change_new, rfl, ?_⟩
    obtain ⟨C, dy, fs, sp, mem, e, lk, use⟩ := CalH.dtS 0 hb pb
    refine ⟨nw, C, dy, fs, sp, mem, rfl, e, lk, ?_⟩
    walk_at "rdx"
    exact use hb bn fun p y m r H1 s1 t1 dd b1 b2 b3 => q p y m r H1 s1 t1 (.inr ⟨by omega, dd⟩) b1 b2 b3
theorem sc_Change_date_of : FnScope ["self", "day"] ["self", "day"] (defScope s_Change_date_of) := ⟨rfl, rfl, rfl, by decide +kernel, rfl, by decide +kernel, by decide +kernel⟩
theorem ok_Change_date_of {f : Addr} {fd : FuncData} (F : Fun K "date_of" "Change.date_of" s_Change_date_of f fd) (er : Errs K mg c_FeastError c_NoNumber c_NoMeasure c_NoDate c_InGap c_NoChange c_Measure c_Calendar c_Sun c_Moon c_Change) (c_Sun_date_of : CalM P w K mg base CX0 5 c_Sun "date_of" ["self", "day"] (spDate K c_Sun c_Moon c_Measure true)) (c_Moon_date_of : CalM P w K mg base CX0 5 c_Moon "date_of" ["self", "day"] (spDate K c_Sun c_Moon c_Measure false)) (c_Change_date_of_n1 : CalM P w K mg base CX0 7 c_Change "date_of" ["self", "day"] (spDateC K c_Sun c_Moon c_Measure c_Change 1)) : FnOk P w K mg base CX0 8 f fd ["self", "day"] (spDateC K c_Sun c_Moon c_Measure c_Change 2) := by
  refine F.ok (k := 7) sc_Change_date_of (fun vs H Q E h => ?_) (fun cdv A outer s H vs Q E hr h => ?_)
  · obtain ⟨x, n, k, a, b, rfl, _⟩ := h
    rfl
  obtain ⟨x, n, k, a, b, rfl, S, pa, pb, bn, q⟩ := h
  obtain ⟨dx, o, nw, lo, fn, p1, q1, r1, p2, q2, r2, hx, ha, hb, hlo, hfn, d1, d2, l12, bk⟩ := S
  refine ⟨_, (pss_cons (ps_if (pt_cmpR op_lt (pv 1) (pe_fld (pv 0) (by rfl)) (nomark _))
        (pss_one (ps_ret (pe_mcalL (k := 7) (CalL.cons er.cl_Sun c_Sun_date_of (by decide) (CalL.cons er.cl_Moon c_Moon_date_of (by decide) (CalL.cons er.cl_Change c_Change_date_of_n1 (by decide) CalL.nil))) (hr.mono (by decide)) (pe_fld (pv 0) (by rfl)) (pa_cons (pv 1) pa_nil))))
        pss_nil)
      (pss_one (ps_ret (pe_mcalL (k := 7) (CalL.cons er.cl_Sun c_Sun_date_of (by decide) (CalL.cons er.cl_Moon c_Moon_date_of (by decide) (CalL.cons er.cl_Change c_Change_date_of_n1 (by decide) CalL.nil))) (hr.mono (by decide)) (pe_fld (pv 0) (by rfl)) (pa_cons (pv 1) pa_nil))))), ?_⟩
  walk_at "rdx"
  refine ⟨x, c_Change, dx, _, _, rfl, hx, er.cl_Change, er.na_Change_day, rfl, ?_⟩
  walk_at "rdx"
  by_cases c1 : n < k
  · refine iteD c1 ?_
    walk_at "rdx"
    refine ⟨x, c_Change, dx, _, _, rfl, hx, er.cl_Change, er.na_Change_old, rfl, ?_⟩
    obtain ⟨C, dy, fs, sp, mem, e, lk, use⟩ := CalH.dtS 1 ha pa
    refine ⟨o, C, dy, fs, sp, mem, rfl, e, lk, ?_⟩
    walk_at "rdx"
    exact use ha bn fun p y m r H1 s1 t1 dd b1 b2 b3 => q p y m r H1 s1 t1 (.inl ⟨c1, dd⟩) b1 b2 b3
  · refine iteN c1 ?_
    walk_at "rdx"
    refine ⟨x, c_Change, dx, _, _, rfl, hx, er.cl_Change, er.na_Change_new, rfl, ?_⟩
    obtain ⟨C, dy, fs, sp, mem, e, lk, use⟩ := CalH.dtS 1 hb pb
    refine ⟨nw, C, dy, fs, sp, mem, rfl, e, lk, ?_⟩
    walk_at "rdx"
    exact use hb bn fun p y m r H1 s1 t1 dd b1 b2 b3 => q p y m r H1 s1 t1 (.inr ⟨by omega, dd⟩) b1 b2 b3
theorem sc_Change_day_of_n0 : FnScope ["self", "date"] ["self", "date"] (defScope s_Change_day_of_n0) := ⟨rfl, rfl, rfl, by decide +kernel, rfl, by decide +kernel, by decide +kernel⟩
theorem ok_Change_day_of_n0 {f : Addr} {fd : FuncData} (F : Fun K "day_of" "Change.day_of" s_Change_day_of_n0 f fd) (er : Errs K mg c_FeastError c_NoNumber c_NoMeasure c_NoDate c_InGap c_NoChange c_Measure c_Calendar c_Sun c_Moon c_Change) (c_Sun_day_of : CalM P w K mg base (CX1 P w) 4 c_Sun "day_of" ["self", "date"] (spDayE K c_Sun c_Moon c_Measure c_NoDate true)) (c_Moon_day_of : CalM P w K mg base (CX1 P w) 4 c_Moon "day_of" ["self", "date"] (spDayE K c_Sun c_Moon c_Measure c_NoDate false)) (c_InGap___init__ : CalX P w K mg base 1 "InGap" c_InGap c_FeastError ["self", "date", "day"] (spInitG K c_InGap)) : FnOk P w K mg base (CX1 P w) 5 f fd ["self", "date"] (spDayC K c_Sun c_Moon c_Measure c_Change c_NoDate c_InGap 0) := by
  refine F.okE (k := 4) sc_Change_day_of_n0 (fun vs H Q E h => ?_) (fun cdv A outer s H vs Q E hr h T => ?_)
  · obtain ⟨x, p, y, m, r, k, a, b, rfl, _⟩ := h
    rfl
  obtain ⟨x, p, y, m, r, k, a, b, rfl, S, pa, pb, hp, b1, b2, b3, q⟩ := h
  obtain ⟨dx, o, nw, lo, fn, p1, q1, r1, p2, q2, r2, hx, ha, hb, hlo, hfn, d1, d2, l12, bk⟩ := S
  refine ⟨_, (pss_cons (ps_if (pt_cmpR (op_leX hr.units0) (pv 1) (pe_fld (pv 0) (by rfl)) (nomark _))
        (pss_one (ps_ret (pe_mcalLE (k := 4) T (CalL.cons er.cl_Sun c_Sun_day_of (by decide) (CalL.cons er.cl_Moon c_Moon_day_of (by decide) CalL.nil)) (hr.mono (by decide)) (pe_fld (pv 0) (by rfl)) (pa_cons (pv 1) pa_nil))))
        pss_nil)
      (pss_cons (ps_if (pt_cmpR (op_geX hr.units0) (pv 1) (pe_fld (pv 0) (by rfl)) (nomark _))
        (pss_one (ps_ret (pe_mcalLE (k := 4) T (CalL.cons er.cl_Sun c_Sun_day_of (by decide) (CalL.cons er.cl_Moon c_Moon_day_of (by decide) CalL.nil)) (hr.mono (by decide)) (pe_fld (pv 0) (by rfl)) (pa_cons (pv 1) pa_nil))))
        pss_nil)
      (pss_one (ps_raiseC T rfl c_InGap___init__ (hr.mono (by decide)) rfl (pa_cons (pv 1) (pa_cons (pe_fld (pv 0) (by rfl)) pa_nil)))))), ?_⟩
  walk_at "rdx"
  refine ⟨x, c_Change, dx, _, _, rfl, hx, er.cl_Change, er.na_Change_last_old, rfl, ?_⟩
  refine ⟨p, lo, [y, m, r], [p1, q1, r1], rfl, rfl, hp, SqT.of hlo, rfl, ?_⟩
  rw [lex_le]
  walk_at "rdx"
  by_cases c1 : DLe y m r p1 q1 r1
  · refine iteD c1 ?_
    walk_at "rdx"
    refine ⟨x, c_Change, dx, _, _, rfl, hx, er.cl_Change, er.na_Change_old, rfl, ?_⟩
    obtain ⟨C, dy, fs, sp, mem, e, lk, use⟩ := CalH.dy0 (cD := c_NoDate) (cG := c_InGap) ha pa
    refine ⟨o, C, dy, fs, sp, mem, rfl, e, lk, ?_⟩
    walk_at "rdx"
    have key : ∀ {oo : Fw.Out}, a.Out y m r oo → (CalT.chg a b k).Out y m r oo := fun h => ⟨p1, q1, r1, p2, q2, r2, d1, d2, l12, .inl ⟨c1, h⟩⟩
    exact use ha hp b1 b2 b3 ⟨fun n h => q.d n (key h), fun h => q.n (key h), fun j h => q.g j (key h)⟩
  refine iteN c1 ?_
  walk_at "rdx"
  refine ⟨x, c_Change, dx, _, _, rfl, hx, er.cl_Change, er.na_Change_first_new, rfl, ?_⟩
  refine ⟨p, fn, [y, m, r], [p2, q2, r2], rfl, rfl, hp, SqT.of hfn, rfl, ?_⟩
  rw [lex_ge]
  walk_at "rdx"
  by_cases c2 : DLe p2 q2 r2 y m r
  · refine iteD c2 ?_
    walk_at "rdx"
    refine ⟨x, c_Change, dx, _, _, rfl, hx, er.cl_Change, er.na_Change_new, rfl, ?_⟩
    obtain ⟨C, dy, fs, sp, mem, e, lk, use⟩ := CalH.dy0 (cD := c_NoDate) (cG := c_InGap) hb pb
    refine ⟨nw, C, dy, fs, sp, mem, rfl, e, lk, ?_⟩
    walk_at "rdx"
    have key : ∀ {oo : Fw.Out}, b.Out y m r oo → (CalT.chg a b k).Out y m r oo := fun h => ⟨p1, q1, r1, p2, q2, r2, d1, d2, l12, .inr (.inl ⟨c2, h⟩)⟩
    exact use hb hp b1 b2 b3 ⟨fun n h => q.d n (key h), fun h => q.n (key h), fun j h => q.g j (key h)⟩
  refine iteN c2 ?_
  walk_at "rdx"
  have raise : ∀ {EE : XE} {ta : TA} {D : Ends} {σ : L2.St}, (∀ Q : List V → Hp → Prop, Q [.ref p, .int k] H → ta σ H Q) → (∀ d H', E (.ref c_InGap) (some d) H' → EE (.ref c_InGap) (some d) σ H') → tRaiseX c_InGap (spInitG K c_InGap) EE ta D σ H := fun hv hE => rd_raiseG hv hp (bt_log b1 (by decide) (by decide)) (bt_log b2 (by decide) (by decide)) (bt_log b3 (by decide) (by decide)) (bt_log bk (by decide) (by decide)) fun d H' s e => hE d H' (q.g k ⟨p1, q1, r1, p2, q2, r2, d1, d2, l12, .inr (.inr ⟨DLe_not.mp c1, DLe_not.mp c2, rfl⟩)⟩ d H' s e)
  with_reducible refine raise ?_ ?_
  · exact fun Q hQ => rd_cons (rd_var rfl (rd_cons (rd_fld (rd_var rfl ⟨x, c_Change, dx, _, _, rfl, hx, er.cl_Change, er.na_Change_day, rfl, rd_nil hQ⟩))))
  · exact fun _ _ h => h
theorem sc_Change_day_of_n1 : FnScope ["self", "date"] ["self", "date"] (defScope s_Change_day_of_n1) := ⟨rfl, rfl, rfl, by decide +kernel, rfl, by decide +kernel, by decide +kernel⟩
theorem ok_Change_day_of_n1 {f : Addr} {fd : FuncData} (F : Fun K "day_of" "Change.day_of" s_Change_day_of_n1 f fd) (er : Errs K mg c_FeastError c_NoNumber c_NoMeasure c_NoDate c_InGap c_NoChange c_Measure c_Calendar c_Sun c_Moon c_Change) (c_Sun_day_of : CalM P w K mg base (CX1 P w) 4 c_Sun "day_of" ["self", "date"] (spDayE K c_Sun c_Moon c_Measure c_NoDate true)) (c_Moon_day_of : CalM P w K mg base (CX1 P w) 4 c_Moon "day_of" ["self", "date"] (spDayE K c_Sun c_Moon c_Measure c_NoDate false)) (c_Change_day_of_n0 : CalM P w K mg base (CX1 P w) 5 c_Change "day_of" ["self", "date"] (spDayC K c_Sun c_Moon c_Measure c_Change c_NoDate c_InGap 0)) (c_InGap___init__ : CalX P w K mg base 1 "InGap" c_InGap c_FeastError ["self", "date", "day"] (spInitG K c_InGap)) : FnOk P w K mg base (CX1 P w) 6 f fd ["self", "date"] (spDayC K c_Sun c_Moon c_Measure c_Change c_NoDate c_InGap 1) := by
  refine F.okE (k := 5) sc_Change_day_of_n1 (fun vs H Q E h => ?_) (fun cdv A outer s H vs Q E hr h T => ?_)
  · obtain ⟨x, p, y, m, r, k, a, b, rfl, _⟩ := h
    rfl
  obtain ⟨x, p, y, m, r, k, a, b, rfl, S, pa, pb, hp, b1, b2, b3, q⟩ := h
  obtain ⟨dx, o, nw, lo, fn, p1, q1, r1, p2, q2, r2, hx, ha, hb, hlo, hfn, d1, d2, l12, bk⟩ := S
  refine ⟨_, (pss_cons (ps_if (pt_cmpR (op_leX hr.units0) (pv 1) (pe_fld (pv 0) (by rfl)) (nomark _))
        (pss_one (ps_ret (pe_mcalLE (k := 5) T (CalL.cons er.cl_Sun c_Sun_day_of (by decide) (CalL.cons er.cl_Moon c_Moon_day_of (by decide) (CalL.cons er.cl_Change c_Change_day_of_n0 (by decide) CalL.nil))) (hr.mono (by decide)) (pe_fld (pv 0) (by rfl)) (pa_cons (pv 1) pa_nil))))
        pss_nil)
      (pss_cons (ps_if (pt_cmpR (op_geX hr.units0) (pv 1) (pe_fld (pv 0) (by rfl)) (nomark _))
        (pss_one (ps_ret (pe_mcalLE (k := 5) T (CalL.cons er.cl_Sun c_Sun_day_of (by decide) (CalL.cons er.cl_Moon c_Moon_day_of (by decide) (CalL.cons er.cl_Change c_Change_day_of_n0 (by decide) CalL.nil))) (hr.mono (by decide)) (pe_fld (pv 0) (by rfl)) (pa_cons (pv 1) pa_nil))))
        pss_nil)
      (pss_one (ps_raiseC T rfl c_InGap___init__ (hr.mono (by decide)) rfl (pa_cons (pv 1) (pa_cons (pe_fld (pv 0) (by rfl)) pa_nil)))))), ?_⟩
  walk_at "rdx"
  refine ⟨x, c_Change, dx, _, _, rfl, hx, er.cl_Change, er.na_Change_last_old, rfl, ?_⟩
  refine ⟨p, lo, [y, m, r], [p1, q1, r1], rfl, rfl, hp, SqT.of hlo, rfl, ?_⟩
  rw [lex_le]
  walk_at "rdx"
  by_cases c1 : DLe y m r p1 q1 r1
  · refine iteD c1 ?_
    walk_at "rdx"
    refine ⟨x, c_Change, dx, _, _, rfl, hx, er.cl_Change, er.na_Change_old, rfl, ?_⟩
    obtain ⟨C, dy, fs, sp, mem, e, lk, use⟩ := CalH.dyS (cD := c_NoDate) (cG := c_InGap) 0 ha pa
    refine ⟨o, C, dy, fs, sp, mem, rfl, e, lk, ?_⟩
    walk_at "rdx"
    have key : ∀ {oo : Fw.Out}, a.Out y m r oo → (CalT.chg a b k).Out y m r oo := fun h => ⟨p1, q1, r1, p2, q2, r2, d1, d2, l12, .inl ⟨c1, h⟩⟩
    exact use ha hp b1 b2 b3 ⟨fun n h => q.d n (key h), fun h => q.n (key h), fun j h => q.g j (key h)⟩
  refine iteN c1 ?_
  walk_at "rdx"
  refine ⟨x, c_Change, dx, _, _, rfl, hx, er.cl_Change, er.na_Change_first_new, rfl, ?_⟩
  refine ⟨p, fn, [y, m, r], [p2, q2, r2], rfl, rfl, hp, SqT.of hfn, rfl, ?_⟩
  rw [lex_ge]
  walk_at "rdx"
  by_cases c2 : DLe p2 q2 r2 y m r
  · refine iteD c2 ?_
    walk_at "rdx"
    refine ⟨x, c_Change, dx, _, _, rfl, hx, er.cl_Change, er.na_Change_new, rfl, ?_⟩
    obtain ⟨C, dy, fs, sp, mem, e, lk, use⟩ := CalH.dyS (cD := c_NoDate) (cG := c_InGap) 0 hb pb
    refine ⟨nw, C, dy, fs, sp, mem, rfl, e, lk, ?_⟩
    walk_at "rdx"
    have key : ∀ {oo : Fw.Out}, b.Out y m r oo → (CalT.chg a b k).Out y m r oo := fun h => ⟨p1, q1, r1, p2, q2, r2, d1, d2, l12, .inr (.inl ⟨c2, h⟩)⟩
    exact use hb hp b1 b2 b3 ⟨fun n h => q.d n (key h), fun h => q.n (key h), fun j h => q.g j (key h)⟩
  refine iteN c2 ?_
  walk_at "rdx"
  have raise : ∀ {EE : XE} {ta : TA} {D : Ends} {σ : L2.St}, (∀ Q : List V → Hp → Prop, Q [.ref p, .int k] H → ta σ H Q) → (∀ d H', E (.ref c_InGap) (some d) H' → EE (.ref c_InGap) (some d) σ H') → tRaiseX c_InGap (spInitG K c_InGap) EE ta D σ H := fun hv hE => rd_raiseG hv hp (bt_log b1 (by decide) (by decide)) (bt_log b2 (by decide) (by decide)) (bt_log b3 (by decide) (by decide)) (bt_log bk (by decide) (by decide)) fun d H' s e => hE d H' (q.g k ⟨p1, q1, r1, p2, q2, r2, d1, d2, l12, .inr (.inr ⟨DLe_not.mp c1, DLe_not.mp c2, rfl⟩)⟩ d H' s e)
  with_reducible refine raise ?_ ?_
  · exact fun Q hQ => rd_cons (rd_var rfl (rd_cons (rd_fld (rd_var rfl ⟨x, c_Change, dx, _, _, rfl, hx, er.cl_Change, er.na_Change_day, rfl, rd_nil hQ⟩))))
  · exact fun _ _ h => h
theorem sc_Change_day_of : FnScope ["self", "date"] ["self", "date"] (defScope s_Change_day_of) := ⟨rfl, rfl, rfl, by decide +kernel, rfl, by decide +kernel, by decide +kernel⟩
theorem ok_Change_day_of {f : Addr} {fd : FuncData} (F : Fun K "day_of" "Change.day_of" s_Change_day_of f fd) (er : Errs K mg c_FeastError c_NoNumber c_NoMeasure c_NoDate c_InGap c_NoChange c_Measure c_Calendar c_Sun c_Moon c_Change) (c_Sun_day_of : CalM P w K mg base (CX1 P w) 4 c_Sun "day_of" ["self", "date"] (spDayE K c_Sun c_Moon c_Measure c_NoDate true)) (c_Moon_day_of : CalM P w K mg base (CX1 P w) 4 c_Moon "day_of" ["self", "date"] (spDayE K c_Sun c_Moon c_Measure c_NoDate false)) (c_Change_day_of_n1 : CalM P w K mg base (CX1 P w) 6 c_Change "day_of" ["self", "date"] (spDayC K c_Sun c_Moon c_Measure c_Change c_NoDate c_InGap 1)) (c_InGap___init__ : CalX P w K mg base 1 "InGap" c_InGap c_FeastError ["self", "date", "day"] (spInitG K c_InGap)) : FnOk P w K mg base (CX1 P w) 7 f fd ["self", "date"] (spDayC K c_Sun c_Moon c_Measure c_Change c_NoDate c_InGap 2) := by
  refine F.okE (k := 6) sc_Change_day_of (fun vs H Q E h => ?_) (fun cdv A outer s H vs Q E hr h T => ?_)
  · obtain ⟨x, p, y, m, r, k, a, b, rfl, _⟩ := h
    rfl
  obtain ⟨x, p, y, m, r, k, a, b, rfl, S, pa, pb, hp, b1, b2, b3, q⟩ := h
  obtain ⟨dx, o, nw, lo, fn, p1, q1, r1, p2, q2, r2, hx, ha, hb, hlo, hfn, d1, d2, l12, bk⟩ := S
  refine ⟨_, (pss_cons (ps_if (pt_cmpR (op_leX hr.units0) (pv 1) (pe_fld (pv 0) (by rfl)) (nomark _))
        (pss_one (ps_ret (pe_mcalLE (k := 6) T (CalL.cons er.cl_Sun c_Sun_day_of (by decide) (CalL.cons er.cl_Moon c_Moon_day_of (by decide) (CalL.cons er.cl_Change c_Change_day_of_n1 (by decide) CalL.nil))) (hr.mono (by decide)) (pe_fld (pv 0) (by rfl)) (pa_cons (pv 1) pa_nil))))
        pss_nil)
      (pss_cons (ps_if (pt_cmpR (op_geX hr.units0) (pv 1) (pe_fld (pv 0) (by rfl)) (nomark _))
        (pss_one (ps_ret (pe_mcalLE (k := 6) T (CalL.cons er.cl_Sun c_Sun_day_of (by decide) (CalL.cons er.cl_Moon c_Moon_day_of (by decide) (CalL.cons er.cl_Change c_Change_day_of_n1 (by decide) CalL.nil))) (hr.mono (by decide)) (pe_fld (pv 0) (by rfl)) (pa_cons (pv 1) pa_nil))))
        pss_nil)
      (pss_one (ps_raiseC T rfl c_InGap___init__ (hr.mono (by decide)) rfl (pa_cons (pv 1) (pa_cons (pe_fld (pv 0) (by rfl)) pa_nil)))))), ?_⟩
  walk_at "rdx"
  refine ⟨x, c_Change, dx, _, _, rfl, hx, er.cl_Change, er.na_Change_last_old, rfl, ?_⟩
  refine ⟨p, lo, [y, m, r], [p1, q1, r1], rfl, rfl, hp, SqT.of hlo, rfl, ?_⟩
  rw [lex_le]
  walk_at "rdx"
  by_cases c1 : DLe y m r p1 q1 r1
  · refine iteD c1 ?_
    walk_at "rdx"
    refine ⟨x, c_Change, dx, _, _, rfl, hx, er.cl_Change, er.na_Change_old, rfl, ?_⟩
    obtain ⟨C, dy, fs, sp, mem, e, lk, use⟩ := CalH.dyS (cD := c_NoDate) (cG := c_InGap) 1 ha pa
    refine ⟨o, C, dy, fs, sp, mem, rfl, e, lk, ?_⟩
    walk_at "rdx"
    have key : ∀ {oo : Fw.Out}, a.Out y m r oo → (CalT.chg a b k).Out y m r oo := fun h => ⟨p1, q1, r1, p2, q2, r2, d1, d2, l12, .inl ⟨c1, h⟩⟩
    exact use ha hp b1 b2 b3 ⟨fun n h => q.d n (key h), fun h => q.n (key h), fun j h => q.g j (key h)⟩
  refine iteN c1 ?_
  walk_at "rdx"
  refine ⟨x, c_Change, dx, _, _, rfl, hx, er.cl_Change, er.na_Change_first_new, rfl, ?_⟩
  refine ⟨p, fn, [y, m, r], [p2, q2, r2], rfl, rfl, hp, SqT.of hfn, rfl, ?_⟩
  rw [lex_ge]
  walk_at "rdx"
  by_cases c2 : DLe p2 q2 r2 y m r
  · refine iteD c2 ?_
    walk_at "rdx"
    refine ⟨x, c_Change, dx, _, _, rfl, hx, er.cl_Change, er.na_Change_new, rfl, ?_⟩
    obtain ⟨C, dy, fs, sp, mem, e, lk, use⟩ := CalH.dyS (cD := c_NoDate) (cG := c_InGap) 1 hb pb
    refine ⟨nw, C, dy, fs, sp, mem, rfl, e, lk, ?_⟩
    walk_at "rdx"
    have key : ∀ {oo : Fw.Out}, b.Out y m r oo → (CalT.chg a b k).Out y m r oo := fun h => ⟨p1, q1, r1, p2, q2, r2, d1, d2, l12, .inr (.inl ⟨c2, h⟩)⟩
    exact use hb hp b1 b2 b3 ⟨fun n h => q.d n (key h), fun h => q.n (key h), fun j h => q.g j (key h)⟩
  refine iteN c2 ?_
  walk_at "rdx"
  have raise : ∀ {EE : XE} {ta : TA} {D : Ends} {σ : L2.St}, (∀ Q : List V → Hp → Prop, Q [.ref p, .int k] H → ta σ H Q) → (∀ d H', E (.ref c_InGap) (some d) H' → EE (.ref c_InGap) (some d) σ H') → tRaiseX c_InGap (spInitG K c_InGap) EE ta D σ H := fun hv hE => rd_raiseG hv hp (bt_log b1 (by decide) (by decide)) (bt_log b2 (by decide) (by decide)) (bt_log b3 (by decide) (by decide)) (bt_log bk (by decide) (by decide)) fun d H' s e => hE d H' (q.g k ⟨p1, q1, r1, p2, q2, r2, d1, d2, l12, .inr (.inr ⟨DLe_not.mp c1, DLe_not.mp c2, rfl⟩)⟩ d H' s e)
  with_reducible refine raise ?_ ?_
  · exact fun Q hQ => rd_cons (rd_var rfl (rd_cons (rd_fld (rd_var rfl ⟨x, c_Change, dx, _, _, rfl, hx, er.cl_Change, er.na_Change_day, rfl, rd_nil hQ⟩))))
  · exact fun _ _ h => h
theorem sc_Change___init__ : FnScope ["self", "old", "new", "day"] ["self", "old", "new", "day"] (defScope s_Change___init__) := ⟨rfl, rfl, rfl, by decide +kernel, rfl, by decide +kernel, by decide +kernel⟩
theorem ok_Change___init__ {f : Addr} {fd : FuncData} (F : Fun K "__init__" "Change.__init__" s_Change___init__ f fd) (er : Errs K mg c_FeastError c_NoNumber c_NoMeasure c_NoDate c_InGap c_NoChange c_Measure c_Calendar c_Sun c_Moon c_Change) (c_Sun_date_of : CalM P w K mg base CX0 5 c_Sun "date_of" ["self", "day"] (spDate K c_Sun c_Moon c_Measure true)) (c_Moon_date_of : CalM P w K mg base CX0 5 c_Moon "date_of" ["self", "day"] (spDate K c_Sun c_Moon c_Measure false)) (c_Change_date_of_n1 : CalM P w K mg base CX0 7 c_Change "date_of" ["self", "day"] (spDateC K c_Sun c_Moon c_Measure c_Change 1)) : FnOk P w K mg base (CX1 P w) 8 f fd ["self", "old", "new", "day"] (spInitC K c_Sun c_Moon c_Measure c_Change c_NoChange 2) := by
  refine F.okE (k := 7) sc_Change___init__ (fun vs H Q E h => ?_) (fun cdv A outer s H vs Q E hr h T => ?_)
  · obtain ⟨H0, x, dx, o, nw, a, b, k, rfl, _⟩ := h
    rfl
  obtain ⟨H0, x, dx, o, nw, a, b, k, rfl, hx, hdx, ne, eH, ha, hb, pa, pb, bk, q⟩ := h
  have s0 : Same H0 H := by rw [eH]; exact made_in hx hdx
  have x0 : H x = some (.ins c_Change dx []) := by rw [eH]; exact upd_same
  clear eH
  have bk0 : Bt 290 k := bk.mono (by decide)
  have bk1 : Bt 290 (k - 1) := by
    have big : (1 : Nat) ≤ 2 ^ 288 := by decide
    have two : (2 : Nat) ^ 290 = 4 * 2 ^ 288 := by decide
    unfold Bt at *
    omega
  refine ⟨_, (pss_cons (ps_fld (pv 0) (pv 1) (by rfl))
      (pss_cons (ps_fld (pv 0) (pv 2) (by rfl))
      (pss_cons (ps_fld (pv 0) (pv 3) (by rfl))
      (pss_cons (ps_fld (pv 0) (pe_mcalL (k := 7) (CalL.cons er.cl_Sun c_Sun_date_of (by decide) (CalL.cons er.cl_Moon c_Moon_date_of (by decide) (CalL.cons er.cl_Change c_Change_date_of_n1 (by decide) CalL.nil))) (hr.mono (by decide)) (pv 1) (pa_cons (pe_op op_sub (pv 3) pe_int) pa_nil)) (by rfl))
      (pss_cons (ps_fld (pv 0) (pe_mcalL (k := 7) (CalL.cons er.cl_Sun c_Sun_date_of (by decide) (CalL.cons er.cl_Moon c_Moon_date_of (by decide) (CalL.cons er.cl_Change c_Change_date_of_n1 (by decide) CalL.nil))) (hr.mono (by decide)) (pv 2) (pa_cons (pv 3) pa_nil)) (by rfl))
      (pss_one (ps_if (pt_cmpR (op_leX hr.units0) (pe_fld (pv 0) (by rfl)) (pe_fld (pv 0) (by rfl)) (nomark _))
        (pss_one (ps_raise T rfl er.x_NoChange rfl (pa_cons pe_str pa_nil)))
        pss_nil))))))), ?_⟩
  walk_at "rdx"
  refine ⟨x, c_Change, dx, [], rfl, x0, er.cl_Change, er.na_Change_old, by decide, ?_⟩
  have s1 : Same H0 (upd H x (.ins c_Change dx (putF (Str.ofString "old") (.ref o) []))) := same_app hx s0
  have x1 : upd H x (.ins c_Change dx (putF (Str.ofString "old") (.ref o) [])) x = some (.ins c_Change dx [(Str.ofString "old", .ref o)]) := upd_same
  generalize upd H x (.ins c_Change dx (putF (Str.ofString "old") (.ref o) [])) = H1 at s1 x1 ⊢
  walk_at "rdx"
  refine ⟨x, c_Change, dx, _, rfl, x1, er.cl_Change, er.na_Change_new, (by show 1 < 1000; decide), ?_⟩
  have s2 : Same H0 (upd H1 x (.ins c_Change dx (putF (Str.ofString "new") (.ref nw) [(Str.ofString "old", .ref o)]))) := same_app hx s1
  have x2 : upd H1 x (.ins c_Change dx (putF (Str.ofString "new") (.ref nw) [(Str.ofString "old", .ref o)])) x = some (.ins c_Change dx [(Str.ofString "old", .ref o), (Str.ofString "new", .ref nw)]) := upd_same
  generalize upd H1 x (.ins c_Change dx (putF (Str.ofString "new") (.ref nw) [(Str.ofString "old", .ref o)])) = H2 at s2 x2 ⊢
  walk_at "rdx"
  refine ⟨x, c_Change, dx, _, rfl, x2, er.cl_Change, er.na_Change_day, (by show 2 < 1000; decide), ?_⟩
  have s3 : Same H0 (upd H2 x (.ins c_Change dx (putF (Str.ofString "day") (.int k) [(Str.ofString "old", .ref o), (Str.ofString "new", .ref nw)]))) := same_app hx s2
  have x3 : upd H2 x (.ins c_Change dx (putF (Str.ofString "day") (.int k) [(Str.ofString "old", .ref o), (Str.ofString "new", .ref nw)])) x = some (.ins c_Change dx [(Str.ofString "old", .ref o), (Str.ofString "new", .ref nw), (Str.ofString "day", .int k)]) := upd_same
  generalize upd H2 x (.ins c_Change dx (putF (Str.ofString "day") (.int k) [(Str.ofString "old", .ref o), (Str.ofString "new", .ref nw)])) = H3 at s3 x3 ⊢
  walk_at "rdx"
  obtain ⟨C, dy, fs, sp, mem, e, lk, use⟩ := CalH.dtS 1 (ha.same s3) pa
  refine ⟨o, C, dy, fs, sp, mem, rfl, e, lk, ?_⟩
  walk_at "rdx"
  refine use (ha.same s3) bk1 fun p y m r H4 s4 t4 d4 _ _ _ => ?_
  clear C dy fs sp mem e lk use
  have s04 := s3.trans s4
  walk_at "rdx"
  refine ⟨x, c_Change, dx, _, rfl, s4 _ _ x3, er.cl_Change, er.na_Change_last_old, (by show 3 < 1000; decide), ?_⟩
  have s5 : Same H0 (upd H4 x (.ins c_Change dx (putF (Str.ofString "last_old") (.ref p) [(Str.ofString "old", .ref o), (Str.ofString "new", .ref nw), (Str.ofString "day", .int k)]))) := same_app hx s04
  have x5 : upd H4 x (.ins c_Change dx (putF (Str.ofString "last_old") (.ref p) [(Str.ofString "old", .ref o), (Str.ofString "new", .ref nw), (Str.ofString "day", .int k)])) x = some (.ins c_Change dx [(Str.ofString "old", .ref o), (Str.ofString "new", .ref nw), (Str.ofString "day", .int k), (Str.ofString "last_old", .ref p)]) := upd_same
  have px : p ≠ x := ne_of t4 (s4 _ _ x3) (by intro z; cases z)
  have t5 : upd H4 x (.ins c_Change dx (putF (Str.ofString "last_old") (.ref p) [(Str.ofString "old", .ref o), (Str.ofString "new", .ref nw), (Str.ofString "day", .int k)])) p = some (.tup [.int y, .int m, .int r]) := by rw [upd_ne px]; exact t4
  generalize upd H4 x (.ins c_Change dx (putF (Str.ofString "last_old") (.ref p) [(Str.ofString "old", .ref o), (Str.ofString "new", .ref nw), (Str.ofString "day", .int k)])) = H5 at s5 x5 t5 ⊢
  walk_at "rdx"
  obtain ⟨C, dy, fs, sp, mem, e, lk, use⟩ := CalH.dtS 1 (hb.same s5) pb
  refine ⟨nw, C, dy, fs, sp, mem, rfl, e, lk, ?_⟩
  walk_at "rdx"
  refine use (hb.same s5) bk0 fun p' y' m' r' H6 s6 t6 d6 _ _ _ => ?_
  clear C dy fs sp mem e lk use
  have s06 := s5.trans s6
  have t56 := s6 _ _ t5
  walk_at "rdx"
  refine ⟨x, c_Change, dx, _, rfl, s6 _ _ x5, er.cl_Change, er.na_Change_first_new, (by show 4 < 1000; decide), ?_⟩
  have s7 : Same H0 (upd H6 x (.ins c_Change dx (putF (Str.ofString "first_new") (.ref p') [(Str.ofString "old", .ref o), (Str.ofString "new", .ref nw), (Str.ofString "day", .int k), (Str.ofString "last_old", .ref p)]))) := same_app hx s06
  have x7 : upd H6 x (.ins c_Change dx (putF (Str.ofString "first_new") (.ref p') [(Str.ofString "old", .ref o), (Str.ofString "new", .ref nw), (Str.ofString "day", .int k), (Str.ofString "last_old", .ref p)])) x = some (.ins c_Change dx (cF o nw k p p')) := upd_same
  have px' : p' ≠ x := ne_of t6 (s6 _ _ x5) (by intro z; cases z)
  have t7 : upd H6 x (.ins c_Change dx (putF (Str.ofString "first_new") (.ref p') [(Str.ofString "old", .ref o), (Str.ofString "new", .ref nw), (Str.ofString "day", .int k), (Str.ofString "last_old", .ref p)])) p = some (.tup [.int y, .int m, .int r]) := by rw [upd_ne px]; exact t56
  have t7' : upd H6 x (.ins c_Change dx (putF (Str.ofString "first_new") (.ref p') [(Str.ofString "old", .ref o), (Str.ofString "new", .ref nw), (Str.ofString "day", .int k), (Str.ofString "last_old", .ref p)])) p' = some (.tup [.int y', .int m', .int r']) := by rw [upd_ne px']; exact t6
  generalize upd H6 x (.ins c_Change dx (putF (Str.ofString "first_new") (.ref p') [(Str.ofString "old", .ref o), (Str.ofString "new", .ref nw), (Str.ofString "day", .int k), (Str.ofString "last_old", .ref p)])) = H7 at s7 x7 t7 t7' ⊢
  walk_at "rdx"
  refine ⟨x, c_Change, dx, _, _, rfl, x7, er.cl_Change, er.na_Change_first_new, rfl, ?_⟩
  walk_at "rdx"
  refine ⟨x, c_Change, dx, _, _, rfl, x7, er.cl_Change, er.na_Change_last_old, rfl, ?_⟩
  refine ⟨p', p, [y', m', r'], [y, m, r], rfl, rfl, SqT.of t7', SqT.of t7, rfl, ?_⟩
  rw [lex_le]
  walk_at "rdx"
  by_cases c1 : DLe y' m' r' y m r
  · refine iteD c1 ?_
    walk_at "rdx"
    exact ⟨(by show 1 ≤ sizeLine; decide), (q _ _ _ _ _ _ d4 d6).2 (DLt_not.mpr c1) _ s7⟩
  · refine iteN c1 ?_
    walk_at "rdx"
    have l12 := DLe_not.mp c1
    exact (q _ _ _ _ _ _ d4 d6).1 l12 _ s7 ⟨dx, o, nw, p, p', y, m, r, y', m', r', x7, ha.same s7, hb.same s7, t7, t7', d4, d6, l12, bk⟩
theorem sc_law_cell_at : FnScope ["_law_script", "_law_k"] ["_law_script", "_law_k"] (defScope s_law_cell_at) := ⟨rfl, rfl, rfl, by decide +kernel, rfl, by decide +kernel, by decide +kernel⟩
theorem ok_law_cell_at {f : Addr} {fd : FuncData} (F : Fun K "_law_cell_at" "_law_cell_at" s_law_cell_at f fd) (z_len : mg "len" = none) : FnOk P w K mg base CX0 1 f fd ["_law_script", "_law_k"] (spCell K) := by
  refine F.ok (k := 0) sc_law_cell_at (fun vs H Q E h => ?_) (fun cdv A outer s H vs Q E hr h => ?_)
  · obtain ⟨a, ns, k, rfl, _⟩ := h
    rfl
  obtain ⟨a, ns, k, rfl, hS, h0, hl, q⟩ := h
  refine ⟨_, (pss_cons (ps_if (pt_cmpR op_lt (pv 1) (pe_callB call_len_seq rfl z_len PySem.boot_len (pa_cons (pv 0) pa_nil)) (nomark _))
        (pss_one (ps_ret (pe_ix ix_list (pv 0) (pv 1) (fun _ _ => rfl))))
        pss_nil)
      (pss_one (ps_ret pe_int))), ?_⟩
  walk_at "rd"
  refine ⟨a, _, rfl, .inl hS, ?_⟩
  walk_at "rd"
  rw [List.length_map]
  refine ite2d (fun c => ?_) (fun c => ?_)
  · walk_at "rd"
    refine rd_ixL hS (at_ints h0 c) ?_
    exact q
  · walk_at "rd"
    have e : ns.getD k.toNat 0 = 0 := by
      simp [List.getD, List.getElem?_eq_none (show ns.length ≤ k.toNat by omega)]
    rw [e] at q
    exact q
theorem sc_law_whole : FnScope ["_law_found"] ["_law_found"] (defScope s_law_whole) := ⟨rfl, rfl, rfl, by decide +kernel, rfl, by decide +kernel, by decide +kernel⟩
theorem ok_law_whole {f : Addr} {fd : FuncData} (F : Fun K "_law_whole" "_law_whole" s_law_whole f fd) (z_isinstance : mg "isinstance" = none) (z_int : mg "int" = none) (z_bool : mg "bool" = none) : FnOk P w K mg base CX0 1 f fd ["_law_found"] spWhole := by
  refine F.ok (k := 0) sc_law_whole (fun vs H Q E h => ?_) (fun cdv A outer s H vs Q E hr h => ?_)
  · obtain ⟨i, rfl, _⟩ := h
    rfl
  obtain ⟨i, rfl, q⟩ := h
  refine ⟨_, (pss_one (ps_ret (pe_and (pe_callB call_isi rfl z_isinstance PyProof.Rows.boot_isinstance (pa_cons (pv 0) (pa_cons (pe_bltn rfl z_int PyProof.Rows.boot_int (rel_ty _)) pa_nil))) (pe_one (pe_not (pe_callB call_isi rfl z_isinstance PyProof.Rows.boot_isinstance (pa_cons (pv 0) (pa_cons (pe_bltn rfl z_bool PyProof.Rows.boot_bool (rel_ty _)) pa_nil)))))))), ?_⟩
  walk_at "rd"
  refine rd_isi (.int i) (kit_int_int K) ?_
  walk_at "rd"
  refine iteT ?_
  walk_at "rd"
  refine rd_isi (.int i) (kit_ib K) ?_
  walk_at "rd"
  exact q
theorem sc_law_number : FnScope ["_law_cell", "_law_part"] ["_law_cell"] (defScope s_law_number) := ⟨rfl, rfl, rfl, by decide +kernel, rfl, by decide +kernel, by decide +kernel⟩
theorem ok_law_number {f : Addr} {fd : FuncData} (F : Fun K "_law_number" "_law_number" s_law_number f fd) : FnOk P w K mg base CX0 1 f fd ["_law_cell"] spNumB := by
  refine F.ok (k := 0) sc_law_number (fun vs H Q E h => ?_) (fun cdv A outer s H vs Q E hr h => ?_)
  · obtain ⟨c, rfl, _⟩ := h
    rfl
  obtain ⟨c, rfl, q⟩ := h
  refine ⟨_, (pss_cons (ps_set (i := 1) sc_law_number.nd rfl (by first | exact Or.inl rfl | exact Or.inr rfl) (pe_op op_mod (pe_op op_fdivB (pv 0) pe_int) (pe_op op_pow pe_int pe_int)))
      (pss_one (ps_ret (pe_ix ix_list (pe_lst (pa_cons (pv 1) (pa_cons (pe_un un_neg (pv 1)) (pa_cons (pe_op op_sub (pe_op op_mod (pv 1) pe_int) pe_int) pa_nil)))) (pe_op op_mod (pv 0) pe_int) (fun _ _ => rfl))))), ?_⟩
  walk_at "rd"
  rw [p40]
  generalize hp : c / 3 % 10000000000000000000000000000000000000000 = pt
  refine ⟨(by show 3 ≤ sizeLine; decide), fun l hl => ?_⟩
  walk_at "rd"
  have fin : ∀ k : Int, -10000000000000000000000000000000000000000 ≤ k → k ≤ 10000000000000000000000000000000000000000 → atI [V.int pt, V.int (-pt), V.int (pt % 1000 - 500)] (c % 3) = some (V.int k) → rIxL K (.ref l) (.int (c % 3)) (upd H l (.lst [V.int pt, V.int (-pt), V.int (pt % 1000 - 500)])) Q := fun k k0 k1 e =>
    rd_ixL (SqL.of upd_same) e (q k _ (same_new hl _) k0 k1)
  rcases (by omega : c % 3 = 0 ∨ c % 3 = 1 ∨ c % 3 = 2) with e | e | e
  · exact fin pt (by omega) (by omega) (by rw [e]; rfl)
  · exact fin (-pt) (by omega) (by omega) (by rw [e]; rfl)
  · exact fin (pt % 1000 - 500) (by omega) (by omega) (by rw [e]; rfl)
theorem sc_law_mixed : FnScope ["_law_cell", "_law_k", "_law_number_here"] ["_law_cell", "_law_k"] (defScope s_law_mixed) := ⟨rfl, rfl, rfl, by decide +kernel, rfl, by decide +kernel, by decide +kernel⟩
theorem ok_law_mixed {f : Addr} {fd : FuncData} (F : Fun K "_law_mixed" "_law_mixed" s_law_mixed f fd) : FnOk P w K mg base CX0 1 f fd ["_law_cell", "_law_k"] spMixedD := by
  refine F.ok (k := 0) sc_law_mixed (fun vs H Q E h => ?_) (fun cdv A outer s H vs Q E hr h => ?_)
  · obtain ⟨c, k, rfl, _⟩ := h
    rfl
  obtain ⟨c, k, rfl, k0, k1, q⟩ := h
  unfold mixF at q
  refine ⟨_, (pss_cons (ps_if (pt_cmpR op_eq (pe_op op_mod (pv 0) pe_int) pe_int (nomark _))
        (pss_one (ps_ret (pe_op op_and (pe_op op_shr (pe_op op_fdivB (pv 0) pe_int) (pe_op op_mulB pe_int (pv 1))) pe_int)))
        pss_nil)
      (pss_cons (ps_set (i := 2) sc_law_mixed.nd rfl (by first | exact Or.inl rfl | exact Or.inr rfl) (pe_op op_mod (pe_op op_mulB (pe_op op_add (pe_op op_add (pe_op op_mod (pv 0) pe_int) (pe_op op_mulB pe_int (pv 1))) pe_int) pe_int) pe_int))
      (pss_cons (ps_set (i := 2) sc_law_mixed.nd rfl (by first | exact Or.inl rfl | exact Or.inr rfl) (pe_op op_mod (pe_op op_mulB (pv 2) (pe_op op_add (pe_op op_fdivB (pv 2) pe_int) pe_int)) pe_int))
      (pss_one (ps_ret (pe_op op_mod (pe_op op_mulB (pv 2) (pe_op op_add (pe_op op_add (pe_op op_fdivB (pv 2) pe_int) pe_int) (pv 1))) pe_int)))))), ?_⟩
  walk_at "rd"
  refine ite2d (fun c1 => ?_) (fun c1 => ?_)
  · rw [if_pos (V.int.inj c1)] at q
    walk_at "rd"
    refine rd_i ⟨64, 64, by unfold Bt; omega, by unfold Bt; omega, by decide⟩ ?_
    walk_at "rd"
    refine rd_i (show (0 : Int) ≤ 41 * k by omega) ?_
    walk_at "rd"
    exact q
  rw [if_neg fun z => c1 (congrArg V.int z)] at q
  walk_at "rd"
  refine rd_i ⟨64, 64, by unfold Bt; omega, by unfold Bt; omega, by decide⟩ ?_
  walk_at "rd"
  refine rd_i ⟨64, 64, by unfold Bt; omega, by unfold Bt; omega, by decide⟩ ?_
  walk_at "rd"
  generalize h1 : (c % 2147483647 + 7919 * k + 1) * 48271 % 2147483647 = x at q ⊢
  have x0 : 0 ≤ x := by rw [← h1]; exact Int.emod_nonneg _ (by decide)
  have x1 : x < 2147483647 := by rw [← h1]; exact Int.emod_lt_of_pos _ (by decide)
  refine rd_i ⟨64, 64, by unfold Bt; omega, by unfold Bt; omega, by decide⟩ ?_
  walk_at "rd"
  generalize h2 : x * (x / 1009 + 69621) % 2147483647 = y at q ⊢
  have y0 : 0 ≤ y := by rw [← h2]; exact Int.emod_nonneg _ (by decide)
  have y1 : y < 2147483647 := by rw [← h2]; exact Int.emod_lt_of_pos _ (by decide)
  refine rd_i ⟨64, 64, by unfold Bt; omega, by unfold Bt; omega, by decide⟩ ?_
  walk_at "rd"
  exact q
theorem sc_law_terms : FnScope ["_law_cell", "_law_many", "_law_terms_here", "_law_most", "_law_k", "_law_n", "_law_a", "_law_b"] ["_law_cell", "_law_many"] (defScope s_law_terms) := ⟨rfl, rfl, rfl, by decide +kernel, rfl, by decide +kernel, by decide +kernel⟩
theorem ok_law_terms {f : Addr} {fd : FuncData} (F : Fun K "_law_terms" "_law_terms" s_law_terms f fd) (c__law_mixed : Cal P w K mg base 1 "_law_mixed" ["_law_cell", "_law_k"] spMixedD) (z_range : mg "range" = none) : FnOk P w K mg base CX0 2 f fd ["_law_cell", "_law_many"] spTerms43 := by
  refine F.ok (k := 1) sc_law_terms (fun vs H Q E h => ?_) (fun cdv A outer s H vs Q E hr h => ?_)
  · obtain ⟨c, m, rfl, _⟩ := h
    rfl
  obtain ⟨c, m, rfl, m0, m1, q⟩ := h
  have mo := pk4_box (c % 4)
  refine ⟨_, (pss_cons (ps_set (i := 2) sc_law_terms.nd rfl (by first | exact Or.inl rfl | exact Or.inr rfl) (pe_lst pa_nil))
      (pss_cons (ps_set (i := 3) sc_law_terms.nd rfl (by first | exact Or.inl rfl | exact Or.inr rfl) (pe_ix ix_list (pe_lst (pa_cons pe_int (pa_cons pe_int (pa_cons pe_int (pa_cons pe_int pa_nil))))) (pe_op op_mod (pv 0) pe_int) (fun _ _ => rfl)))
      (pss_cons (ps_for PassesOwn.never rfl (pi_range1 rfl z_range (pa_cons (pv 1) pa_nil)) (pg_name (i := 4) sc_law_terms.nd rfl (by first | exact Or.inl rfl | exact Or.inr rfl))
        (pss_cons (ps_set (i := 5) sc_law_terms.nd rfl (by first | exact Or.inl rfl | exact Or.inr rfl) (pe_op op_add pe_int (pe_op op_mod (pe_cal c__law_mixed (hr.mono (by decide)) rfl (pa_cons (pv 0) (pa_cons (pe_op op_add (pe_op op_mulB pe_int (pv 4)) pe_int) pa_nil))) (pv 3))))
      (pss_cons (ps_set (i := 6) sc_law_terms.nd rfl (by first | exact Or.inl rfl | exact Or.inr rfl) (pe_op op_mod (pe_cal c__law_mixed (hr.mono (by decide)) rfl (pa_cons (pv 0) (pa_cons (pe_op op_add (pe_op op_mulB pe_int (pv 4)) pe_int) pa_nil))) (pe_op op_add (pv 5) pe_int)))
      (pss_cons (ps_set (i := 7) sc_law_terms.nd rfl (by first | exact Or.inl rfl | exact Or.inr rfl) (pe_op op_mod (pe_cal c__law_mixed (hr.mono (by decide)) rfl (pa_cons (pv 0) (pa_cons (pe_op op_add (pe_op op_mulB pe_int (pv 4)) pe_int) pa_nil))) (pv 5)))
      (pss_one (ps_expr (pe_bm PySem.F.plainAttrs_list PySem.F.slot_list_append PySem.F.type_list_append mt_append (pv 2) (pa_cons (pe_tup (pa_cons (pe_op op_sub pe_int (pe_op op_mulB pe_int (pe_op op_mod (pe_cal c__law_mixed (hr.mono (by decide)) rfl (pa_cons (pv 0) (pa_cons (pe_op op_add (pe_op op_mulB pe_int (pv 4)) pe_int) pa_nil))) pe_int))) (pa_cons (pv 6) (pa_cons (pv 7) (pa_cons (pv 5) pa_nil))))) pa_nil))))))))
      (pss_one (ps_ret (pv 2)))))), ?_⟩
  walk_at "rd"
  refine ⟨Nat.zero_le _, fun l hl => ?_⟩
  have s1 := same_new hl (.lst [])
  have t1 : upd H l (.lst []) l = some (.lst []) := upd_same
  generalize upd H l (.lst []) = H1 at s1 t1 ⊢
  walk_at "rd"
  refine ⟨(by show 4 ≤ sizeLine; decide), fun l2 hl2 => ?_⟩
  have s2 := same_new hl2 (.lst [.int 4, .int 19, .int 100, .int 1000])
  have t2 : upd H1 l2 (.lst [.int 4, .int 19, .int 100, .int 1000]) l2 = some (.lst (([4, 19, 100, 1000] : List Int).map V.int)) := upd_same
  generalize upd H1 l2 (.lst [.int 4, .int 19, .int 100, .int 1000]) = H2 at s2 t2 ⊢
  walk_at "rd"
  refine rd_ixL (SqL.of t2) (at_pk4 c) ?_
  walk_at "rd"
  walk_at "rdf"
  walk_at "rd"
  refine ⟨m, rfl, by omega, by omega, for_range (fun i σ' H' => Same H H' ∧ ∃ (us : List V) (w4 w5 w6 w7 : Option V), σ' = [some (.int c), some (.int m), some (.ref l), some (.int (pk4 4 19 100 1000 (c % 4))), w4, w5, w6, w7] ∧ H' l = some (.lst us) ∧ Tms H' us (tm43 c (i : Int))) ⟨s1.trans s2, [], none, none, none, none, rfl, s2 _ _ t1, .nil⟩ ?_ ?_⟩
  · rintro i σ' H3 hi ⟨s3, us, w4, w5, w6, w7, rfl, h3, T3⟩
    generalize hmo : pk4 4 19 100 1000 (c % 4) = mo' at mo ⊢
    have mul : CMulB 5 (0 + (i : Int)) := ⟨64, 64, by unfold Bt; decide, by unfold Bt; omega, by decide⟩
    have tl := T3.len
    have tl3 := tm43_len c (m := (i : Int)) (by omega)
    have h1 := Int.emod_nonneg (mixF c (5 * (0 + (i : Int)) + 1)) (show mo' ≠ 0 by omega)
    walk_at "rd"
    refine rd_i mul ?_
    walk_at "rd"
    refine ⟨c, _, rfl, by omega, by omega, ?_⟩
    walk_at "rd"
    refine rd_i mul ?_
    walk_at "rd"
    refine ⟨c, _, rfl, by omega, by omega, ?_⟩
    walk_at "rd"
    refine rd_i mul ?_
    walk_at "rd"
    refine ⟨c, _, rfl, by omega, by omega, ?_⟩
    walk_at "rd"
    refine rd_append rfl h3 ?_
    walk_at "rd"
    refine rd_i mul ?_
    walk_at "rd"
    refine ⟨c, _, rfl, by omega, by omega, ?_⟩
    walk_at "rd"
    refine rd_i ⟨64, 64, by unfold Bt; decide, by unfold Bt; omega, by decide⟩ ?_
    walk_at "rd"
    refine ⟨(by show 4 ≤ sizeLine; decide), fun p hp => ?_⟩
    have e0 : (0 : Int) + (i : Int) = (i : Int) := by omega
    rw [e0]
    have s4 := same_new hp (.tup (tmV (t43 c mo' (i : Int))))
    have t4 : upd H3 p (.tup (tmV (t43 c mo' (i : Int)))) p = some (.tup (tmV (t43 c mo' (i : Int)))) := upd_same
    have T4 := T3.same s4
    have h4 := s4 _ _ h3
    walk_at "rd"
    refine rd_app h4 (small1000 (by rw [tl]; omega)) ?_
    refine ⟨same_app hl (s3.trans s4), us ++ [.ref p], _, _, _, _, rfl, upd_same, ?_⟩
    have et : tm43 c ((i + 1 : Nat) : Int) = tm43 c (i : Int) ++ [t43 c mo' (i : Int)] := by
      unfold tm43
      rw [Int.toNat_natCast, Int.toNat_natCast, List.range_succ, List.map_append, hmo]
      rfl
    rw [et]
    exact Tms.upd h4 (Tms.snoc t4 T4)
  · rintro σ' H3 ⟨s3, us, w4, w5, w6, w7, rfl, h3, T3⟩
    rw [show ((m.toNat : Nat) : Int) = m by omega] at T3
    walk_at "rd"
    exact q l us _ s3 h3 T3
theorem sc_law_made : FnScope ["_law_cell", "_law_start", "_law_kind", "_law_ones_terms", "_law_many", "_law_most", "_law_lengths", "_law_leap", "_law_days"] ["_law_cell", "_law_start"] (defScope s_law_made) := ⟨rfl, rfl, rfl, by decide +kernel, rfl, by decide +kernel, by decide +kernel⟩
theorem ok_law_made {f : Addr} {fd : FuncData} (F : Fun K "_law_made" "_law_made" s_law_made f fd) (er : Errs K mg c_FeastError c_NoNumber c_NoMeasure c_NoDate c_InGap c_NoChange c_Measure c_Calendar c_Sun c_Moon c_Change) (c__law_terms : Cal P w K mg base 2 "_law_terms" ["_law_cell", "_law_many"] spTerms43) (c_Measure___init__ : CalI P w K mg base CX0 5 "Measure" c_Measure ["self", "base", "terms"] (spInitM K c_Measure)) (c__law_mixed : Cal P w K mg base 1 "_law_mixed" ["_law_cell", "_law_k"] spMixedD) (c_Moon___init__ : CalI P w K mg base CX0 3 "Moon" c_Moon ["self", "start", "days", "many"] (spInitMo K c_Moon c_Measure)) (c_Sun___init__ : CalI P w K mg base CX0 7 "Sun" c_Sun ["self", "start", "lengths", "leap", "terms"] (spInitS K c_Sun c_Measure)) (z_range : mg "range" = none) (z_min : mg "min" = none) : FnOk P w K mg base CX0 9 f fd ["_law_cell", "_law_start"] (spMade43 K c_Sun c_Moon c_Measure) := by
  refine F.ok (k := 8) sc_law_made (fun vs H Q E h => ?_) (fun cdv A outer s H vs Q E hr h => ?_)
  · obtain ⟨c0, s, rfl, _⟩ := h
    rfl
  obtain ⟨c0, s, rfl, bs, q⟩ := h
  have gd := good43 c0 s
  unfold shp43 at q gd
  refine ⟨_, (pss_cons (ps_set (i := 2) sc_law_made.nd rfl (by first | exact Or.inl rfl | exact Or.inr rfl) (pe_op op_mod (pv 0) pe_int))
      (pss_cons (ps_set (i := 0) sc_law_made.nd rfl (by first | exact Or.inl rfl | exact Or.inr rfl) (pe_op op_fdivB (pv 0) pe_int))
      (pss_cons (ps_set (i := 3) sc_law_made.nd rfl (by first | exact Or.inl rfl | exact Or.inr rfl) (pe_cal c__law_terms (hr.mono (by decide)) rfl (pa_cons (pe_op op_fdivB (pv 0) pe_int) (pa_cons (pe_op op_mod (pv 0) pe_int) pa_nil))))
      (pss_cons (ps_if (pt_cmpR op_eq (pv 2) pe_int (nomark _))
        (pss_cons (ps_set (i := 8) sc_law_made.nd rfl (by first | exact Or.inl rfl | exact Or.inr rfl) (pe_mk c_Measure___init__ (hr.mono (by decide)) rfl (pa_cons (pe_op op_add pe_int (pe_op op_mod (pe_cal c__law_mixed (hr.mono (by decide)) rfl (pa_cons (pv 0) (pa_cons pe_int pa_nil))) (pe_ix ix_list (pe_lst (pa_cons pe_int (pa_cons pe_int pa_nil))) (pe_op op_mod (pe_cal c__law_mixed (hr.mono (by decide)) rfl (pa_cons (pv 0) (pa_cons pe_int pa_nil))) pe_int) (fun _ _ => rfl)))) (pa_cons (pv 3) pa_nil))))
      (pss_one (ps_ret (pe_mk c_Moon___init__ (hr.mono (by decide)) rfl (pa_cons (pv 1) (pa_cons (pv 8) (pa_cons (pe_mk c_Measure___init__ (hr.mono (by decide)) rfl (pa_cons (pe_op op_add pe_int (pe_op op_mod (pe_cal c__law_mixed (hr.mono (by decide)) rfl (pa_cons (pv 0) (pa_cons pe_int pa_nil))) pe_int)) (pa_cons (pe_cal c__law_terms (hr.mono (by decide)) rfl (pa_cons (pe_op op_fdivB (pv 0) pe_int) (pa_cons (pe_op op_mod (pe_op op_fdivB (pv 0) pe_int) pe_int) pa_nil))) pa_nil))) pa_nil)))))))
        pss_nil)
      (pss_cons (ps_set (i := 4) sc_law_made.nd rfl (by first | exact Or.inl rfl | exact Or.inr rfl) (pe_op op_add pe_int (pe_op op_mod (pe_cal c__law_mixed (hr.mono (by decide)) rfl (pa_cons (pv 0) (pa_cons pe_int pa_nil))) pe_int)))
      (pss_cons (ps_set (i := 5) sc_law_made.nd rfl (by first | exact Or.inl rfl | exact Or.inr rfl) (pe_ix ix_list (pe_lst (pa_cons pe_int (pa_cons pe_int (pa_cons pe_int pa_nil)))) (pe_op op_mod (pe_cal c__law_mixed (hr.mono (by decide)) rfl (pa_cons (pv 0) (pa_cons pe_int pa_nil))) pe_int) (fun _ _ => rfl)))
      (pss_cons (ps_setComp (i := 6) sc_law_made.nd rfl (by first | exact Or.inl rfl | exact Or.inr rfl) rfl (compOk_freeM ["_law_cell", "_law_start", "_law_kind", "_law_ones_terms", "_law_many", "_law_most", "_law_lengths", "_law_leap", "_law_days"] ["_law_cell", "_law_start", "_law_kind", "_law_ones_terms", "_law_many", "_law_most", "_law_lengths", "_law_leap", "_law_days"] rfl rfl (by with_unfolding_all rfl) (by decide +kernel) rfl (by decide +kernel) rfl (by decide +kernel) (by walk_at "fm") (by with_unfolding_all rfl) (by with_unfolding_all rfl)) (pi_range1 rfl z_range (pa_cons (pv 4) pa_nil)) (fun _ _ _ _ => pifs_nil) (fun _ _ _ _ => (pe_op op_mod (pe_cal c__law_mixed (hr.mono (by decide)) rfl (pa_cons (pv 1) (pa_cons (pe_op op_add pe_int (pv 0)) pa_nil))) (pv 6))))
      (pss_cons (ps_set (i := 7) sc_law_made.nd rfl (by first | exact Or.inl rfl | exact Or.inr rfl) (pe_op op_add pe_int (pe_op op_mod (pe_cal c__law_mixed (hr.mono (by decide)) rfl (pa_cons (pv 0) (pa_cons pe_int pa_nil))) (pv 4))))
      (pss_cons (ps_asg (pe_callB (call_min2 rfl) rfl z_min PyProof.Rows.boot_min (pa_cons pe_int (pa_cons (pe_op op_add (pe_ix ix_list (pv 6) (pe_op op_sub (pv 7) pe_int) (fun _ _ => rfl)) pe_int) pa_nil))) (pg_sub (pv 6) (pe_op op_sub (pv 7) pe_int) set_list))
      (pss_one (ps_ret (pe_mk c_Sun___init__ (hr.mono (by decide)) rfl (pa_cons (pv 1) (pa_cons (pv 6) (pa_cons (pv 7) (pa_cons (pv 3) pa_nil)))))))))))))))), ?_⟩
  walk_at "rdx"
  generalize hc : c0 / 4 = c at q gd ⊢
  have f3 := tm43_falls (c / 4) (show c % 4 ≤ 3 by omega)
  have ok3 := tm43_ok (c / 4) (c % 4)
  have few3 := tm43_few (c / 4) (show c % 4 ≤ 3 by omega)
  refine ⟨_, _, rfl, by omega, by omega, fun l us H1 s1 hl hT => ?_⟩
  walk_at "rdx"
  by_cases c1 : c0 % 4 = 3
  · rw [if_pos c1] at q gd
    have b1 := bd43_box c
    have b2 := bm43_box c
    have f2 := tm43_falls (c / 16) (show c / 4 % 4 ≤ 3 by omega)
    have ok2 := tm43_ok (c / 16) (c / 4 % 4)
    have few2 := tm43_few (c / 16) (show c / 4 % 4 ≤ 3 by omega)
    refine iteD (congrArg V.int c1) ?_
    walk_at "rdx"
    refine ⟨c, _, rfl, by decide, by decide, ?_⟩
    walk_at "rdx"
    refine ⟨two, fun l2 hl2 => ?_⟩
    have s2 := same_new hl2 (.lst [.int 40, .int 990])
    have t2 : upd H1 l2 (.lst [.int 40, .int 990]) l2 = some (.lst (([40, 990] : List Int).map V.int)) := upd_same
    generalize upd H1 l2 (.lst [.int 40, .int 990]) = H2 at s2 t2 ⊢
    walk_at "rdx"
    refine ⟨c, _, rfl, by decide, by decide, ?_⟩
    walk_at "rdx"
    refine rd_ixL (SqL.of t2) (at_pk2 (mixF c 36)) ?_
    have pb := pk2_box (a := 40) (b := 990) (i := mixF c 36 % 2) (lo := 1) (hi := 990) (by decide) (by decide)
    walk_at "rdx"
    refine fun y dy hy hdy ne => init_me (b := bd43 c) hy hdy ne (hT.same s2) (.inr ⟨l, rfl, s2 _ _ hl⟩) ok3 few3 (good_m (by omega) (by omega)) (UP_pos ok3 (by omega) (per_pos ok3 few3).1) fun H3 s3 M3 => ⟨rfl, ?_⟩
    walk_at "rdx"
    refine ⟨c, _, rfl, by decide, by decide, ?_⟩
    walk_at "rdx"
    refine ⟨_, _, rfl, by omega, by omega, fun l' us' H4 s4 hl' hT' => ?_⟩
    walk_at "rdx"
    refine fun y' dy' hy' hdy' ne' => init_me (b := bm43 c) hy' hdy' ne' hT' (.inr ⟨l', rfl, hl'⟩) ok2 few2 (good_m (by omega) (by omega)) (UP_pos ok2 (by omega) (per_pos ok2 few2).1) fun H5 s5 M5 => ⟨rfl, ?_⟩
    walk_at "rdx"
    exact fun x dx hx hdx ne => init_moon hx hdx ne ((M3.same s4).same s5) M5 gd bs fun H6 s6 S6 => ⟨rfl, q x _ (s1.trans (s2.trans (s3.trans (s4.trans (s5.trans s6))))) S6⟩
  rw [if_neg c1] at q gd
  have g := good43S c ok3 few3 f3.2
  have lb := lp43_box c
  have ll := ls43_len c
  refine iteN (fun z => c1 (V.int.inj z)) ?_
  walk_at "rdx"
  refine ⟨c, _, rfl, by decide, by decide, ?_⟩
  walk_at "rdx"
  have m0 : 1 ≤ 1 + mixF c 33 % 20 := by omega
  have m1 : 1 + mixF c 33 % 20 ≤ 20 := by omega
  refine ⟨three, fun l2 hl2 => ?_⟩
  have s2 := same_new hl2 (.lst [.int 40, .int 40, .int 1001])
  have t2 : upd H1 l2 (.lst [.int 40, .int 40, .int 1001]) l2 = some (.lst (([40, 40, 1001] : List Int).map V.int)) := upd_same
  generalize upd H1 l2 (.lst [.int 40, .int 40, .int 1001]) = H2 at s2 t2 ⊢
  walk_at "rdx"
  refine ⟨c, _, rfl, by decide, by decide, ?_⟩
  walk_at "rdx"
  refine rd_ixL (SqL.of t2) (at_pk3 (mixF c 34)) ?_
  have pb := pk3_box (a := 40) (b := 40) (c := 1001) (i := mixF c 34 % 3) (lo := 1) (hi := 1001) (by decide) (by decide) (by decide)
  walk_at "rdx"
  refine rd_comp (rd_rng1 ?_)
  walk_at "rdx"
  refine ⟨_, rfl, by omega, by omega, ?_⟩
  refine comp_inv walk_r (by rw [List.length_map, List.length_range]; exact small1000 (by omega)) (fun D i ys H3 => H3 D = some (.lst ys) ∧ Same H2 H3 ∧ ys = (((List.range i).map fun k : Nat => mixF c (40 + (k : Int)) % pk3 40 40 1001 (mixF c 34 % 3)).map V.int)) (fun D hD => ⟨upd_same, same_new hD _, rfl⟩)
    (fun D i ys H3 _ ⟨h1, _, h3⟩ => ⟨h1, by rw [h3, List.length_map, List.length_map, List.length_range]; exact Nat.le_refl _, trivial⟩) (fun D i x ys H3 hD hx ⟨h1, h2, h3⟩ => ?_) (fun D ys H3 hD ⟨h1, h2, h3⟩ => ?_)
  · rw [List.getElem?_map] at hx
    obtain ⟨j, hj, rfl⟩ := Option.map_eq_some_iff.mp hx
    have jl : j < (1 + mixF c 33 % 20).toNat := List.mem_range.mp (List.mem_of_getElem? hj)
    have ej : j = i := by
      rw [List.getElem?_range (by have := (List.getElem?_eq_some_iff.mp hj).1; rw [List.length_range] at this; exact this)] at hj
      injection hj with hj
      exact hj.symm
    subst ej
    refine rd_true (iteT ?_)
    walk_at "rdx"
    refine ⟨c, _, rfl, by omega, by omega, ?_⟩
    walk_at "rdx"
    rw [Int.zero_add]
    refine ⟨h1, upd_same, same_app hD h2, ?_⟩
    rw [h3, List.range_succ, List.map_append, List.map_append]
    rfl
  rw [List.length_map, List.length_range] at h3
  replace h3 : ys = (ls43 c).map V.int := h3
  subst h3
  walk_at "rdx"
  refine ⟨c, _, rfl, by decide, by decide, ?_⟩
  walk_at "rdx"
  have elp : 1 + mixF c 35 % (1 + mixF c 33 % 20) = lp43 c := rfl
  rw [elp]
  refine rd_ixL (SqL.of h1) (at_ints (by omega) (by omega)) ?_
  walk_at "rdx"
  refine ⟨_, _, rfl, ?_⟩
  walk_at "rdx"
  have eu : (if (ls43 c).getD (lp43 c - 1).toNat 0 + 4 < 1000 then (ls43 c).getD (lp43 c - 1).toNat 0 + 4 else 1000) = up43 ((ls43 c).getD (lp43 c - 1).toNat 0) := rfl
  rw [eu]
  have ei : lp43 c - 1 = (((lp43 c - 1).toNat : Nat) : Int) := by omega
  generalize hi : (lp43 c - 1).toNat = i at ei g q ⊢
  rw [ei]
  refine rd_setL h1 (by rw [List.length_map]; omega) ?_
  rw [← List.map_set]
  have s3 : Same H2 (upd H3 D (.lst (((ls43 c).set i (up43 ((ls43 c).getD i 0))).map V.int))) := same_app hD h2
  have t3 : upd H3 D (.lst (((ls43 c).set i (up43 ((ls43 c).getD i 0))).map V.int)) D = some (.lst (((ls43 c).set i (up43 ((ls43 c).getD i 0))).map V.int)) := upd_same
  generalize upd H3 D (.lst (((ls43 c).set i (up43 ((ls43 c).getD i 0))).map V.int)) = H4 at s3 t3 ⊢
  have s24 := s2.trans s3
  walk_at "rdx"
  exact fun x dx hx hdx ne => init_sun hx hdx ne t3 (hT.same s24) (.inr ⟨l, rfl, s24 _ _ hl⟩) g bs fun H6 s6 S6 => ⟨rfl, q x _ (s1.trans (s24.trans s6)) S6⟩
theorem sc_law_begun : FnScope ["_law_cell", "_law_year", "_law_day", "_law_plain", "_law_begin", "_law_start"] ["_law_cell", "_law_year", "_law_day"] (defScope s_law_begun) := ⟨rfl, rfl, rfl, by decide +kernel, rfl, by decide +kernel, by decide +kernel⟩
theorem ok_law_begun {f : Addr} {fd : FuncData} (F : Fun K "_law_begun" "_law_begun" s_law_begun f fd) (er : Errs K mg c_FeastError c_NoNumber c_NoMeasure c_NoDate c_InGap c_NoChange c_Measure c_Calendar c_Sun c_Moon c_Change) (c__law_made : Cal P w K mg base 9 "_law_made" ["_law_cell", "_law_start"] (spMade43 K c_Sun c_Moon c_Measure)) (c__law_number : Cal P w K mg base 1 "_law_number" ["_law_cell"] spNumB) (c_Sun_year_start : CalM P w K mg base CX0 3 c_Sun "year_start" ["self", "year"] (spYS K c_Sun c_Measure)) (c_Moon_year_start : CalM P w K mg base CX0 3 c_Moon "year_start" ["self", "year"] (spMYS K c_Moon c_Measure)) : FnOk P w K mg base CX0 10 f fd ["_law_cell", "_law_year", "_law_day"] (spBegun43 K c_Sun c_Moon c_Measure) := by
  refine F.ok (k := 9) sc_law_begun (fun vs H Q E h => ?_) (fun cdv A outer s H vs Q E hr h => ?_)
  · obtain ⟨c, y, k, m, rfl, _⟩ := h
    rfl
  obtain ⟨c, y, k, m, rfl, m0, m1, by', bk, q⟩ := h
  refine ⟨_, (pss_cons (ps_if (pt_cmpR op_eq (pe_op op_mod (pv 0) pe_int) pe_int (nomark _))
        (pss_one (ps_ret (pe_cal c__law_made (hr.mono (by decide)) rfl (pa_cons (pe_op op_fdivB (pv 0) pe_int) (pa_cons (pe_cal c__law_number (hr.mono (by decide)) rfl (pa_cons (pe_op op_fdivB (pv 0) pe_int) pa_nil)) pa_nil)))))
        pss_nil)
      (pss_cons (ps_set (i := 3) sc_law_begun.nd rfl (by first | exact Or.inl rfl | exact Or.inr rfl) (pe_cal c__law_made (hr.mono (by decide)) rfl (pa_cons (pe_op op_fdivB (pv 0) pe_int) (pa_cons pe_int pa_nil))))
      (pss_cons (ps_set (i := 4) sc_law_begun.nd rfl (by first | exact Or.inl rfl | exact Or.inr rfl) (pe_mcalL (k := 3) (CalL.cons er.cl_Sun c_Sun_year_start (by decide) (CalL.cons er.cl_Moon c_Moon_year_start (by decide) CalL.nil)) (hr.mono (by decide)) (pv 3) (pa_cons (pe_op op_add (pv 1) (pe_op op_mod (pe_op op_fdivB (pv 0) pe_int) pe_int)) pa_nil)))
      (pss_cons (ps_set (i := 5) sc_law_begun.nd rfl (by first | exact Or.inl rfl | exact Or.inr rfl) (pe_op op_sub (pe_op op_sub (pv 2) (pv 4)) (pe_ix ix_list (pe_lst (pa_cons pe_int (pa_cons pe_int (pa_cons (pe_op op_mod (pe_op op_fdivB (pv 0) pe_int) pe_int) pa_nil)))) (pe_op op_mod (pv 0) pe_int) (fun _ _ => rfl))))
      (pss_one (ps_ret (pe_cal c__law_made (hr.mono (by decide)) rfl (pa_cons (pe_op op_fdivB (pv 0) pe_int) (pa_cons (pv 5) pa_nil))))))))), ?_⟩
  walk_at "rdx"
  refine ite2d (fun _ => ?_) (fun _ => ?_)
  · walk_at "rdx"
    refine ⟨_, rfl, fun v H1 s1 v0 v1 => ?_⟩
    have bv : Bt 140 v := bt_n (by omega) (by omega)
    walk_at "rdx"
    refine ⟨_, _, rfl, bv.mono (by decide), fun x H2 s2 S2 => ?_⟩
    exact q x _ _ (s1.trans s2) S2 (by rw [shp43_st]; exact bv.mono (by omega))
  walk_at "rdx"
  refine ⟨_, _, rfl, (show Bt 290 0 by unfold Bt; exact Nat.two_pow_pos _), fun z H1 s1 S1 => ?_⟩
  have p0 : 0 < 2 ^ m := Nat.two_pow_pos m
  walk_at "rdx"
  obtain ⟨C, dx, fs, sp, mem, e, lk, use⟩ := S1.ys
  refine ⟨z, C, dx, fs, sp, mem, rfl, e, lk, ?_⟩
  walk_at "rdx"
  have by1 : Bt (m + 2) (y + c / 64 % 3) := by
    unfold Bt at *
    rw [Nat.pow_add]
    omega
  refine use S1 (by1.mono (by omega)) fun H2 s2 => ?_
  have bY : Bt (m + 35) ((shp43 (c / 8) 0).Y (y + c / 64 % 3)) := (CalD.btk (good43 (c / 8) 0) by1 (by rw [shp43_st]; unfold Bt; exact Nat.two_pow_pos _)).mono (by omega)
  walk_at "rdx"
  refine ⟨three, fun l hl => ?_⟩
  have s3 := same_new hl (.lst [.int 0, .int 0, .int (c / 192 % 400)])
  have t3 : upd H2 l (.lst [.int 0, .int 0, .int (c / 192 % 400)]) l = some (.lst (([0, 0, c / 192 % 400] : List Int).map V.int)) := upd_same
  generalize upd H2 l (.lst [.int 0, .int 0, .int (c / 192 % 400)]) = H3 at s3 t3 ⊢
  walk_at "rdx"
  refine rd_ixL (SqL.of t3) (at_pk3 c) ?_
  have ob := pk3_box (a := 0) (b := 0) (c := c / 192 % 400) (i := c % 3) (lo := 0) (hi := 400) (by decide) (by decide) (by omega)
  generalize pk3 0 0 (c / 192 % 400) (c % 3) = off at ob ⊢
  have bS : Bt (m + 37) (k - (shp43 (c / 8) 0).Y (y + c / 64 % 3) - off) := by
    have a : Bt (m + 36) (k - (shp43 (c / 8) 0).Y (y + c / 64 % 3)) := (bk.mono (by omega)).sub bY
    refine a.sub ?_
    have : 2 ^ 9 ≤ 2 ^ (m + 36) := Nat.pow_le_pow_right (by decide) (by omega)
    unfold Bt
    omega
  walk_at "rdx"
  refine ⟨_, _, rfl, bS.mono (by omega), fun x H4 s4 S4 => ?_⟩
  exact q x _ _ (s1.trans (s2.trans (s3.trans s4))) S4 (by rw [shp43_st]; exact bS.mono (by omega))
theorem sc_law_is_date : FnScope ["_law_found"] ["_law_found"] (defScope s_law_is_date) := ⟨rfl, rfl, rfl, by decide +kernel, rfl, by decide +kernel, by decide +kernel⟩
theorem ok_law_is_date {f : Addr} {fd : FuncData} (F : Fun K "_law_is_date" "_law_is_date" s_law_is_date f fd) (c__law_whole : Cal P w K mg base 1 "_law_whole" ["_law_found"] spWhole) (z_isinstance : mg "isinstance" = none) (z_tuple : mg "tuple" = none) (z_len : mg "len" = none) (z_all : mg "all" = none) : FnOk P w K mg base CX0 2 f fd ["_law_found"] spIsDate := by
  refine F.ok (k := 1) sc_law_is_date (fun vs H Q E h => ?_) (fun cdv A outer s H vs Q E hr h => ?_)
  · obtain ⟨p, y, m, r, rfl, _⟩ := h
    rfl
  obtain ⟨p, y, m, r, rfl, hp, q⟩ := h
  refine ⟨_, (pss_cons (ps_if (PW.pt (pw_or (pt_not (pt_val (pe_callB call_isi rfl z_isinstance PyProof.Rows.boot_isinstance (pa_cons (pv 0) (pa_cons (pe_bltn rfl z_tuple PyProof.Rows.boot_tuple (rel_ty _)) pa_nil))))) (pw_or1 (pt_cmpR op_ne (pe_callB call_len_seq rfl z_len PySem.boot_len (pa_cons (pv 0) pa_nil)) pe_int (nomark _)))))
        (pss_one (ps_ret pe_bl))
        pss_nil)
      (pss_one (ps_ret (pe_callB (call_all rfl) rfl z_all PyProof.Rows.boot_all (pa_cons (pe_comp rfl (compOk_nil ["_law_found"] rfl (by decide +kernel) rfl (by decide +kernel) rfl (by decide +kernel) (by decide +kernel)) (pi_tup (pv 0)) (fun _ _ _ _ => pifs_nil) (fun _ _ _ _ => (pe_cal c__law_whole (hr.mono (by decide)) rfl (pa_cons (pv 0) pa_nil)))) pa_nil))))), ?_⟩
  walk_at "rdc"
  refine rd_isi (.tup hp) (kit_tt K) ?_
  walk_at "rdc"
  refine iteF ?_
  walk_at "rdc"
  refine ⟨p, _, rfl, .inr (SqT.of hp), ?_⟩
  walk_at "rdc"
  refine iteNS rfl ?_
  walk_at "rdc"
  refine comp_wholeT (ns := [y, m, r]) rfl (SqT.of hp) (by show 3 ≤ 1000; decide) fun D hD => ?_
  walk_at "rdc"
  refine ⟨D, _, rfl, SqL.of upd_same, ?_⟩
  exact q _ (same_new hD _)
theorem sc_law_change : FnScope ["_law_old", "_law_new", "_law_day", "_law_made_here", "_law_good", "e"] ["_law_old", "_law_new", "_law_day"] (defScope s_law_change) := ⟨rfl, rfl, rfl, by decide +kernel, rfl, by decide +kernel, by decide +kernel⟩
theorem ok_law_change {f : Addr} {fd : FuncData} (F : Fun K "_law_change" "_law_change" s_law_change f fd) (er : Errs K mg c_FeastError c_NoNumber c_NoMeasure c_NoDate c_InGap c_NoChange c_Measure c_Calendar c_Sun c_Moon c_Change) (c_Change___init__ : CalI P w K mg base (CX1 P w) 8 "Change" c_Change ["self", "old", "new", "day"] (spInitC K c_Sun c_Moon c_Measure c_Change c_NoChange 2)) (c_Sun_date_of : CalM P w K mg base CX0 5 c_Sun "date_of" ["self", "day"] (spDate K c_Sun c_Moon c_Measure true)) (c_Moon_date_of : CalM P w K mg base CX0 5 c_Moon "date_of" ["self", "day"] (spDate K c_Sun c_Moon c_Measure false)) (c_Change_date_of_n1 : CalM P w K mg base CX0 7 c_Change "date_of" ["self", "day"] (spDateC K c_Sun c_Moon c_Measure c_Change 1)) (z_isinstance : mg "isinstance" = none) : FnOk P w K mg base CX0 10 f fd ["_law_old", "_law_new", "_law_day"] (spChange43 K c_Sun c_Moon c_Measure c_Change) := by
  refine F.ok (k := 9) sc_law_change (fun vs H Q E h => ?_) (fun cdv A outer s H vs Q E hr h => ?_)
  · obtain ⟨o, n, k, a, b, rfl, _⟩ := h
    rfl
  obtain ⟨o, n, k, a, b, rfl, So, Sn, pa, pb, bk, q⟩ := h
  have ga := So.good
  have gb := Sn.good
  have bk1 : Bt 290 (k - 1) := (bk.sub (Bt.one 139)).mono (by decide)
  refine ⟨_, (pss_cons (ps_set (i := 3) sc_law_change.nd rfl (by first | exact Or.inl rfl | exact Or.inr rfl) pe_non)
      (pss_cons (ps_set (i := 4) sc_law_change.nd rfl (by first | exact Or.inl rfl | exact Or.inr rfl) pe_bl)
      (pss_cons (ps_cut (ps_try rfl rfl (fun _ _ _ T => (pss_one (ps_set (i := 3) sc_law_change.nd rfl (by first | exact Or.inl rfl | exact Or.inr rfl) (pe_mkE T c_Change___init__ (hr.mono (by decide)) rfl (pa_cons (pv 0) (pa_cons (pv 1) (pa_cons (pv 2) pa_nil)))))))
        (phs_consA (i := 5) er.h_NoChange rfl sc_law_change.nd rfl rfl (fun _ => (pss_one (ps_set (i := 4) sc_law_change.nd rfl (by first | exact Or.inl rfl | exact Or.inr rfl) (pe_and (pe_callB call_isiX rfl z_isinstance PyProof.Rows.boot_isinstance (pa_cons (pv 5) (pa_cons (pe_glob rfl er.m_FeastError (rel_ref _)) pa_nil))) (pe_one (pe_not (pe_callB call_isiX rfl z_isinstance PyProof.Rows.boot_isinstance (pa_cons (pv 5) (pa_cons (pe_glob rfl er.m_NoDate (rel_ref _)) pa_nil)))))))))
        phs_nil)))
      (pss_cons (ps_if (PW.pt (pw_or (pt_not (pt_val (pv 4))) (pw_or1 (pt_cmpR op_eq (pe_cmpR op_isN (pv 3) pe_non (nomark _)) (pe_cmpR (op_ltX hr.units0) (pe_mcalL (k := 7) (CalL.cons er.cl_Sun c_Sun_date_of (by decide) (CalL.cons er.cl_Moon c_Moon_date_of (by decide) (CalL.cons er.cl_Change c_Change_date_of_n1 (by decide) CalL.nil))) (hr.mono (by decide)) (pv 0) (pa_cons (pe_op op_sub (pv 2) pe_int) pa_nil)) (pe_mcalL (k := 7) (CalL.cons er.cl_Sun c_Sun_date_of (by decide) (CalL.cons er.cl_Moon c_Moon_date_of (by decide) (CalL.cons er.cl_Change c_Change_date_of_n1 (by decide) CalL.nil))) (hr.mono (by decide)) (pv 1) (pa_cons (pv 2) pa_nil)) (nomark _)) (nomark _)))))
        (pss_one (ps_ret (pe_tup (pa_cons pe_bl (pa_cons pe_non pa_nil)))))
        pss_nil)
      (pss_cons (ps_if (PW.pt (pw_and (pt_cmpR op_notN (pv 3) pe_non (nomark _)) (pw_and1 (pt_not (pt_val (pe_callB call_isiO rfl z_isinstance PyProof.Rows.boot_isinstance (pa_cons (pv 3) (pa_cons (pe_glob rfl er.m_Calendar (rel_ref _)) pa_nil))))))))
        (pss_one (ps_ret (pe_tup (pa_cons pe_bl (pa_cons pe_non pa_nil)))))
        pss_nil)
      (pss_one (ps_ret (pe_tup (pa_cons pe_bl (pa_cons (pv 3) pa_nil)))))))))), ?_⟩
  walk_at "rdx"
  refine rd_cut (fun σ' H' => Same H H' ∧ ∃ (v : V) (w : Option V), σ' = [some (.ref o), some (.ref n), some (.int k), some v, some (.bl true), w] ∧ ((v = .non ∧ ∃ y m r y' m' r', a.D (k - 1) y m r ∧ b.D k y' m' r' ∧ ¬ DLt y m r y' m' r') ∨ ∃ x, v = .ref x ∧ CalH K c_Sun c_Moon c_Measure c_Change H' x (.chg a b k))) ?_ ?_
  · walk_at "rdx"
    refine fun x dx hx hdx ne => ⟨H, x, dx, o, n, a, b, k, rfl, hx, hdx, ne, rfl, So, Sn, pa, pb, bk.mono (by decide), fun y m r y' m' r' D1 D2 => ⟨fun l12 H1 s1 S1 => ⟨rfl, ?_⟩, fun n12 H1 s1 => ?_⟩⟩
    · walk_at "rdx"
      exact ⟨s1, _, _, rfl, .inr ⟨x, rfl, S1⟩⟩
    · intro ea hea
      refine rd_handA er.r_NoChange_NoChange ?_
      have s5 := same_new hea (ExcO ea (.ref c_NoChange) none)
      have t5 : upd H1 ea (ExcO ea (.ref c_NoChange) none) ea = some (ExcO ea (.ref c_NoChange) none) := upd_same
      generalize upd H1 ea (ExcO ea (.ref c_NoChange) none) = H5 at s5 t5 ⊢
      walk_at "rdx"
      refine rd_isiX t5 trivial er.g_NoChange rfl er.i_NoChange_FeastError ?_
      walk_at "rdx"
      refine iteT ?_
      walk_at "rdx"
      refine rd_isiX t5 trivial er.g_NoChange rfl er.i_NoChange_NoDate ?_
      walk_at "rdx"
      exact ⟨s1.trans s5, _, _, rfl, .inl ⟨rfl, y, m, r, y', m', r', D1, D2, n12⟩⟩
  rintro σ' H1 ⟨s1, v, w', rfl, hv⟩
  have So1 := So.same s1
  walk_at "rdx"
  refine iteF ?_
  walk_at "rdx"
  refine ⟨rfl, ?_⟩
  walk_at "rdx"
  obtain ⟨C, dx, fs, sp, mem, e, lk, use⟩ := CalH.dtS 1 So1 pa
  refine ⟨o, C, dx, fs, sp, mem, rfl, e, lk, ?_⟩
  walk_at "rdx"
  refine use So1 bk1 fun p1 y1 m1 r1 H2 s2 t2 D2 _ _ _ => ?_
  clear C dx fs sp mem e lk use
  have Sn2 := (Sn.same s1).same s2
  walk_at "rdx"
  obtain ⟨C, dx, fs, sp, mem, e, lk, use⟩ := CalH.dtS 1 Sn2 pb
  refine ⟨n, C, dx, fs, sp, mem, rfl, e, lk, ?_⟩
  walk_at "rdx"
  refine use Sn2 (bk.mono (by decide)) fun p2 y2 m2 r2 H3 s3 t3 D3 _ _ _ => ?_
  clear C dx fs sp mem e lk use
  refine ⟨p1, p2, [y1, m1, r1], [y2, m2, r2], rfl, rfl, SqT.of (s3 _ _ t2), SqT.of t3, rfl, ?_⟩
  rw [lex_lt]
  walk_at "rdx"
  have s13 := s2.trans s3
  have s03 := s1.trans s13
  have fin : ∀ {H' : Hp}, Same H3 H' → ∀ t, H' t = none → Q (.ref t) (upd H' t (.tup [.bl true, v])) := fun s' t ht => by
    refine q t v _ ((s03.trans s').trans (same_new ht _)) upd_same ?_
    rcases hv with ⟨z, _⟩ | ⟨x, z, S⟩
    · exact .inl z
    · exact .inr ⟨x, z, S.same ((s13.trans s').trans (same_new ht _))⟩
  rcases id hv with ⟨rfl, y, m, r, y', m', r', E1, E2, n12⟩ | ⟨x, rfl, S⟩
  · obtain ⟨rfl, rfl, rfl⟩ := CalT.uniq ga D2 E1
    obtain ⟨rfl, rfl, rfl⟩ := CalT.uniq gb D3 E2
    rw [decide_eq_false n12]
    refine iteF ?_
    walk_at "rdx"
    refine ⟨rfl, ?_⟩
    walk_at "rdx"
    refine iteF (iteF ?_)
    walk_at "rdx"
    exact ⟨two, fin (Same.refl _)⟩
  · have l12 : DLt y1 m1 r1 y2 m2 r2 := by
      obtain ⟨_, _, _, _, _, u1, u2, u3, v1, v2, v3, _, _, _, _, _, E1, E2, l, _⟩ := S
      obtain ⟨rfl, rfl, rfl⟩ := CalT.uniq ga D2 E1
      obtain ⟨rfl, rfl, rfl⟩ := CalT.uniq gb D3 E2
      exact l
    obtain ⟨dxx, _, _, _, _, _, _, _, _, _, _, hx, _⟩ := S.same s13
    rw [decide_eq_true l12]
    refine iteF ?_
    walk_at "rdx"
    refine ⟨rfl, ?_⟩
    walk_at "rdx"
    refine iteT ?_
    walk_at "rdx"
    refine rd_isiO (.ins hx er.cl_Change er.kc_Change er.ksp er.ktk er.ko_Change) er.is_Change_Calendar ?_
    walk_at "rdx"
    refine iteF ?_
    walk_at "rdx"
    exact ⟨two, fin (Same.refl _)⟩
theorem sc_law_held : FnScope ["_law_change_here", "_law_old", "_law_new", "_law_day", "_law_some", "_law_one", "_law_date", "_law_due"] ["_law_change_here", "_law_old", "_law_new", "_law_day", "_law_some"] (defScope s_law_held) := ⟨rfl, rfl, rfl, by decide +kernel, rfl, by decide +kernel, by decide +kernel⟩
theorem ok_law_held {f : Addr} {fd : FuncData} (F : Fun K "_law_held" "_law_held" s_law_held f fd) (er : Errs K mg c_FeastError c_NoNumber c_NoMeasure c_NoDate c_InGap c_NoChange c_Measure c_Calendar c_Sun c_Moon c_Change) (c_Sun_date_of : CalM P w K mg base CX0 5 c_Sun "date_of" ["self", "day"] (spDate K c_Sun c_Moon c_Measure true)) (c_Moon_date_of : CalM P w K mg base CX0 5 c_Moon "date_of" ["self", "day"] (spDate K c_Sun c_Moon c_Measure false)) (c_Change_date_of : CalM P w K mg base CX0 8 c_Change "date_of" ["self", "day"] (spDateC K c_Sun c_Moon c_Measure c_Change 2)) (c__law_is_date : Cal P w K mg base 2 "_law_is_date" ["_law_found"] spIsDate) (c_Sun_day_of : CalM P w K mg base (CX1 P w) 4 c_Sun "day_of" ["self", "date"] (spDayE K c_Sun c_Moon c_Measure c_NoDate true)) (c_Moon_day_of : CalM P w K mg base (CX1 P w) 4 c_Moon "day_of" ["self", "date"] (spDayE K c_Sun c_Moon c_Measure c_NoDate false)) (c_Change_day_of : CalM P w K mg base (CX1 P w) 7 c_Change "day_of" ["self", "date"] (spDayC K c_Sun c_Moon c_Measure c_Change c_NoDate c_InGap 2)) : FnOk P w K mg base CX0 9 f fd ["_law_change_here", "_law_old", "_law_new", "_law_day", "_law_some"] (spHeld43 K c_Sun c_Moon c_Measure c_Change) := by
  refine F.ok (k := 8) sc_law_held (fun vs H Q E h => ?_) (fun cdv A outer s H vs Q E hr h => ?_)
  · obtain ⟨x, o, n, l, k, a, b, ds, rfl, _⟩ := h
    rfl
  obtain ⟨x, o, n, l, k, a, b, ds, rfl, S, So, Sn, pa, pb, hl, hb, q⟩ := h
  have g := S.good
  have pc : (CalT.chg a b k).deep ≤ 3 := by show max a.deep b.deep + 1 ≤ 3; omega
  refine ⟨_, (pss_cons (ps_for PassesOwn.never rfl (pi_list (pv 4)) (pg_name (i := 5) sc_law_held.nd rfl (by first | exact Or.inl rfl | exact Or.inr rfl))
        (pss_cons (ps_set (i := 6) sc_law_held.nd rfl (by first | exact Or.inl rfl | exact Or.inr rfl) (pe_mcalL (k := 8) (CalL.cons er.cl_Sun c_Sun_date_of (by decide) (CalL.cons er.cl_Moon c_Moon_date_of (by decide) (CalL.cons er.cl_Change c_Change_date_of (by decide) CalL.nil))) (hr.mono (by decide)) (pv 0) (pa_cons (pv 5) pa_nil)))
      (pss_cons (ps_set (i := 7) sc_law_held.nd rfl (by first | exact Or.inl rfl | exact Or.inr rfl) (pe_mcalL (k := 8) (CalL.cons er.cl_Sun c_Sun_date_of (by decide) (CalL.cons er.cl_Moon c_Moon_date_of (by decide) (CalL.cons er.cl_Change c_Change_date_of (by decide) CalL.nil))) (hr.mono (by decide)) (pv 2) (pa_cons (pv 5) pa_nil)))
      (pss_cons (ps_cut (ps_if (pt_cmpR op_lt (pv 5) (pv 3) (nomark _))
        (pss_one (ps_set (i := 7) sc_law_held.nd rfl (by first | exact Or.inl rfl | exact Or.inr rfl) (pe_mcalL (k := 8) (CalL.cons er.cl_Sun c_Sun_date_of (by decide) (CalL.cons er.cl_Moon c_Moon_date_of (by decide) (CalL.cons er.cl_Change c_Change_date_of (by decide) CalL.nil))) (hr.mono (by decide)) (pv 1) (pa_cons (pv 5) pa_nil))))
        pss_nil))
      (pss_cons (ps_if (PW.pt (pw_or (pt_not (pt_val (pe_cal c__law_is_date (hr.mono (by decide)) rfl (pa_cons (pv 6) pa_nil)))) (pw_or (pt_cmpR (op_neT hr.units0) (pv 6) (pv 7) (nomark _)) (pw_or1 (pt_cmpR op_ne (pe_mcalLE (k := 7) thr_never (CalL.cons er.cl_Sun c_Sun_day_of (by decide) (CalL.cons er.cl_Moon c_Moon_day_of (by decide) (CalL.cons er.cl_Change c_Change_day_of (by decide) CalL.nil))) (hr.mono (by decide)) (pv 0) (pa_cons (pv 6) pa_nil)) (pv 5) (nomark _))))))
        (pss_one (ps_ret pe_bl))
        pss_nil)
      (pss_one (ps_if (pt_not (pt_cmpR (op_ltX hr.units0) (pv 6) (pe_mcalL (k := 8) (CalL.cons er.cl_Sun c_Sun_date_of (by decide) (CalL.cons er.cl_Moon c_Moon_date_of (by decide) (CalL.cons er.cl_Change c_Change_date_of (by decide) CalL.nil))) (hr.mono (by decide)) (pv 0) (pa_cons (pe_op op_add (pv 5) pe_int) pa_nil)) (nomark _)))
        (pss_one (ps_ret pe_bl))
        pss_nil)))))))
      (pss_one (ps_ret pe_bl))), ?_⟩
  walk_at "rdx"
  walk_at "rdf"
  walk_at "rdx"
  refine ⟨l, rfl, ⟨_, SqL.of hl⟩, for_list (xs := ds.map V.int) (fun i σ' H' => Same H H' ∧ ∃ w5 w6 w7 : Option V, σ' = [some (.ref x), some (.ref o), some (.ref n), some (.int k), some (.ref l), w5, w6, w7]) ⟨Same.refl _, none, none, none, rfl⟩ ?_ ?_ ?_⟩
  · rintro i σ' H' _ ⟨s, _⟩
    exact SqL.of (s _ _ hl)
  · rintro i v σ' H1 hv ⟨s1, w5, w6, w7, rfl⟩
    rw [List.getElem?_map] at hv
    obtain ⟨d, hd, rfl⟩ := Option.map_eq_some_iff.mp hv
    have bd := hb d (List.mem_of_getElem? hd)
    have bd0 : Bt 290 d := bd.mono (by decide)
    have bd1 : Bt 290 (d + 1) := (bd.add (Bt.one 279)).mono (by decide)
    have S1 := S.same s1
    walk_at "rdx"
    obtain ⟨C, dx, fs, sp, mem, e, lk, use⟩ := CalH.dtS 2 S1 pc
    refine ⟨x, C, dx, fs, sp, mem, rfl, e, lk, ?_⟩
    walk_at "rdx"
    refine use S1 bd0 fun p1 y1 m1 r1 H2 s2 t2 D2 b1 b2 b3 => ?_
    clear C dx fs sp mem e lk use
    have s02 := s1.trans s2
    have Sn2 := Sn.same s02
    walk_at "rdx"
    obtain ⟨C, dx, fs, sp, mem, e, lk, use⟩ := CalH.dtS 2 Sn2 (by omega)
    refine ⟨n, C, dx, fs, sp, mem, rfl, e, lk, ?_⟩
    walk_at "rdx"
    refine use Sn2 bd0 fun p2 y2 m2 r2 H3 s3 t3 D3 _ _ _ => ?_
    clear C dx fs sp mem e lk use
    have s03 := s02.trans s3
    have t23 := s3 _ _ t2
    walk_at "rdx"
    refine rd_cut (fun σ' H' => Same H3 H' ∧ ∃ (p : Addr), σ' = [some (.ref x), some (.ref o), some (.ref n), some (.int k), some (.ref l), some (.int d), some (.ref p1), some (.ref p)] ∧ H' p = some (.tup [.int y1, .int m1, .int r1])) ?_ ?_
    · walk_at "rdx"
      by_cases c1 : d < k
      · refine iteD c1 ?_
        walk_at "rdx"
        have So3 := So.same s03
        obtain ⟨C, dx, fs, sp, mem, e, lk, use⟩ := CalH.dtS 2 So3 (by omega)
        refine ⟨o, C, dx, fs, sp, mem, rfl, e, lk, ?_⟩
        walk_at "rdx"
        refine use So3 bd0 fun p3 y3 m3 r3 H4 s4 t4 D4 _ _ _ => ?_
        obtain ⟨rfl, rfl, rfl⟩ := CalT.uniq g D2 (.inl ⟨c1, D4⟩)
        walk_at "rdx"
        exact ⟨s4, p3, rfl, t4⟩
      · refine iteN c1 ?_
        obtain ⟨rfl, rfl, rfl⟩ := CalT.uniq g D2 (.inr ⟨by omega, D3⟩)
        walk_at "rdx"
        exact ⟨Same.refl _, p2, rfl, t3⟩
    clear D3 t3
    rintro σ' H4 ⟨s4, p, rfl, tp⟩
    have s04 := s03.trans s4
    have t24 := s4 _ _ t23
    walk_at "rdx"
    refine ⟨p1, y1, m1, r1, rfl, t24, fun H5 s5 => ?_⟩
    have s05 := s04.trans s5
    have t25 := s5 _ _ t24
    have tp5 := s5 _ _ tp
    walk_at "rdx"
    refine iteF ?_
    walk_at "rdx"
    refine rd_neT (SqT.of t25) (SqT.of tp5) rfl rfl ?_
    rw [eq3 rfl rfl rfl]
    walk_at "rdx"
    refine iteF ?_
    walk_at "rdx"
    have S5 := S.same s05
    have oo := CalT.day_out g D2
    have onl : ∀ {z : Fw.Out}, (CalT.chg a b k).Out y1 m1 r1 z → z = .day d := fun h => CalT.out_uniq g h oo
    obtain ⟨C, dx, fs, sp, mem, e, lk, use⟩ := CalH.dyS (cD := c_NoDate) (cG := c_InGap) 2 S5 pc
    refine ⟨x, C, dx, fs, sp, mem, rfl, e, lk, ?_⟩
    walk_at "rdx"
    refine use S5 (SqT.of t25) b1 b2 b3 ⟨fun n' hn' H6 s6 => ?_, fun h => (by cases onl h), fun _ h => (by cases onl h)⟩
    clear C dx fs sp mem e lk use
    obtain rfl : n' = d := by injection onl hn'
    have s06 := s05.trans s6
    have t26 := s6 _ _ t25
    walk_at "rdx"
    refine iteNS rfl ?_
    walk_at "rdx"
    have S6 := S.same s06
    obtain ⟨C, dx, fs, sp, mem, e, lk, use⟩ := CalH.dtS 2 S6 pc
    refine ⟨x, C, dx, fs, sp, mem, rfl, e, lk, ?_⟩
    walk_at "rdx"
    refine use S6 bd1 fun p7 y7 m7 r7 H7 s7 t7 D7 _ _ _ => ?_
    clear C dx fs sp mem e lk use
    have lt := CalT.mono g D2 D7 (by omega)
    refine ⟨p1, p7, [y1, m1, r1], [y7, m7, r7], rfl, rfl, SqT.of (s7 _ _ t26), SqT.of t7, rfl, ?_⟩
    rw [lex_lt, decide_eq_true lt]
    walk_at "rdx"
    refine iteF ?_
    walk_at "rdx"
    exact ⟨s06.trans s7, _, _, _, rfl⟩
  · rintro σ' H1 ⟨s1, w5, w6, w7, rfl⟩
    walk_at "rdx"
    exact q _ s1
theorem sc_law : FnScope ["_law_script", "_law_told", "_law_days", "_law_made_here", "_law_cell", "_law_some", "_law_day", "_law_old", "_law_new", "_law_good", "_law_change_here"] ["_law_script"] (defScope s_law) := ⟨rfl, rfl, rfl, by decide +kernel, rfl, by decide +kernel, by decide +kernel⟩
theorem ok_law {f : Addr} {fd : FuncData} (F : Fun K "law" "law" s_law f fd) (er : Errs K mg c_FeastError c_NoNumber c_NoMeasure c_NoDate c_InGap c_NoChange c_Measure c_Calendar c_Sun c_Moon c_Change) (c__law_made : Cal P w K mg base 9 "_law_made" ["_law_cell", "_law_start"] (spMade43 K c_Sun c_Moon c_Measure)) (c__law_cell_at : Cal P w K mg base 1 "_law_cell_at" ["_law_script", "_law_k"] (spCell K)) (c__law_number : Cal P w K mg base 1 "_law_number" ["_law_cell"] spNumB) (c__law_begun : Cal P w K mg base 10 "_law_begun" ["_law_cell", "_law_year", "_law_day"] (spBegun43 K c_Sun c_Moon c_Measure)) (c_Sun_date_of : CalM P w K mg base CX0 5 c_Sun "date_of" ["self", "day"] (spDate K c_Sun c_Moon c_Measure true)) (c_Moon_date_of : CalM P w K mg base CX0 5 c_Moon "date_of" ["self", "day"] (spDate K c_Sun c_Moon c_Measure false)) (c_Change_date_of : CalM P w K mg base CX0 8 c_Change "date_of" ["self", "day"] (spDateC K c_Sun c_Moon c_Measure c_Change 2)) (c__law_change : Cal P w K mg base 10 "_law_change" ["_law_old", "_law_new", "_law_day"] (spChange43 K c_Sun c_Moon c_Measure c_Change)) (c__law_held : Cal P w K mg base 9 "_law_held" ["_law_change_here", "_law_old", "_law_new", "_law_day", "_law_some"] (spHeld43 K c_Sun c_Moon c_Measure c_Change)) (z_all : mg "all" = none) : FnOk P w K mg base CX0 11 f fd ["_law_script"] (spLaw K) := by
  refine F.ok (k := 10) sc_law (fun vs H Q E h => ?_) (fun cdv A outer s H vs Q E hr h => ?_)
  · obtain ⟨a, ns, rfl, _⟩ := h
    rfl
  obtain ⟨a, ns, rfl, hS, h63, hB, q⟩ := h
  refine ⟨_, (pss_cons (ps_set (i := 1) sc_law.nd rfl (by first | exact Or.inl rfl | exact Or.inr rfl) (pe_cal c__law_made (hr.mono (by decide)) rfl (pa_cons (pe_cal c__law_cell_at (hr.mono (by decide)) rfl (pa_cons (pv 0) (pa_cons pe_int pa_nil))) (pa_cons (pe_cal c__law_number (hr.mono (by decide)) rfl (pa_cons (pe_cal c__law_cell_at (hr.mono (by decide)) rfl (pa_cons (pv 0) (pa_cons pe_int pa_nil))) pa_nil)) pa_nil))))
      (pss_cons (ps_set (i := 2) sc_law.nd rfl (by first | exact Or.inl rfl | exact Or.inr rfl) (pe_lst (pa_cons (pe_cal c__law_number (hr.mono (by decide)) rfl (pa_cons (pe_cal c__law_cell_at (hr.mono (by decide)) rfl (pa_cons (pv 0) (pa_cons pe_int pa_nil))) pa_nil)) pa_nil)))
      (pss_cons (ps_set (i := 3) sc_law.nd rfl (by first | exact Or.inl rfl | exact Or.inr rfl) (pe_lst pa_nil))
      (pss_cons (ps_for PassesOwn.never rfl (pi_list (pe_slice sl_list (pv 0) (po_some pe_int) (po_some pe_int))) (pg_name (i := 4) sc_law.nd rfl (by first | exact Or.inl rfl | exact Or.inr rfl))
        (pss_cons (ps_set (i := 6) sc_law.nd rfl (by first | exact Or.inl rfl | exact Or.inr rfl) (pe_cal c__law_number (hr.mono (by decide)) rfl (pa_cons (pe_op op_fdivB (pv 4) pe_int) pa_nil)))
      (pss_cons (ps_cut (ps_if (pt_cmpR op_eq (pe_op op_mod (pv 4) pe_int) pe_int (nomark _))
        (pss_one (ps_set (i := 6) sc_law.nd rfl (by first | exact Or.inl rfl | exact Or.inr rfl) (pe_op op_sub (pe_op op_add (pe_ix ix_list (pv 2) pe_int (fun _ _ => rfl)) (pe_op op_mod (pe_op op_fdivB (pv 4) pe_int) pe_int)) pe_int)))
        pss_nil))
      (pss_cons (ps_set (i := 7) sc_law.nd rfl (by first | exact Or.inl rfl | exact Or.inr rfl) (pv 1))
      (pss_cons (ps_set (i := 8) sc_law.nd rfl (by first | exact Or.inl rfl | exact Or.inr rfl) (pe_cal c__law_begun (hr.mono (by decide)) rfl (pa_cons (pe_op op_fdivB (pv 4) pe_int) (pa_cons (pe_ix ix_tup (pe_mcalL (k := 8) (CalL.cons er.cl_Sun c_Sun_date_of (by decide) (CalL.cons er.cl_Moon c_Moon_date_of (by decide) (CalL.cons er.cl_Change c_Change_date_of (by decide) CalL.nil))) (hr.mono (by decide)) (pv 1) (pa_cons (pe_op op_sub (pv 6) pe_int) pa_nil)) pe_int (fun _ _ => rfl)) (pa_cons (pv 6) pa_nil)))))
      (pss_cons (ps_cut (ps_if (pt_cmpR op_eq (pe_op op_mod (pv 4) pe_int) pe_int (nomark _))
        (pss_one (ps_set (i := 8) sc_law.nd rfl (by first | exact Or.inl rfl | exact Or.inr rfl) (pe_cal c__law_made (hr.mono (by decide)) rfl (pa_cons (pe_cal c__law_cell_at (hr.mono (by decide)) rfl (pa_cons (pv 0) (pa_cons pe_int pa_nil))) (pa_cons (pe_op op_sub (pe_op op_add (pe_cal c__law_number (hr.mono (by decide)) rfl (pa_cons (pe_cal c__law_cell_at (hr.mono (by decide)) rfl (pa_cons (pv 0) (pa_cons pe_int pa_nil))) pa_nil)) (pe_op op_mod (pe_op op_fdivB (pv 4) pe_int) pe_int)) pe_int) pa_nil)))))
        pss_nil))
      (pss_cons (ps_cut (ps_if (pt_cmpR op_eq (pe_op op_mod (pv 4) pe_int) pe_int (nomark _))
        (pss_cons (ps_set (i := 7) sc_law.nd rfl (by first | exact Or.inl rfl | exact Or.inr rfl) (pv 8))
      (pss_one (ps_set (i := 8) sc_law.nd rfl (by first | exact Or.inl rfl | exact Or.inr rfl) (pv 1))))
        pss_nil))
      (pss_cons (ps_asg (pe_cal c__law_change (hr.mono (by decide)) rfl (pa_cons (pv 7) (pa_cons (pv 8) (pa_cons (pv 6) pa_nil)))) (pg_tup rfl (pgs_cons (pg_name (i := 9) sc_law.nd rfl (by first | exact Or.inl rfl | exact Or.inr rfl)) (pgs_cons (pg_name (i := 10) sc_law.nd rfl (by first | exact Or.inl rfl | exact Or.inr rfl)) pgs_nil))))
      (pss_cons (ps_if (pt_not (pt_val (pv 9)))
        (pss_one (ps_ret pe_bl))
        pss_nil)
      (pss_cons (ps_expr (pe_bm PySem.F.plainAttrs_list PySem.F.slot_list_append PySem.F.type_list_append mt_append (pv 2) (pa_cons (pv 6) pa_nil)))
      (pss_one (ps_cut (ps_if (pt_cmpR op_notN (pv 10) pe_non (nomark _))
        (pss_cons (ps_expr (pe_bm PySem.F.plainAttrs_list PySem.F.slot_list_append PySem.F.type_list_append mt_append (pv 3) (pa_cons (pe_tup (pa_cons (pv 10) (pa_cons (pv 7) (pa_cons (pv 8) (pa_cons (pv 6) pa_nil))))) pa_nil)))
      (pss_one (ps_set (i := 1) sc_law.nd rfl (by first | exact Or.inl rfl | exact Or.inr rfl) (pv 10))))
        pss_nil)))))))))))))
      (pss_cons (ps_set (i := 5) sc_law.nd rfl (by first | exact Or.inl rfl | exact Or.inr rfl) (pe_lst pa_nil))
      (pss_cons (ps_for PassesOwn.never rfl (pi_list (pv 2)) (pg_name (i := 6) sc_law.nd rfl (by first | exact Or.inl rfl | exact Or.inr rfl))
        (pss_one (ps_set (i := 5) sc_law.nd rfl (by first | exact Or.inl rfl | exact Or.inr rfl) (pe_op op_cat (pv 5) (pe_lst (pa_cons (pe_op op_sub (pv 6) pe_int) (pa_cons (pe_op op_sub (pe_op op_add (pv 6) (pe_op op_mod (pe_cal c__law_cell_at (hr.mono (by decide)) rfl (pa_cons (pv 0) (pa_cons pe_int pa_nil))) pe_int)) pe_int) pa_nil)))))))
      (pss_cons (ps_expr (pe_bm PySem.F.plainAttrs_list PySem.F.slot_list_append PySem.F.type_list_append mt_append (pv 5) (pa_cons (pe_cal c__law_number (hr.mono (by decide)) rfl (pa_cons (pe_cal c__law_cell_at (hr.mono (by decide)) rfl (pa_cons (pv 0) (pa_cons pe_int pa_nil))) pa_nil)) pa_nil)))
      (pss_one (ps_ret (pe_callB (call_all rfl) rfl z_all PyProof.Rows.boot_all (pa_cons (pe_compT (xs := ["_law_change_here", "_law_old", "_law_new", "_law_day"]) rfl (compOkT_freeM ["_law_change_here", "_law_old", "_law_new", "_law_day"] ["_law_script", "_law_told", "_law_days", "_law_made_here", "_law_cell", "_law_some", ".._law_day", ".._law_old", ".._law_new", "_law_good", ".._law_change_here"] ["_law_script", "_law_told", "_law_days", "_law_made_here", "_law_cell", "_law_some", "_law_day", "_law_old", "_law_new", "_law_good", "_law_change_here"] rfl rfl (by with_unfolding_all rfl) (by decide +kernel) rfl (by decide +kernel) (by decide +kernel) (by decide +kernel) (by walk_at "fm") (by with_unfolding_all rfl) (by with_unfolding_all rfl)) (pi_list (pv 3)) (fun _ _ _ _ => pifs_nil) (fun _ _ _ _ => (pg_tup_c (n := 4) rfl (pgs_cons (pg_name (i := 0) (show (["_law_change_here", "_law_old", "_law_new", "_law_day", "_law_script", "_law_told", "_law_days", "_law_made_here", "_law_cell", "_law_some", ".._law_day", ".._law_old", ".._law_new", "_law_good", ".._law_change_here"] : List Str).Nodup from by decide +kernel) rfl (by first | exact Or.inl rfl | exact Or.inr rfl)) (pgs_cons (pg_name (i := 1) (show (["_law_change_here", "_law_old", "_law_new", "_law_day", "_law_script", "_law_told", "_law_days", "_law_made_here", "_law_cell", "_law_some", ".._law_day", ".._law_old", ".._law_new", "_law_good", ".._law_change_here"] : List Str).Nodup from by decide +kernel) rfl (by first | exact Or.inl rfl | exact Or.inr rfl)) (pgs_cons (pg_name (i := 2) (show (["_law_change_here", "_law_old", "_law_new", "_law_day", "_law_script", "_law_told", "_law_days", "_law_made_here", "_law_cell", "_law_some", ".._law_day", ".._law_old", ".._law_new", "_law_good", ".._law_change_here"] : List Str).Nodup from by decide +kernel) rfl (by first | exact Or.inl rfl | exact Or.inr rfl)) (pgs_cons (pg_name (i := 3) (show (["_law_change_here", "_law_old", "_law_new", "_law_day", "_law_script", "_law_told", "_law_days", "_law_made_here", "_law_cell", "_law_some", ".._law_day", ".._law_old", ".._law_new", "_law_good", ".._law_change_here"] : List Str).Nodup from by decide +kernel) rfl (by first | exact Or.inl rfl | exact Or.inr rfl)) pgs_nil)))))) (fun _ _ _ _ => (pe_cal c__law_held (hr.mono (by decide)) rfl (pa_cons (pv 0) (pa_cons (pv 1) (pa_cons (pv 2) (pa_cons (pv 3) (pa_cons (pv 9) pa_nil)))))))) pa_nil))))))))))), ?_⟩
  walk_at "rdc"
  refine ⟨_, rfl, fun u1 H1 s1 u10 u11 => ?_⟩
  have hS1 := s1.seq hS
  have bu1 : Bt 140 u1 := bt_n (by omega) (by omega)
  walk_at "rdc"
  refine ⟨_, _, rfl, bu1.mono (by decide), fun x0 H2 s2 S2 => ?_⟩
  obtain ⟨d0, S2, bd0⟩ : ∃ d, CalO K c_Sun c_Moon c_Measure H2 x0 d ∧ Bt 140 d.st := ⟨_, S2, by rw [shp43_st]; exact bu1⟩
  have hS2 := s2.seq hS1
  walk_at "rdc"
  refine ⟨_, rfl, fun e0 H3 s3 e00 e01 => ?_⟩
  have hS3 := s3.seq hS2
  walk_at "rdc"
  refine ⟨(by show 1 ≤ sizeLine; decide), fun lD hlD => ?_⟩
  have s4 := same_new hlD (.lst [.int e0])
  have t4 : upd H3 lD (.lst [.int e0]) lD = some (.lst (([e0] : List Int).map V.int)) := upd_same
  generalize upd H3 lD (.lst [.int e0]) = H4 at s4 t4 ⊢
  walk_at "rdc"
  refine ⟨Nat.zero_le _, fun lM hlM => ?_⟩
  have s5 := same_new hlM (.lst [])
  have t5 : upd H4 lM (.lst []) lM = some (.lst []) := upd_same
  generalize upd H4 lM (.lst []) = H5 at s5 t5 ⊢
  have nDM : lD ≠ lM := ne_of_none t4 hlM
  have hS5 := (s4.trans s5).seq hS3
  walk_at "rdc"
  walk_at "rdf"
  walk_at "rdc"
  refine rd_slL hS5 fun lS hlS => ?_
  have cl := cut_len (ns.map V.int) 3 6
  have s6 := same_new hlS (.lst (cutV (ns.map V.int) (some 3) (some 6)))
  have t6 : upd H5 lS (.lst (cutV (ns.map V.int) (some 3) (some 6))) lS = some (.lst (cutV (ns.map V.int) (some 3) (some 6))) := upd_same
  generalize upd H5 lS (.lst (cutV (ns.map V.int) (some 3) (some 6))) = H6 at s6 t6 ⊢
  replace cl : (cutV (ns.map V.int) (some 3) (some 6)).length ≤ 3 ∧ ∀ v ∈ cutV (ns.map V.int) (some 3) (some 6), v ∈ ns.map V.int := cl
  generalize cutV (ns.map V.int) (some 3) (some 6) = xsS at cl t6 ⊢
  have nDS : lS ≠ lD := Ne.symm (ne_of_none (s5 _ _ t4) hlS)
  have nMS : lS ≠ lM := Ne.symm (ne_of_none t5 hlS)
  have fD : H3 lD = none := hlD
  have fM : H3 lM = none := s4.free hlM
  have s36 := s4.trans (s5.trans s6)
  have S6 : CalH K c_Sun c_Moon c_Measure c_Change H6 x0 (.one d0) := CalO.same S2 (s3.trans s36)
  refine ⟨lS, rfl, ⟨_, SqL.of t6⟩, for_list (xs := xsS) (fun i σ' H' => Same H3 H' ∧ H' lS = some (.lst xsS) ∧ ∃ (x : Addr) (c : CalT) (ds : List Int) (us : List V) (w4 w6 w7 w8 w9 w10 : Option V), σ' = [some (.ref a), some (.ref x), some (.ref lD), some (.ref lM), w4, none, w6, w7, w8, w9, w10] ∧ CalH K c_Sun c_Moon c_Measure c_Change H' x c ∧ c.deep ≤ i ∧ c.bd (140 + 40 * i) ∧ H' lD = some (.lst ((e0 :: ds).map V.int)) ∧ ds.length ≤ i ∧ (∀ d ∈ ds, -10000000000000000000000000000000000010000 ≤ d ∧ d ≤ 10000000000000000000000000000000000010000) ∧ H' lM = some (.lst us) ∧ us.length ≤ i ∧ (∀ v ∈ us, Ent K c_Sun c_Moon c_Measure c_Change H' v))
    ⟨s36, t6, x0, .one d0, [], [], none, none, none, none, none, none, rfl, S6, Nat.zero_le _, bd0, s6 _ _ (s5 _ _ t4), Nat.le_refl _, (fun d hd => nomatch hd), s6 _ _ t5, Nat.le_refl _, (fun v hv => nomatch hv)⟩ ?_ ?_ ?_⟩
  · rintro i σ' H' _ ⟨_, h, _⟩
    exact SqL.of h
  · rintro i v σ' HA hv ⟨sA, lSA, x, c, ds, us, w4, w6, w7, w8, w9, w10, rfl, SA, pA, cb, lDA, dl, db, lMA, ul, uE⟩
    have i3 : i < 3 := by
      have := (List.getElem?_eq_some_iff.mp hv).1
      omega
    obtain ⟨cl', _, rfl⟩ := List.mem_map.mp (cl.2 v (List.mem_of_getElem? hv))
    have g := SA.good
    have hSA := sA.seq hS3
    walk_at "rdc"
    refine ⟨_, rfl, fun k0 HB sB k00 k01 => ?_⟩
    have hSB := sB.seq hSA
    walk_at "rdc"
    refine rd_cut (fun σ' H' => H' = HB ∧ ∃ k : Int, σ' = [some (.ref a), some (.ref x), some (.ref lD), some (.ref lM), some (.int cl'), none, some (.int k), w7, w8, w9, w10] ∧ -10000000000000000000000000000000000010000 ≤ k ∧ k ≤ 10000000000000000000000000000000000010000) ?_ ?_
    · walk_at "rdc"
      refine ite2d (fun _ => ?_) (fun _ => ?_)
      · walk_at "rdc"
        refine rd_ixL (SqL.of (sB _ _ lDA)) (v := .int e0) (atI_nat (xs := (e0 :: ds).map V.int) (j := 0) (v := .int e0) rfl) ?_
        walk_at "rdc"
        exact ⟨rfl, _, rfl, by omega, by omega⟩
      · walk_at "rdc"
        exact ⟨rfl, k0, rfl, by omega, by omega⟩
    rintro σ' HB' ⟨rfl, k, rfl, kb0, kb1⟩
    have bk : Bt 140 k := bt_n (by omega) (by omega)
    have bk1 : Bt 140 (k - 1) := bt_n (by omega) (by omega)
    have SB := SA.same sB
    walk_at "rdc"
    obtain ⟨C, dx, fs, sp, mem, e, lk, use⟩ := CalH.dtS 2 SB (by omega)
    refine ⟨x, C, dx, fs, sp, mem, rfl, e, lk, ?_⟩
    walk_at "rdc"
    refine use SB (bk1.mono (by decide)) fun p1 y1 m1 r1 HC sC tC DC _ _ _ => ?_
    clear C dx fs sp mem e lk use
    have by1 : Bt (140 + 40 * i + 2) y1 := CalT.yb g cb (bk1.mono (by omega)) DC
    have hSC := sC.seq hSB
    walk_at "rdc"
    refine rd_ixT (SqT.of tC) rfl ?_
    walk_at "rdc"
    refine ⟨_, y1, k, 140 + 40 * i + 2, rfl, by omega, by omega, by1, bk.mono (by omega), fun xn dn HD sD SD bD => ?_⟩
    have hSD := sD.seq hSC
    have sBD := sC.trans sD
    have SDx := SB.same sBD
    have SDn : CalH K c_Sun c_Moon c_Measure c_Change HD xn (.one dn) := SD
    walk_at "rdc"
    refine rd_cut (fun σ' H' => Same HD H' ∧ ∃ (xn : Addr) (dn : CalD), σ' = [some (.ref a), some (.ref x), some (.ref lD), some (.ref lM), some (.int cl'), none, some (.int k), some (.ref x), some (.ref xn), w9, w10] ∧ CalH K c_Sun c_Moon c_Measure c_Change H' xn (.one dn) ∧ Bt (140 + 40 * (i + 1)) dn.st) ?_ ?_
    · walk_at "rdc"
      refine ite2d (fun _ => ?_) (fun _ => ?_)
      · walk_at "rdc"
        refine ⟨_, rfl, fun u2 HE sE u20 u21 => ?_⟩
        walk_at "rdc"
        have bu2 : Bt 140 (u2 + cl' / 96 % 4 - 1) := bt_n (by omega) (by omega)
        refine ⟨_, _, rfl, bu2.mono (by decide), fun xn' HF sF' SF => ?_⟩
        walk_at "rdc"
        exact ⟨sE.trans sF', xn', _, rfl, SF, by rw [shp43_st]; exact bu2.mono (by omega)⟩
      · walk_at "rdc"
        exact ⟨Same.refl _, xn, dn, rfl, SDn, bD.mono (by omega)⟩
    clear SDn SD bD
    rintro σ' HE ⟨sE, xn, dn, rfl, SEn, bE⟩
    have SEx := SDx.same sE
    have cb' : c.bd (140 + 40 * (i + 1)) := CalT.bd_mono (by omega) cb
    walk_at "rdc"
    refine rd_cut (fun σ' H' => H' = HE ∧ ∃ (xo xn : Addr) (co cn : CalT), σ' = [some (.ref a), some (.ref x), some (.ref lD), some (.ref lM), some (.int cl'), none, some (.int k), some (.ref xo), some (.ref xn), w9, w10] ∧ CalH K c_Sun c_Moon c_Measure c_Change HE xo co ∧ CalH K c_Sun c_Moon c_Measure c_Change HE xn cn ∧ co.deep ≤ i ∧ cn.deep ≤ i ∧ co.bd (140 + 40 * (i + 1)) ∧ cn.bd (140 + 40 * (i + 1))) ?_ ?_
    · walk_at "rdc"
      refine ite2d (fun _ => ?_) (fun _ => ?_)
      · walk_at "rdc"
        exact ⟨rfl, xn, x, .one dn, c, rfl, SEn, SEx, Nat.zero_le _, pA, bE, cb'⟩
      · walk_at "rdc"
        exact ⟨rfl, x, xn, c, .one dn, rfl, SEx, SEn, pA, Nat.zero_le _, cb', bE⟩
    clear SEn bE
    rintro σ' HE' ⟨rfl, xo, xn, co, cn, rfl, So, Sn, po, pn, ob, nb⟩
    walk_at "rdc"
    refine ⟨xo, xn, k, co, cn, rfl, So, Sn, by omega, by omega, bk, fun t w HF sF' tF hw => ?_⟩
    have sAF := (sB.trans sBD).trans (sE.trans sF')
    have s3F := sA.trans sAF
    walk_at "rdc"
    refine rd_gtup (SqT.of tF) rfl ?_
    refine ⟨_, _, rfl, ?_⟩
    walk_at "rdc"
    refine iteF ?_
    walk_at "rdc"
    have lDF := sAF _ _ lDA
    refine rd_append rfl lDF ?_
    walk_at "rdc"
    refine rd_app lDF (small1000 (by rw [List.length_map, List.length_cons]; omega)) ?_
    have but1 : But lD HF (upd HF lD (.lst ((e0 :: ds).map V.int ++ [.int k]))) := But.upd
    have s3G : Same H3 (upd HF lD (.lst ((e0 :: ds).map V.int ++ [.int k]))) := same_app fD s3F
    have lDG : upd HF lD (.lst ((e0 :: ds).map V.int ++ [.int k])) lD = some (.lst ((e0 :: (ds ++ [k])).map V.int)) := by
      rw [upd_same, List.map_cons, List.map_cons, List.map_append]
      rfl
    have lSG := but1 _ _ nDS (sAF _ _ lSA)
    have lMG := but1 _ _ (Ne.symm nDM) (sAF _ _ lMA)
    have EG : ∀ v ∈ us, Ent K c_Sun c_Moon c_Measure c_Change (upd HF lD (.lst ((e0 :: ds).map V.int ++ [.int k]))) v := fun v hv => ((uE v hv).same sAF).but lDF but1
    have SxG := ((SEx.same sF').but lDF but1)
    have SoG := ((So.same sF').but lDF but1)
    have SnG := ((Sn.same sF').but lDF but1)
    have hw' : w = .non ∨ ∃ x, w = .ref x ∧ CalH K c_Sun c_Moon c_Measure c_Change (upd HF lD (.lst ((e0 :: ds).map V.int ++ [.int k]))) x (.chg co cn k) := by
      rcases hw with z | ⟨x, z, S⟩
      · exact .inl z
      · exact .inr ⟨x, z, S.but lDF but1⟩
    generalize upd HF lD (.lst ((e0 :: ds).map V.int ++ [.int k])) = HG at s3G lDG lSG lMG EG SxG SoG SnG hw' ⊢
    have db' : ∀ d ∈ ds ++ [k], -10000000000000000000000000000000000010000 ≤ d ∧ d ≤ 10000000000000000000000000000000000010000 := fun d hd => by
      rcases List.mem_append.mp hd with z | z
      · exact db d z
      · cases List.mem_singleton.mp z
        exact ⟨kb0, kb1⟩
    have dl' : (ds ++ [k]).length ≤ i + 1 := by rw [List.length_append]; show ds.length + 1 ≤ i + 1; omega
    walk_at "rdc"
    refine rd_cut (fun σ' H' => Same H3 H' ∧ H' lS = some (.lst xsS) ∧ ∃ (x : Addr) (c : CalT) (us : List V) (w4 w6 w7 w8 w9 w10 : Option V), σ' = [some (.ref a), some (.ref x), some (.ref lD), some (.ref lM), w4, none, w6, w7, w8, w9, w10] ∧ CalH K c_Sun c_Moon c_Measure c_Change H' x c ∧ c.deep ≤ i + 1 ∧ c.bd (140 + 40 * (i + 1)) ∧ H' lD = some (.lst ((e0 :: (ds ++ [k])).map V.int)) ∧ H' lM = some (.lst us) ∧ us.length ≤ i + 1 ∧ (∀ v ∈ us, Ent K c_Sun c_Moon c_Measure c_Change H' v)) ?_ ?_
    rotate_left
    · rintro σ' HH ⟨h1, h2, x', c', us', z4, z6, z7, z8, z9, z10, rfl, h3, h4, h5, h6, h7, h8, h9⟩
      walk_at "rdc"
      exact ⟨h1, h2, x', c', ds ++ [k], us', z4, z6, z7, z8, z9, z10, rfl, h3, h4, h5, h6, dl', db', h7, h8, h9⟩
    walk_at "rdc"
    refine ⟨rfl, ?_⟩
    walk_at "rdc"
    rcases hw' with rfl | ⟨x', rfl, Sx'⟩
    · refine iteNS rfl ?_
      walk_at "rdc"
      exact ⟨s3G, lSG, x, c, us, _, _, _, _, _, _, rfl, SxG, by omega, cb', lDG, lMG, by omega, EG⟩
    refine iteNN (fun z => by cases z) ?_
    walk_at "rdc"
    refine rd_append rfl lMG ?_
    walk_at "rdc"
    refine ⟨(by show 4 ≤ sizeLine; decide), fun t2 ht2 => ?_⟩
    have sI := same_new ht2 (.tup [.ref x', .ref xo, .ref xn, .int k])
    have tI : upd HG t2 (.tup [.ref x', .ref xo, .ref xn, .int k]) t2 = some (.tup [.ref x', .ref xo, .ref xn, .int k]) := upd_same
    generalize upd HG t2 (.tup [.ref x', .ref xo, .ref xn, .int k]) = HI at sI tI ⊢
    have lMI := sI _ _ lMG
    walk_at "rdc"
    refine rd_app lMI (small1000 (by omega)) ?_
    have but2 : But lM HI (upd HI lM (.lst (us ++ [.ref t2]))) := But.upd
    walk_at "rdc"
    refine ⟨same_app fM (s3G.trans sI), but2 _ _ nMS (sI _ _ lSG), x', .chg co cn k, us ++ [.ref t2], _, _, _, _, _, _, rfl, (Sx'.same sI).but lMI but2, (by show max co.deep cn.deep + 1 ≤ i + 1; omega), ⟨ob, nb⟩, but2 _ _ nDM (sI _ _ lDG), upd_same, (by rw [List.length_append]; show us.length + 1 ≤ i + 1; omega), fun v hv => ?_⟩
    rcases List.mem_append.mp hv with z | z
    · exact ((EG v z).same sI).but lMI but2
    · cases List.mem_singleton.mp z
      exact Ent.but lMI but2 ⟨t2, x', xo, xn, k, co, cn, rfl, tI, Sx'.same sI, SoG.same sI, SnG.same sI, by omega, by omega⟩
  rintro σ' HA ⟨sA, lSA, x, c, ds, us, w4, w6, w7, w8, w9, w10, rfl, SA, pA, cb, lDA, dl, db, lMA, ul, uE⟩
  have hSA := sA.seq hS3
  walk_at "rdc"
  refine ⟨Nat.zero_le _, fun l1 hl1 => ?_⟩
  have sB := same_new hl1 (.lst [])
  have tB : upd HA l1 (.lst []) l1 = some (.lst (([] : List Int).map V.int)) := upd_same
  generalize upd HA l1 (.lst []) = HB at sB tB ⊢
  walk_at "rdc"
  walk_at "rdf"
  walk_at "rdc"
  refine ⟨lD, rfl, ⟨_, SqL.of (sB _ _ lDA)⟩, for_list (xs := (e0 :: ds).map V.int) (fun i σ' H' => Same HA H' ∧ ∃ (ls : Addr) (zs : List Int) (w4 w6 w7 w8 w9 w10 : Option V), σ' = [some (.ref a), some (.ref x), some (.ref lD), some (.ref lM), w4, some (.ref ls), w6, w7, w8, w9, w10] ∧ HA ls = none ∧ H' ls = some (.lst (zs.map V.int)) ∧ zs.length ≤ 2 * i ∧ ∀ d ∈ zs, Bt 280 d) ⟨sB, l1, [], w4, w6, w7, w8, w9, w10, rfl, hl1, tB, Nat.le_refl _, (fun d hd => nomatch hd)⟩ ?_ ?_ ?_⟩
  · rintro i σ' H' _ ⟨s', _⟩
    exact SqL.of (s' _ _ lDA)
  · rintro i v σ' HC hv ⟨sC, ls, zs, z4, z6, z7, z8, z9, z10, rfl, fr, tC, zl, zb⟩
    rw [List.getElem?_map] at hv
    obtain ⟨d, hd, rfl⟩ := Option.map_eq_some_iff.mp hv
    have hSC := sC.seq hSA
    have il : i ≤ 3 := by
      have := (List.getElem?_eq_some_iff.mp hd).1
      rw [List.length_cons] at this
      omega
    have db1 : -10000000000000000000000000000000000010000 ≤ d ∧ d ≤ 10000000000000000000000000000000000010000 := by
      rcases List.mem_cons.mp (List.mem_of_getElem? hd) with z | z
      · omega
      · exact db d z
    walk_at "rdc"
    refine ⟨two, fun l2 hl2 => ?_⟩
    have sD := same_new hl2 (.lst [.int (d - 1), .int (d + ns.getD (6 : Int).toNat 0 % 121 - 20)])
    have tD : upd HC l2 (.lst [.int (d - 1), .int (d + ns.getD (6 : Int).toNat 0 % 121 - 20)]) l2 = some (.lst (([d - 1, d + ns.getD (6 : Int).toNat 0 % 121 - 20] : List Int).map V.int)) := upd_same
    generalize upd HC l2 (.lst [.int (d - 1), .int (d + ns.getD (6 : Int).toNat 0 % 121 - 20)]) = HD at sD tD ⊢
    refine rd_cat (sD _ _ tC) tD (by rw [List.length_map]; exact Nat.le_of_lt (small1000 (by show zs.length + 2 ≤ 1000; omega))) fun l3 hl3 => ?_
    have sE := same_new hl3 (.lst (zs.map V.int ++ ([d - 1, d + ns.getD (6 : Int).toNat 0 % 121 - 20] : List Int).map V.int))
    walk_at "rdc"
    refine ⟨sC.trans (sD.trans sE), l3, zs ++ [d - 1, d + ns.getD (6 : Int).toNat 0 % 121 - 20], _, _, _, _, _, _, rfl, (sC.trans sD).free hl3, by rw [upd_same, List.map_append], by rw [List.length_append]; show zs.length + 2 ≤ 2 * (i + 1); omega, fun d' hd' => ?_⟩
    rcases List.mem_append.mp hd' with z | z
    · exact zb d' z
    · rcases List.mem_cons.mp z with z | z
      · rw [z]
        exact (bt_n (by omega) (by omega)).mono (by decide)
      · cases List.mem_singleton.mp z
        exact (bt_n (by omega) (by omega)).mono (by decide)
  rintro σ' HC ⟨sC, ls, zs, z4, z6, z7, z8, z9, z10, rfl, fr, tC, zl, zb⟩
  have hSC := sC.seq hSA
  walk_at "rdc"
  refine rd_append rfl tC ?_
  walk_at "rdc"
  refine ⟨_, rfl, fun u3 HD sD u30 u31 => ?_⟩
  have tD := sD _ _ tC
  walk_at "rdc"
  rw [List.length_map, List.length_cons] at zl
  refine rd_app tD (small1000 (by rw [List.length_map]; omega)) ?_
  have sE : Same HA (upd HD ls (.lst (zs.map V.int ++ [.int u3]))) := same_app fr (sC.trans sD)
  have tE : upd HD ls (.lst (zs.map V.int ++ [.int u3])) ls = some (.lst ((zs ++ [u3]).map V.int)) := by rw [upd_same, List.map_append]; rfl
  generalize upd HD ls (.lst (zs.map V.int ++ [.int u3])) = HE at sE tE ⊢
  have zb' : ∀ d ∈ zs ++ [u3], Bt 280 d := fun d hd => by
    rcases List.mem_append.mp hd with z | z
    · exact zb d z
    · cases List.mem_singleton.mp z
      exact (bt_n (by omega) (by omega)).mono (by decide)
  have tM := sE _ _ lMA
  walk_at "rdc"
  refine rd_compT (rd_iL ?_)
  walk_at "rdc"
  refine ⟨lM, rfl, ⟨_, SqL.of tM⟩, ?_⟩
  refine compT_inv walk_l (small1000 (by omega)) (fun D i ys H2 => H2 D = some (.lst ys) ∧ Same HE H2 ∧ ys = (List.replicate i true).map V.bl) (fun D hD => ⟨upd_same, same_new hD _, rfl⟩)
    (fun D i ys H2 _ ⟨g1, g2, g3⟩ => ⟨g1, by rw [g3, List.length_map, List.length_replicate]; exact Nat.le_refl _, SqL.of (g2 _ _ tM)⟩) (fun D i v ys H2 hD hv ⟨g1, g2, g3⟩ ρ hρ W hW => ?_) (fun D ys H2 hD ⟨g1, g2, g3⟩ => ?_)
  · obtain ⟨tt, xx, oo, nn, kk, aa, bb, rfl, g1', g2', g3', g4', g5', g6'⟩ := (uE v (List.mem_of_getElem? hv)).same (sE.trans g2)
    obtain ⟨r0, r1, r2, r3, rfl⟩ : ∃ r0 r1 r2 r3, ρ = [r0, r1, r2, r3] := by
      match ρ, hρ with
      | [r0, r1, r2, r3], _ => exact ⟨r0, r1, r2, r3, rfl⟩
    refine rd_gtup (SqT.of g1') rfl ?_
    refine ⟨_, _, rfl, ?_⟩
    walk_at "rdc"
    refine ⟨[some (.ref xx), some (.ref oo), some (.ref nn), some (.int kk)], rfl, rfl, rd_true (iteT ?_)⟩
    walk_at "rdc"
    refine ⟨xx, oo, nn, ls, kk, aa, bb, _, rfl, g2', g3', g4', g5', g6', g2 _ _ tE, zb', fun H3' s3' => ⟨s3' _ _ g1, hW _ _ ⟨upd_same, same_app hD (g2.trans s3'), ?_⟩⟩⟩
    rw [g3, List.replicate_succ', List.map_append]
    rfl
  subst g3
  walk_at "rdc"
  refine ⟨D, _, rfl, SqL.of g1, ?_⟩
  have al : (List.replicate us.length true).all id = true := by
    rw [List.all_eq_true]
    intro b hb
    exact (List.mem_replicate.mp hb).2
  rw [al]
  exact q _
end
theorem all_mk {l : PySem.W.OpenLaw} {w : World} {K : PySem.W.Frag} {h : Heap} {mg : Str → Option Value} {fa f0 f1 f2 f3 f4 f5 f6 f7 f8 f9 f10 f11 f12 f13 f14 f15 f16 f17 f18 f19 f20 f21 f22 f23 f24 f25 f26 f27 f28 f29 f30 f31 f32 f33 f34 f35 f36 f37 f38 f39 f40 f41 f42 f43 f44 f45 f46 f47 : Addr} {c_FeastError c_NoNumber c_NoMeasure c_NoDate c_InGap c_NoChange c_Measure c_Calendar c_Sun c_Moon c_Change : Addr} (X : K.In h) (G : h.Ns mainGlobals mg) (hfa : mg "law" = some (.ref fa))
    {od0 an0 od1 an1 od2 an2 od3 an3 od4 an4 od5 an5 od6 an6 od7 an7 od8 an8 od9 an9 od10 an10 od11 an11 od12 an12 od13 an13 od14 an14 od15 an15 od16 an16 od17 an17 od18 an18 od19 an19 od20 an20 od21 an21 od22 an22 od23 an23 od24 an24 od25 an25 od26 an26 od27 an27 od28 an28 od29 an29 od30 an30 od31 an31 od32 an32 od33 an33 od34 an34 od35 an35 od36 an36 od37 an37 od38 an38 od39 an39 od40 an40 od41 an41 od42 an42 od43 an43 od44 an44 od45 an45 od46 an46 od47 an47 : Option Addr} {sl0 sl1 sl2 sl3 sl4 sl5 sl6 sl7 sl8 sl9 sl10 sl11 sl12 sl13 sl14 sl15 sl16 sl17 sl18 sl19 sl20 sl21 sl22 sl23 sl24 sl25 sl26 sl27 sl28 sl29 sl30 sl31 sl32 sl33 sl34 sl35 sl36 sl37 sl38 sl39 sl40 sl41 sl42 sl43 sl44 sl45 sl46 sl47 : Array (Option Value)} {oc0 kV0 dc0 pm0 cd0 ct0 oc1 kV1 dc1 pm1 cd1 ct1 oc2 kV2 dc2 pm2 cd2 ct2 oc3 kV3 dc3 pm3 cd3 ct3 oc4 kV4 dc4 pm4 cd4 ct4 oc5 kV5 dc5 pm5 cd5 ct5 oc6 kV6 dc6 pm6 cd6 ct6 oc7 kV7 dc7 pm7 cd7 ct7 oc8 kV8 dc8 pm8 cd8 ct8 oc9 kV9 dc9 pm9 cd9 ct9 oc10 kV10 dc10 pm10 cd10 ct10 oc11 kV11 dc11 pm11 cd11 ct11 oc12 kV12 dc12 pm12 cd12 ct12 oc13 kV13 dc13 pm13 cd13 ct13 oc14 kV14 dc14 pm14 cd14 ct14 oc15 kV15 dc15 pm15 cd15 ct15 oc16 kV16 dc16 pm16 cd16 ct16 oc17 kV17 dc17 pm17 cd17 ct17 oc18 kV18 dc18 pm18 cd18 ct18 oc19 kV19 dc19 pm19 cd19 ct19 oc20 kV20 dc20 pm20 cd20 ct20 oc21 kV21 dc21 pm21 cd21 ct21 oc22 kV22 dc22 pm22 cd22 ct22 oc23 kV23 dc23 pm23 cd23 ct23 oc24 kV24 dc24 pm24 cd24 ct24 oc25 kV25 dc25 pm25 cd25 ct25 oc26 kV26 dc26 pm26 cd26 ct26 oc27 kV27 dc27 pm27 cd27 ct27 oc28 kV28 dc28 pm28 cd28 ct28 oc29 kV29 dc29 pm29 cd29 ct29 oc30 kV30 dc30 pm30 cd30 ct30 oc31 kV31 dc31 pm31 cd31 ct31 oc32 kV32 dc32 pm32 cd32 ct32 oc33 kV33 dc33 pm33 cd33 ct33 oc34 kV34 dc34 pm34 cd34 ct34 oc35 kV35 dc35 pm35 cd35 ct35 oc36 kV36 dc36 pm36 cd36 ct36 oc37 kV37 dc37 pm37 cd37 ct37 oc38 kV38 dc38 pm38 cd38 ct38 oc39 kV39 dc39 pm39 cd39 ct39 oc40 kV40 dc40 pm40 cd40 ct40 oc41 kV41 dc41 pm41 cd41 ct41 oc42 kV42 dc42 pm42 cd42 ct42 oc43 kV43 dc43 pm43 cd43 ct43 oc44 kV44 dc44 pm44 cd44 ct44 oc45 kV45 dc45 pm45 cd45 ct45 oc46 kV46 dc46 pm46 cd46 ct46 oc47 kV47 dc47 pm47 cd47 ct47 : Value} {tk_GREATEST_N : Tok} {tk_GREATEST_BASE : Tok} {tk_MOST_TERMS : Tok} {tk_MOST_MONTHS : Tok} {tk_LONGEST_MONTH : Tok}
    {T13 : Addr} {to13 : Value} {td13 : Option Addr} {tn13 : Nat} {ts13 : Array (Option Value)}
    {T17 : Addr} {to17 : Value} {td17 : Option Addr} {tn17 : Nat} {ts17 : Array (Option Value)} {tkd_Sun___init___0 : Tok}
    {dd_NoDate : Option Addr} {cd_NoDate : ClassData} {q0_NoDate q1_NoDate q2_NoDate q3_NoDate q5_NoDate : Option Value}
    {dd_InGap : Option Addr} {cd_InGap : ClassData} {q0_InGap q1_InGap q2_InGap q3_InGap q5_InGap : Option Value}
    (n_FeastError : PySem.W.nsIn K mainGlobals "FeastError" = some (some (.ref c_FeastError)))
    (n_NoNumber : PySem.W.nsIn K mainGlobals "NoNumber" = some (some (.ref c_NoNumber)))
    (n_NoMeasure : PySem.W.nsIn K mainGlobals "NoMeasure" = some (some (.ref c_NoMeasure)))
    (n_NoDate : PySem.W.nsIn K mainGlobals "NoDate" = some (some (.ref c_NoDate)))
    (n_InGap : PySem.W.nsIn K mainGlobals "InGap" = some (some (.ref c_InGap)))
    (n_NoChange : PySem.W.nsIn K mainGlobals "NoChange" = some (some (.ref c_NoChange)))
    (t_NoChange : PySem.W.typeIn K (.ref c_NoChange) = some (.type "type"))
    (k_NoChange : PySem.W.hasDictIn K c_NoChange = true)
    (b_NoChange : PySem.W.mroIn K c_NoChange (.type "BaseException") = some true)
    (o_NoDate : K.lookup c_NoDate = some ⟨.type "type", dd_NoDate, .cls cd_NoDate, #[q0_NoDate, q1_NoDate, q2_NoDate, q3_NoDate, some (.builtin "ValueError.__new__"), q5_NoDate]⟩)
    (om_NoDate : cd_NoDate.mro = .ref c_NoDate :: .ref c_FeastError :: bmV)
    (od_NoDate : cd_NoDate.hasDel = false)
    (oh_NoDate : cd_NoDate.hasDict = true)
    (sa_NoDate : PySem.W.findIn K (.ref c_NoDate) "__setattr__" = some (some (.builtin "object.__setattr__")))
    (kp_NoDate : PySem.W.keepIn K (.ref c_NoDate) = true)
    (e_FeastError : PySem.W.excIn K c_FeastError bmV "ValueError.__new__" = true)
    (fs_FeastError : PySem.W.specialIn K (.ref c_FeastError) "__getattribute__" = some (some (.builtin "type.__getattribute__")))
    (fr_FeastError : PySem.W.readsIn K c_FeastError (.type "type") = true)
    (ff_FeastError : PySem.W.findCls K (.ref c_FeastError) (.type "type") "__init__" = some (.val (.builtin "ValueError.__init__")))
    (na_NoDate_date : PySem.W.findIn K (.ref c_NoDate) "date" = some none)
    (o_InGap : K.lookup c_InGap = some ⟨.type "type", dd_InGap, .cls cd_InGap, #[q0_InGap, q1_InGap, q2_InGap, q3_InGap, some (.builtin "ValueError.__new__"), q5_InGap]⟩)
    (om_InGap : cd_InGap.mro = .ref c_InGap :: .ref c_FeastError :: bmV)
    (od_InGap : cd_InGap.hasDel = false)
    (oh_InGap : cd_InGap.hasDict = true)
    (sa_InGap : PySem.W.findIn K (.ref c_InGap) "__setattr__" = some (some (.builtin "object.__setattr__")))
    (kp_InGap : PySem.W.keepIn K (.ref c_InGap) = true)
    (na_InGap_date : PySem.W.findIn K (.ref c_InGap) "date" = some none)
    (na_InGap_day : PySem.W.findIn K (.ref c_InGap) "day" = some none)
    (e_NoChange : PySem.W.excIn K c_NoChange bmV "ValueError.__new__" = true)
    (ga_NoChange : PySem.W.findIn K (.ref c_NoChange) "__getattribute__" = some (some (.builtin "BaseException.__getattribute__")))
    (gk_NoChange : PySem.W.findIn K (.ref c_NoChange) "__getattr__" = some none)
    (ob_NoChange : PySem.W.mroIn K c_NoChange (.type "object") = some true)
    (ca_NoChange : PySem.W.findIn K (.ref c_NoChange) "__class__" = some (some (.builtin "object.__class__")))
    (i_NoChange_FeastError : PySem.W.kitOne K (.ref c_NoChange) (.ref c_FeastError) = some true)
    (i_NoChange_NoDate : PySem.W.kitOne K (.ref c_NoChange) (.ref c_NoDate) = some false)
    (r_NoChange_NoChange : PySem.W.mroIn K c_NoChange (.ref c_NoChange) = some true)
    (n_Measure : PySem.W.nsIn K mainGlobals "Measure" = some (some (.ref c_Measure)))
    (pg_Measure : PySem.W.plainGet K c_Measure Str.empty = true)
    (k_Measure : PySem.W.hasDictIn K c_Measure = true)
    (po_Measure : PySem.W.plainOver K c_Measure = true)
    (sa_Measure : PySem.W.findIn K (.ref c_Measure) "__setattr__" = some (some (.builtin "object.__setattr__")))
    (mk_Measure : PySem.W.makesIn K c_Measure = true)
    (kp_Measure : PySem.W.keepIn K (.ref c_Measure) = true)
    (na_Measure_base : PySem.W.findIn K (.ref c_Measure) "base" = some none)
    (na_Measure_terms : PySem.W.findIn K (.ref c_Measure) "terms" = some none)
    (na_Measure_full_count : PySem.W.findIn K (.ref c_Measure) "full_count" = some none)
    (na_Measure_full_sum : PySem.W.findIn K (.ref c_Measure) "full_sum" = some none)
    (n_Sun : PySem.W.nsIn K mainGlobals "Sun" = some (some (.ref c_Sun)))
    (pg_Sun : PySem.W.plainGet K c_Sun Str.empty = true)
    (k_Sun : PySem.W.hasDictIn K c_Sun = true)
    (po_Sun : PySem.W.plainOver K c_Sun = true)
    (sa_Sun : PySem.W.findIn K (.ref c_Sun) "__setattr__" = some (some (.builtin "object.__setattr__")))
    (mk_Sun : PySem.W.makesIn K c_Sun = true)
    (kp_Sun : PySem.W.keepIn K (.ref c_Sun) = true)
    (na_Sun_start : PySem.W.findIn K (.ref c_Sun) "start" = some none)
    (na_Sun_months : PySem.W.findIn K (.ref c_Sun) "months" = some none)
    (na_Sun_leap : PySem.W.findIn K (.ref c_Sun) "leap" = some none)
    (na_Sun_years : PySem.W.findIn K (.ref c_Sun) "years" = some none)
    (n_Moon : PySem.W.nsIn K mainGlobals "Moon" = some (some (.ref c_Moon)))
    (pg_Moon : PySem.W.plainGet K c_Moon Str.empty = true)
    (k_Moon : PySem.W.hasDictIn K c_Moon = true)
    (po_Moon : PySem.W.plainOver K c_Moon = true)
    (sa_Moon : PySem.W.findIn K (.ref c_Moon) "__setattr__" = some (some (.builtin "object.__setattr__")))
    (mk_Moon : PySem.W.makesIn K c_Moon = true)
    (kp_Moon : PySem.W.keepIn K (.ref c_Moon) = true)
    (na_Moon_start : PySem.W.findIn K (.ref c_Moon) "start" = some none)
    (na_Moon_days : PySem.W.findIn K (.ref c_Moon) "days" = some none)
    (na_Moon_many : PySem.W.findIn K (.ref c_Moon) "many" = some none)
    (n_Change : PySem.W.nsIn K mainGlobals "Change" = some (some (.ref c_Change)))
    (pg_Change : PySem.W.plainGet K c_Change Str.empty = true)
    (k_Change : PySem.W.hasDictIn K c_Change = true)
    (po_Change : PySem.W.plainOver K c_Change = true)
    (sa_Change : PySem.W.findIn K (.ref c_Change) "__setattr__" = some (some (.builtin "object.__setattr__")))
    (mk_Change : PySem.W.makesIn K c_Change = true)
    (kp_Change : PySem.W.keepIn K (.ref c_Change) = true)
    (na_Change_old : PySem.W.findIn K (.ref c_Change) "old" = some none)
    (na_Change_new : PySem.W.findIn K (.ref c_Change) "new" = some none)
    (na_Change_day : PySem.W.findIn K (.ref c_Change) "day" = some none)
    (na_Change_last_old : PySem.W.findIn K (.ref c_Change) "last_old" = some none)
    (na_Change_first_new : PySem.W.findIn K (.ref c_Change) "first_new" = some none)
    (n_Calendar : PySem.W.nsIn K mainGlobals "Calendar" = some (some (.ref c_Calendar)))
    (i_Change_Calendar : PySem.W.kitOne K (.ref c_Change) (.ref c_Calendar) = some true)
    (ca_Change : PySem.W.findIn K (.ref c_Change) "__class__" = some (some (.builtin "object.__class__")))
    (ob_Change : PySem.W.mroIn K c_Change (.type "object") = some true)
    (xsp : PySem.W.specialIn K (.builtin "object.__class__") "__get__" = some (some (.builtin "getset_descriptor.__get__")))
    (xtk : PySem.W.takesIn K (.builtin "object.__class__") = some true)
    (a0 : PySem.W.findIn K (.ref c_NoDate) "__init__" = some (some (.ref f0))) (l0 : K.lookup f0 = some ⟨oc0, od0, .func (PySem.W.fnOf "__init__" "NoDate.__init__" (defArgs s_NoDate___init__) (defBody s_NoDate___init__) (defScope s_NoDate___init__) .none kV0 dc0 pm0 an0 cd0 ct0), sl0⟩) (c0 : PySem.W.codeIn K cd0 "NoDate.__init__" = true) (k0 : PySem.W.keepIn K (.ref f0) = true)
    (u0 : PySem.W.typeIn K (.ref f0) = some (.type "function"))
    (a1 : PySem.W.findIn K (.ref c_InGap) "__init__" = some (some (.ref f1))) (l1 : K.lookup f1 = some ⟨oc1, od1, .func (PySem.W.fnOf "__init__" "InGap.__init__" (defArgs s_InGap___init__) (defBody s_InGap___init__) (defScope s_InGap___init__) .none kV1 dc1 pm1 an1 cd1 ct1), sl1⟩) (c1 : PySem.W.codeIn K cd1 "InGap.__init__" = true) (k1 : PySem.W.keepIn K (.ref f1) = true)
    (u1 : PySem.W.typeIn K (.ref f1) = some (.type "function"))
    (a2 : PySem.W.nsIn K mainGlobals "refuse_below_one" = some (some (.ref f2))) (l2 : K.lookup f2 = some ⟨oc2, od2, .func (PySem.W.fnOf "refuse_below_one" "refuse_below_one" (defArgs s_refuse_below_one) (defBody s_refuse_below_one) (defScope s_refuse_below_one) .none kV2 dc2 pm2 an2 cd2 ct2), sl2⟩) (c2 : PySem.W.codeIn K cd2 "refuse_below_one" = true) (k2 : PySem.W.keepIn K (.ref f2) = true)
    (a3 : PySem.W.nsIn K mainGlobals "equation" = some (some (.ref f3))) (l3 : K.lookup f3 = some ⟨oc3, od3, .func (PySem.W.fnOf "equation" "equation" (defArgs s_equation) (defBody s_equation) (defScope s_equation) .none kV3 dc3 pm3 an3 cd3 ct3), sl3⟩) (c3 : PySem.W.codeIn K cd3 "equation" = true) (k3 : PySem.W.keepIn K (.ref f3) = true)
    (a4 : PySem.W.nsIn K mainGlobals "divisor" = some (some (.ref f4))) (l4 : K.lookup f4 = some ⟨oc4, od4, .func (PySem.W.fnOf "divisor" "divisor" (defArgs s_divisor) (defBody s_divisor) (defScope s_divisor) .none kV4 dc4 pm4 an4 cd4 ct4), sl4⟩) (c4 : PySem.W.codeIn K cd4 "divisor" = true) (k4 : PySem.W.keepIn K (.ref f4) = true)
    (a5 : PySem.W.nsIn K mainGlobals "common" = some (some (.ref f5))) (l5 : K.lookup f5 = some ⟨oc5, od5, .func (PySem.W.fnOf "common" "common" (defArgs s_common) (defBody s_common) (defScope s_common) .none kV5 dc5 pm5 an5 cd5 ct5), sl5⟩) (c5 : PySem.W.codeIn K cd5 "common" = true) (k5 : PySem.W.keepIn K (.ref f5) = true)
    (a6 : PySem.W.nsIn K mainGlobals "term_on" = some (some (.ref f6))) (l6 : K.lookup f6 = some ⟨oc6, od6, .func (PySem.W.fnOf "term_on" "term_on" (defArgs s_term_on) (defBody s_term_on) (defScope s_term_on) .none kV6 dc6 pm6 an6 cd6 ct6), sl6⟩) (c6 : PySem.W.codeIn K cd6 "term_on" = true) (k6 : PySem.W.keepIn K (.ref f6) = true)
    (a7 : PySem.W.nsIn K mainGlobals "signs_upto" = some (some (.ref f7))) (l7 : K.lookup f7 = some ⟨oc7, od7, .func (PySem.W.fnOf "signs_upto" "signs_upto" (defArgs s_signs_upto) (defBody s_signs_upto) (defScope s_signs_upto) .none kV7 dc7 pm7 an7 cd7 ct7), sl7⟩) (c7 : PySem.W.codeIn K cd7 "signs_upto" = true) (k7 : PySem.W.keepIn K (.ref f7) = true)
    (a8 : PySem.W.nsIn K mainGlobals "is_term" = some (some (.ref f8))) (l8 : K.lookup f8 = some ⟨oc8, od8, .func (PySem.W.fnOf "is_term" "is_term" (defArgs s_is_term) (defBody s_is_term) (defScope s_is_term) .none kV8 dc8 pm8 an8 cd8 ct8), sl8⟩) (c8 : PySem.W.codeIn K cd8 "is_term" = true) (k8 : PySem.W.keepIn K (.ref f8) = true)
    (a9 : PySem.W.nsIn K mainGlobals "least_length" = some (some (.ref f9))) (l9 : K.lookup f9 = some ⟨oc9, od9, .func (PySem.W.fnOf "least_length" "least_length" (defArgs s_least_length) (defBody s_least_length) (defScope s_least_length) .none kV9 dc9 pm9 an9 cd9 ct9), sl9⟩) (c9 : PySem.W.codeIn K cd9 "least_length" = true) (k9 : PySem.W.keepIn K (.ref f9) = true)
    (a10 : PySem.W.nsIn K mainGlobals "refuse_measure" = some (some (.ref f10))) (l10 : K.lookup f10 = some ⟨oc10, od10, .func (PySem.W.fnOf "refuse_measure" "refuse_measure" (defArgs s_refuse_measure) (defBody s_refuse_measure) (defScope s_refuse_measure) .none kV10 dc10 pm10 an10 cd10 ct10), sl10⟩) (c10 : PySem.W.codeIn K cd10 "refuse_measure" = true) (k10 : PySem.W.keepIn K (.ref f10) = true)
    (a11 : PySem.W.nsIn K mainGlobals "period_of" = some (some (.ref f11))) (l11 : K.lookup f11 = some ⟨oc11, od11, .func (PySem.W.fnOf "period_of" "period_of" (defArgs s_period_of) (defBody s_period_of) (defScope s_period_of) .none kV11 dc11 pm11 an11 cd11 ct11), sl11⟩) (c11 : PySem.W.codeIn K cd11 "period_of" = true) (k11 : PySem.W.keepIn K (.ref f11) = true)
    (a12 : PySem.W.findIn K (.ref c_Measure) "upto" = some (some (.ref f12))) (l12 : K.lookup f12 = some ⟨oc12, od12, .func (PySem.W.fnOf "upto" "Measure.upto" (defArgs s_Measure_upto) (defBody s_Measure_upto) (defScope s_Measure_upto) .none kV12 dc12 pm12 an12 cd12 ct12), sl12⟩) (c12 : PySem.W.codeIn K cd12 "Measure.upto" = true) (k12 : PySem.W.keepIn K (.ref f12) = true)
    (u12 : PySem.W.typeIn K (.ref f12) = some (.type "function"))
    (a13 : PySem.W.findIn K (.ref c_Measure) "__init__" = some (some (.ref f13))) (l13 : K.lookup f13 = some ⟨oc13, od13, .func (PySem.W.fnOf "__init__" "Measure.__init__" (defArgs s_Measure___init__) (defBody s_Measure___init__) (defScope s_Measure___init__) (.ref T13) kV13 dc13 pm13 an13 cd13 ct13), sl13⟩) (c13 : PySem.W.codeIn K cd13 "Measure.__init__" = true) (k13 : PySem.W.keepIn K (.ref f13) = true)
    (t13 : K.lookup T13 = some ⟨to13, td13, .seq #[.none] tn13, ts13⟩)
    (u13 : PySem.W.typeIn K (.ref f13) = some (.type "function"))
    (a14 : PySem.W.findIn K (.ref c_Measure) "at" = some (some (.ref f14))) (l14 : K.lookup f14 = some ⟨oc14, od14, .func (PySem.W.fnOf "at" "Measure.at" (defArgs s_Measure_at) (defBody s_Measure_at) (defScope s_Measure_at) .none kV14 dc14 pm14 an14 cd14 ct14), sl14⟩) (c14 : PySem.W.codeIn K cd14 "Measure.at" = true) (k14 : PySem.W.keepIn K (.ref f14) = true)
    (u14 : PySem.W.typeIn K (.ref f14) = some (.type "function"))
    (a15 : PySem.W.findIn K (.ref c_Measure) "seek" = some (some (.ref f15))) (l15 : K.lookup f15 = some ⟨oc15, od15, .func (PySem.W.fnOf "seek" "Measure.seek" (defArgs s_Measure_seek) (defBody s_Measure_seek) (defScope s_Measure_seek) .none kV15 dc15 pm15 an15 cd15 ct15), sl15⟩) (c15 : PySem.W.codeIn K cd15 "Measure.seek" = true) (k15 : PySem.W.keepIn K (.ref f15) = true)
    (u15 : PySem.W.typeIn K (.ref f15) = some (.type "function"))
    (a16 : PySem.W.nsIn K mainGlobals "refuse_months" = some (some (.ref f16))) (l16 : K.lookup f16 = some ⟨oc16, od16, .func (PySem.W.fnOf "refuse_months" "refuse_months" (defArgs s_refuse_months) (defBody s_refuse_months) (defScope s_refuse_months) .none kV16 dc16 pm16 an16 cd16 ct16), sl16⟩) (c16 : PySem.W.codeIn K cd16 "refuse_months" = true) (k16 : PySem.W.keepIn K (.ref f16) = true)
    (a17 : PySem.W.findIn K (.ref c_Sun) "__init__" = some (some (.ref f17))) (l17 : K.lookup f17 = some ⟨oc17, od17, .func (PySem.W.fnOf "__init__" "Sun.__init__" (defArgs s_Sun___init__) (defBody s_Sun___init__) (defScope s_Sun___init__) (.ref T17) kV17 dc17 pm17 an17 cd17 ct17), sl17⟩) (c17 : PySem.W.codeIn K cd17 "Sun.__init__" = true) (k17 : PySem.W.keepIn K (.ref f17) = true)
    (t17 : K.lookup T17 = some ⟨to17, td17, .seq #[(.int 1 tkd_Sun___init___0), .none] tn17, ts17⟩)
    (u17 : PySem.W.typeIn K (.ref f17) = some (.type "function"))
    (a18 : PySem.W.findIn K (.ref c_Sun) "year_start" = some (some (.ref f18))) (l18 : K.lookup f18 = some ⟨oc18, od18, .func (PySem.W.fnOf "year_start" "Sun.year_start" (defArgs s_Sun_year_start) (defBody s_Sun_year_start) (defScope s_Sun_year_start) .none kV18 dc18 pm18 an18 cd18 ct18), sl18⟩) (c18 : PySem.W.codeIn K cd18 "Sun.year_start" = true) (k18 : PySem.W.keepIn K (.ref f18) = true)
    (u18 : PySem.W.typeIn K (.ref f18) = some (.type "function"))
    (a19 : PySem.W.findIn K (.ref c_Sun) "year_at" = some (some (.ref f19))) (l19 : K.lookup f19 = some ⟨oc19, od19, .func (PySem.W.fnOf "year_at" "Sun.year_at" (defArgs s_Sun_year_at) (defBody s_Sun_year_at) (defScope s_Sun_year_at) .none kV19 dc19 pm19 an19 cd19 ct19), sl19⟩) (c19 : PySem.W.codeIn K cd19 "Sun.year_at" = true) (k19 : PySem.W.keepIn K (.ref f19) = true)
    (u19 : PySem.W.typeIn K (.ref f19) = some (.type "function"))
    (a20 : PySem.W.findIn K (.ref c_Sun) "lengths" = some (some (.ref f20))) (l20 : K.lookup f20 = some ⟨oc20, od20, .func (PySem.W.fnOf "lengths" "Sun.lengths" (defArgs s_Sun_lengths) (defBody s_Sun_lengths) (defScope s_Sun_lengths) .none kV20 dc20 pm20 an20 cd20 ct20), sl20⟩) (c20 : PySem.W.codeIn K cd20 "Sun.lengths" = true) (k20 : PySem.W.keepIn K (.ref f20) = true)
    (u20 : PySem.W.typeIn K (.ref f20) = some (.type "function"))
    (a21 : PySem.W.nsIn K mainGlobals "refuse_part" = some (some (.ref f21))) (l21 : K.lookup f21 = some ⟨oc21, od21, .func (PySem.W.fnOf "refuse_part" "refuse_part" (defArgs s_refuse_part) (defBody s_refuse_part) (defScope s_refuse_part) .none kV21 dc21 pm21 an21 cd21 ct21), sl21⟩) (c21 : PySem.W.codeIn K cd21 "refuse_part" = true) (k21 : PySem.W.keepIn K (.ref f21) = true)
    (a22 : PySem.W.findIn K (.ref c_Moon) "__init__" = some (some (.ref f22))) (l22 : K.lookup f22 = some ⟨oc22, od22, .func (PySem.W.fnOf "__init__" "Moon.__init__" (defArgs s_Moon___init__) (defBody s_Moon___init__) (defScope s_Moon___init__) .none kV22 dc22 pm22 an22 cd22 ct22), sl22⟩) (c22 : PySem.W.codeIn K cd22 "Moon.__init__" = true) (k22 : PySem.W.keepIn K (.ref f22) = true)
    (u22 : PySem.W.typeIn K (.ref f22) = some (.type "function"))
    (a23 : PySem.W.findIn K (.ref c_Moon) "year_start" = some (some (.ref f23))) (l23 : K.lookup f23 = some ⟨oc23, od23, .func (PySem.W.fnOf "year_start" "Moon.year_start" (defArgs s_Moon_year_start) (defBody s_Moon_year_start) (defScope s_Moon_year_start) .none kV23 dc23 pm23 an23 cd23 ct23), sl23⟩) (c23 : PySem.W.codeIn K cd23 "Moon.year_start" = true) (k23 : PySem.W.keepIn K (.ref f23) = true)
    (u23 : PySem.W.typeIn K (.ref f23) = some (.type "function"))
    (a24 : PySem.W.findIn K (.ref c_Moon) "year_at" = some (some (.ref f24))) (l24 : K.lookup f24 = some ⟨oc24, od24, .func (PySem.W.fnOf "year_at" "Moon.year_at" (defArgs s_Moon_year_at) (defBody s_Moon_year_at) (defScope s_Moon_year_at) .none kV24 dc24 pm24 an24 cd24 ct24), sl24⟩) (c24 : PySem.W.codeIn K cd24 "Moon.year_at" = true) (k24 : PySem.W.keepIn K (.ref f24) = true)
    (u24 : PySem.W.typeIn K (.ref f24) = some (.type "function"))
    (a25 : PySem.W.findIn K (.ref c_Moon) "lengths" = some (some (.ref f25))) (l25 : K.lookup f25 = some ⟨oc25, od25, .func (PySem.W.fnOf "lengths" "Moon.lengths" (defArgs s_Moon_lengths) (defBody s_Moon_lengths) (defScope s_Moon_lengths) .none kV25 dc25 pm25 an25 cd25 ct25), sl25⟩) (c25 : PySem.W.codeIn K cd25 "Moon.lengths" = true) (k25 : PySem.W.keepIn K (.ref f25) = true)
    (u25 : PySem.W.typeIn K (.ref f25) = some (.type "function"))
    (a26 : PySem.W.findIn K (.ref c_Sun) "date_of" = some (some (.ref f26))) (l26 : K.lookup f26 = some ⟨oc26, od26, .func (PySem.W.fnOf "date_of" "Calendar.date_of" (defArgs s_Sun_date_of) (defBody s_Sun_date_of) (defScope s_Sun_date_of) .none kV26 dc26 pm26 an26 cd26 ct26), sl26⟩) (c26 : PySem.W.codeIn K cd26 "Calendar.date_of" = true) (k26 : PySem.W.keepIn K (.ref f26) = true)
    (u26 : PySem.W.typeIn K (.ref f26) = some (.type "function"))
    (a27 : PySem.W.findIn K (.ref c_Moon) "date_of" = some (some (.ref f27))) (l27 : K.lookup f27 = some ⟨oc27, od27, .func (PySem.W.fnOf "date_of" "Calendar.date_of" (defArgs s_Moon_date_of) (defBody s_Moon_date_of) (defScope s_Moon_date_of) .none kV27 dc27 pm27 an27 cd27 ct27), sl27⟩) (c27 : PySem.W.codeIn K cd27 "Calendar.date_of" = true) (k27 : PySem.W.keepIn K (.ref f27) = true)
    (u27 : PySem.W.typeIn K (.ref f27) = some (.type "function"))
    (a28 : PySem.W.findIn K (.ref c_Sun) "day_of" = some (some (.ref f28))) (l28 : K.lookup f28 = some ⟨oc28, od28, .func (PySem.W.fnOf "day_of" "Calendar.day_of" (defArgs s_Sun_day_of) (defBody s_Sun_day_of) (defScope s_Sun_day_of) .none kV28 dc28 pm28 an28 cd28 ct28), sl28⟩) (c28 : PySem.W.codeIn K cd28 "Calendar.day_of" = true) (k28 : PySem.W.keepIn K (.ref f28) = true)
    (u28 : PySem.W.typeIn K (.ref f28) = some (.type "function"))
    (a29 : PySem.W.findIn K (.ref c_Moon) "day_of" = some (some (.ref f29))) (l29 : K.lookup f29 = some ⟨oc29, od29, .func (PySem.W.fnOf "day_of" "Calendar.day_of" (defArgs s_Moon_day_of) (defBody s_Moon_day_of) (defScope s_Moon_day_of) .none kV29 dc29 pm29 an29 cd29 ct29), sl29⟩) (c29 : PySem.W.codeIn K cd29 "Calendar.day_of" = true) (k29 : PySem.W.keepIn K (.ref f29) = true)
    (u29 : PySem.W.typeIn K (.ref f29) = some (.type "function"))
    (a30 : PySem.W.findIn K (.ref c_Change) "date_of" = some (some (.ref f30))) (l30 : K.lookup f30 = some ⟨oc30, od30, .func (PySem.W.fnOf "date_of" "Change.date_of" (defArgs s_Change_date_of_n0) (defBody s_Change_date_of_n0) (defScope s_Change_date_of_n0) .none kV30 dc30 pm30 an30 cd30 ct30), sl30⟩) (c30 : PySem.W.codeIn K cd30 "Change.date_of" = true) (k30 : PySem.W.keepIn K (.ref f30) = true)
    (u30 : PySem.W.typeIn K (.ref f30) = some (.type "function"))
    (a31 : PySem.W.findIn K (.ref c_Change) "date_of" = some (some (.ref f31))) (l31 : K.lookup f31 = some ⟨oc31, od31, .func (PySem.W.fnOf "date_of" "Change.date_of" (defArgs s_Change_date_of_n1) (defBody s_Change_date_of_n1) (defScope s_Change_date_of_n1) .none kV31 dc31 pm31 an31 cd31 ct31), sl31⟩) (c31 : PySem.W.codeIn K cd31 "Change.date_of" = true) (k31 : PySem.W.keepIn K (.ref f31) = true)
    (u31 : PySem.W.typeIn K (.ref f31) = some (.type "function"))
    (a32 : PySem.W.findIn K (.ref c_Change) "date_of" = some (some (.ref f32))) (l32 : K.lookup f32 = some ⟨oc32, od32, .func (PySem.W.fnOf "date_of" "Change.date_of" (defArgs s_Change_date_of) (defBody s_Change_date_of) (defScope s_Change_date_of) .none kV32 dc32 pm32 an32 cd32 ct32), sl32⟩) (c32 : PySem.W.codeIn K cd32 "Change.date_of" = true) (k32 : PySem.W.keepIn K (.ref f32) = true)
    (u32 : PySem.W.typeIn K (.ref f32) = some (.type "function"))
    (a33 : PySem.W.findIn K (.ref c_Change) "day_of" = some (some (.ref f33))) (l33 : K.lookup f33 = some ⟨oc33, od33, .func (PySem.W.fnOf "day_of" "Change.day_of" (defArgs s_Change_day_of_n0) (defBody s_Change_day_of_n0) (defScope s_Change_day_of_n0) .none kV33 dc33 pm33 an33 cd33 ct33), sl33⟩) (c33 : PySem.W.codeIn K cd33 "Change.day_of" = true) (k33 : PySem.W.keepIn K (.ref f33) = true)
    (u33 : PySem.W.typeIn K (.ref f33) = some (.type "function"))
    (a34 : PySem.W.findIn K (.ref c_Change) "day_of" = some (some (.ref f34))) (l34 : K.lookup f34 = some ⟨oc34, od34, .func (PySem.W.fnOf "day_of" "Change.day_of" (defArgs s_Change_day_of_n1) (defBody s_Change_day_of_n1) (defScope s_Change_day_of_n1) .none kV34 dc34 pm34 an34 cd34 ct34), sl34⟩) (c34 : PySem.W.codeIn K cd34 "Change.day_of" = true) (k34 : PySem.W.keepIn K (.ref f34) = true)
    (u34 : PySem.W.typeIn K (.ref f34) = some (.type "function"))
    (a35 : PySem.W.findIn K (.ref c_Change) "day_of" = some (some (.ref f35))) (l35 : K.lookup f35 = some ⟨oc35, od35, .func (PySem.W.fnOf "day_of" "Change.day_of" (defArgs s_Change_day_of) (defBody s_Change_day_of) (defScope s_Change_day_of) .none kV35 dc35 pm35 an35 cd35 ct35), sl35⟩) (c35 : PySem.W.codeIn K cd35 "Change.day_of" = true) (k35 : PySem.W.keepIn K (.ref f35) = true)
    (u35 : PySem.W.typeIn K (.ref f35) = some (.type "function"))
    (a36 : PySem.W.findIn K (.ref c_Change) "__init__" = some (some (.ref f36))) (l36 : K.lookup f36 = some ⟨oc36, od36, .func (PySem.W.fnOf "__init__" "Change.__init__" (defArgs s_Change___init__) (defBody s_Change___init__) (defScope s_Change___init__) .none kV36 dc36 pm36 an36 cd36 ct36), sl36⟩) (c36 : PySem.W.codeIn K cd36 "Change.__init__" = true) (k36 : PySem.W.keepIn K (.ref f36) = true)
    (u36 : PySem.W.typeIn K (.ref f36) = some (.type "function"))
    (a37 : PySem.W.nsIn K mainGlobals "_law_cell_at" = some (some (.ref f37))) (l37 : K.lookup f37 = some ⟨oc37, od37, .func (PySem.W.fnOf "_law_cell_at" "_law_cell_at" (defArgs s_law_cell_at) (defBody s_law_cell_at) (defScope s_law_cell_at) .none kV37 dc37 pm37 an37 cd37 ct37), sl37⟩) (c37 : PySem.W.codeIn K cd37 "_law_cell_at" = true) (k37 : PySem.W.keepIn K (.ref f37) = true)
    (a38 : PySem.W.nsIn K mainGlobals "_law_whole" = some (some (.ref f38))) (l38 : K.lookup f38 = some ⟨oc38, od38, .func (PySem.W.fnOf "_law_whole" "_law_whole" (defArgs s_law_whole) (defBody s_law_whole) (defScope s_law_whole) .none kV38 dc38 pm38 an38 cd38 ct38), sl38⟩) (c38 : PySem.W.codeIn K cd38 "_law_whole" = true) (k38 : PySem.W.keepIn K (.ref f38) = true)
    (a39 : PySem.W.nsIn K mainGlobals "_law_number" = some (some (.ref f39))) (l39 : K.lookup f39 = some ⟨oc39, od39, .func (PySem.W.fnOf "_law_number" "_law_number" (defArgs s_law_number) (defBody s_law_number) (defScope s_law_number) .none kV39 dc39 pm39 an39 cd39 ct39), sl39⟩) (c39 : PySem.W.codeIn K cd39 "_law_number" = true) (k39 : PySem.W.keepIn K (.ref f39) = true)
    (a40 : PySem.W.nsIn K mainGlobals "_law_mixed" = some (some (.ref f40))) (l40 : K.lookup f40 = some ⟨oc40, od40, .func (PySem.W.fnOf "_law_mixed" "_law_mixed" (defArgs s_law_mixed) (defBody s_law_mixed) (defScope s_law_mixed) .none kV40 dc40 pm40 an40 cd40 ct40), sl40⟩) (c40 : PySem.W.codeIn K cd40 "_law_mixed" = true) (k40 : PySem.W.keepIn K (.ref f40) = true)
    (a41 : PySem.W.nsIn K mainGlobals "_law_terms" = some (some (.ref f41))) (l41 : K.lookup f41 = some ⟨oc41, od41, .func (PySem.W.fnOf "_law_terms" "_law_terms" (defArgs s_law_terms) (defBody s_law_terms) (defScope s_law_terms) .none kV41 dc41 pm41 an41 cd41 ct41), sl41⟩) (c41 : PySem.W.codeIn K cd41 "_law_terms" = true) (k41 : PySem.W.keepIn K (.ref f41) = true)
    (a42 : PySem.W.nsIn K mainGlobals "_law_made" = some (some (.ref f42))) (l42 : K.lookup f42 = some ⟨oc42, od42, .func (PySem.W.fnOf "_law_made" "_law_made" (defArgs s_law_made) (defBody s_law_made) (defScope s_law_made) .none kV42 dc42 pm42 an42 cd42 ct42), sl42⟩) (c42 : PySem.W.codeIn K cd42 "_law_made" = true) (k42 : PySem.W.keepIn K (.ref f42) = true)
    (a43 : PySem.W.nsIn K mainGlobals "_law_begun" = some (some (.ref f43))) (l43 : K.lookup f43 = some ⟨oc43, od43, .func (PySem.W.fnOf "_law_begun" "_law_begun" (defArgs s_law_begun) (defBody s_law_begun) (defScope s_law_begun) .none kV43 dc43 pm43 an43 cd43 ct43), sl43⟩) (c43 : PySem.W.codeIn K cd43 "_law_begun" = true) (k43 : PySem.W.keepIn K (.ref f43) = true)
    (a44 : PySem.W.nsIn K mainGlobals "_law_is_date" = some (some (.ref f44))) (l44 : K.lookup f44 = some ⟨oc44, od44, .func (PySem.W.fnOf "_law_is_date" "_law_is_date" (defArgs s_law_is_date) (defBody s_law_is_date) (defScope s_law_is_date) .none kV44 dc44 pm44 an44 cd44 ct44), sl44⟩) (c44 : PySem.W.codeIn K cd44 "_law_is_date" = true) (k44 : PySem.W.keepIn K (.ref f44) = true)
    (a45 : PySem.W.nsIn K mainGlobals "_law_change" = some (some (.ref f45))) (l45 : K.lookup f45 = some ⟨oc45, od45, .func (PySem.W.fnOf "_law_change" "_law_change" (defArgs s_law_change) (defBody s_law_change) (defScope s_law_change) .none kV45 dc45 pm45 an45 cd45 ct45), sl45⟩) (c45 : PySem.W.codeIn K cd45 "_law_change" = true) (k45 : PySem.W.keepIn K (.ref f45) = true)
    (a46 : PySem.W.nsIn K mainGlobals "_law_held" = some (some (.ref f46))) (l46 : K.lookup f46 = some ⟨oc46, od46, .func (PySem.W.fnOf "_law_held" "_law_held" (defArgs s_law_held) (defBody s_law_held) (defScope s_law_held) .none kV46 dc46 pm46 an46 cd46 ct46), sl46⟩) (c46 : PySem.W.codeIn K cd46 "_law_held" = true) (k46 : PySem.W.keepIn K (.ref f46) = true)
    (a47 : PySem.W.nsIn K mainGlobals "law" = some (some (.ref f47))) (l47 : K.lookup f47 = some ⟨oc47, od47, .func (PySem.W.fnOf "law" "law" (defArgs s_law) (defBody s_law) (defScope s_law) .none kV47 dc47 pm47 an47 cd47 ct47), sl47⟩) (c47 : PySem.W.codeIn K cd47 "law" = true) (k47 : PySem.W.keepIn K (.ref f47) = true)
    (z_sum : PySem.W.nsIn K mainGlobals "sum" = some none)
    (z_len : PySem.W.nsIn K mainGlobals "len" = some none)
    (z_all : PySem.W.nsIn K mainGlobals "all" = some none)
    (z_tuple : PySem.W.nsIn K mainGlobals "tuple" = some none)
    (z_min : PySem.W.nsIn K mainGlobals "min" = some none)
    (z_max : PySem.W.nsIn K mainGlobals "max" = some none)
    (z_list : PySem.W.nsIn K mainGlobals "list" = some none)
    (z_range : PySem.W.nsIn K mainGlobals "range" = some none)
    (z_isinstance : PySem.W.nsIn K mainGlobals "isinstance" = some none)
    (z_int : PySem.W.nsIn K mainGlobals "int" = some none)
    (z_bool : PySem.W.nsIn K mainGlobals "bool" = some none)
    (m_GREATEST_N : PySem.W.nsIn K mainGlobals "GREATEST_N" = some (some (.int 1000 tk_GREATEST_N)))
    (m_GREATEST_BASE : PySem.W.nsIn K mainGlobals "GREATEST_BASE" = some (some (.int 20000 tk_GREATEST_BASE)))
    (m_MOST_TERMS : PySem.W.nsIn K mainGlobals "MOST_TERMS" = some (some (.int 6 tk_MOST_TERMS)))
    (m_MOST_MONTHS : PySem.W.nsIn K mainGlobals "MOST_MONTHS" = some (some (.int 20 tk_MOST_MONTHS)))
    (m_LONGEST_MONTH : PySem.W.nsIn K mainGlobals "LONGEST_MONTH" = some (some (.int 1000 tk_LONGEST_MONTH)))
    : ∃ fd : FuncData, (∀ (s : Shared) (v : Value), BindsTo s fd ⟨[v], []⟩ [("_law_script", v)]) ∧ ∀ base : Heap, K.In base → base.Ns mainGlobals mg → FnOk l.prog w K mg base CX0 11 fa fd ["_law_script"] (spLaw K) := by
  have e := hfa.symm.trans (PySem.W.mg_of X G a47)
  cases e
  have F0 := fun_mk (st := s_NoDate___init__) l0 c0 k0
  have b0 := F0.binds (ps := ["self", "date"]) fun _ _ _ _ _ _ us hl => by obtain ⟨_, _, rfl⟩ := len2 hl; rfl
  have F1 := fun_mk (st := s_InGap___init__) l1 c1 k1
  have b1 := F1.binds (ps := ["self", "date", "day"]) fun _ _ _ _ _ _ us hl => by obtain ⟨_, _, _, rfl⟩ := len3 hl; rfl
  have F2 := fun_mk (st := s_refuse_below_one) l2 c2 k2
  have b2 := F2.binds (ps := ["number"]) fun _ _ _ _ _ _ us hl => by obtain ⟨_, rfl⟩ := len1 hl; rfl
  have F3 := fun_mk (st := s_equation) l3 c3 k3
  have b3 := F3.binds (ps := ["one", "other"]) fun _ _ _ _ _ _ us hl => by obtain ⟨_, _, rfl⟩ := len2 hl; rfl
  have F4 := fun_mk (st := s_divisor) l4 c4 k4
  have b4 := F4.binds (ps := ["one", "other"]) fun _ _ _ _ _ _ us hl => by obtain ⟨_, _, rfl⟩ := len2 hl; rfl
  have F5 := fun_mk (st := s_common) l5 c5 k5
  have b5 := F5.binds (ps := ["one", "other"]) fun _ _ _ _ _ _ us hl => by obtain ⟨_, _, rfl⟩ := len2 hl; rfl
  have F6 := fun_mk (st := s_term_on) l6 c6 k6
  have b6 := F6.binds (ps := ["term", "k"]) fun _ _ _ _ _ _ us hl => by obtain ⟨_, _, rfl⟩ := len2 hl; rfl
  have F7 := fun_mk (st := s_signs_upto) l7 c7 k7
  have b7 := F7.binds (ps := ["terms", "k"]) fun _ _ _ _ _ _ us hl => by obtain ⟨_, _, rfl⟩ := len2 hl; rfl
  have F8 := fun_mk (st := s_is_term) l8 c8 k8
  have b8 := F8.binds (ps := ["term"]) fun _ _ _ _ _ _ us hl => by obtain ⟨_, rfl⟩ := len1 hl; rfl
  have F9 := fun_mk (st := s_least_length) l9 c9 k9
  have b9 := F9.binds (ps := ["base", "terms"]) fun _ _ _ _ _ _ us hl => by obtain ⟨_, _, rfl⟩ := len2 hl; rfl
  have F10 := fun_mk (st := s_refuse_measure) l10 c10 k10
  have b10 := F10.binds (ps := ["base", "terms"]) fun _ _ _ _ _ _ us hl => by obtain ⟨_, _, rfl⟩ := len2 hl; rfl
  have F11 := fun_mk (st := s_period_of) l11 c11 k11
  have b11 := F11.binds (ps := ["terms"]) fun _ _ _ _ _ _ us hl => by obtain ⟨_, rfl⟩ := len1 hl; rfl
  have F12 := fun_mk (st := s_Measure_upto) l12 c12 k12
  have b12 := F12.binds (ps := ["self", "k"]) fun _ _ _ _ _ _ us hl => by obtain ⟨_, _, rfl⟩ := len2 hl; rfl
  have F13 := fun_mkD (st := s_Measure___init__) l13 c13 k13 t13 rfl
  have b13 := FunD.bindsD (ps := ["self", "base", "terms"]) (dv := []) 3 rfl F13 fun _ _ _ _ _ _ _ us hl => by obtain ⟨_, _, _, rfl⟩ := len3 hl; exact ⟨_, rfl, rfl⟩
  have F14 := fun_mk (st := s_Measure_at) l14 c14 k14
  have b14 := F14.binds (ps := ["self", "k"]) fun _ _ _ _ _ _ us hl => by obtain ⟨_, _, rfl⟩ := len2 hl; rfl
  have F15 := fun_mk (st := s_Measure_seek) l15 c15 k15
  have b15 := F15.binds (ps := ["self", "total"]) fun _ _ _ _ _ _ us hl => by obtain ⟨_, _, rfl⟩ := len2 hl; rfl
  have F16 := fun_mk (st := s_refuse_months) l16 c16 k16
  have b16 := F16.binds (ps := ["lengths", "leap"]) fun _ _ _ _ _ _ us hl => by obtain ⟨_, _, rfl⟩ := len2 hl; rfl
  have F17 := fun_mkD (st := s_Sun___init__) l17 c17 k17 t17 rfl
  have b17 := FunD.bindsD (ps := ["self", "start", "lengths", "leap", "terms"]) (dv := []) 5 rfl F17 fun _ _ _ _ _ _ _ us hl => by obtain ⟨_, _, _, _, _, rfl⟩ := len5 hl; exact ⟨_, rfl, rfl⟩
  have F18 := fun_mk (st := s_Sun_year_start) l18 c18 k18
  have b18 := F18.binds (ps := ["self", "year"]) fun _ _ _ _ _ _ us hl => by obtain ⟨_, _, rfl⟩ := len2 hl; rfl
  have F19 := fun_mk (st := s_Sun_year_at) l19 c19 k19
  have b19 := F19.binds (ps := ["self", "day"]) fun _ _ _ _ _ _ us hl => by obtain ⟨_, _, rfl⟩ := len2 hl; rfl
  have F20 := fun_mk (st := s_Sun_lengths) l20 c20 k20
  have b20 := F20.binds (ps := ["self", "year"]) fun _ _ _ _ _ _ us hl => by obtain ⟨_, _, rfl⟩ := len2 hl; rfl
  have F21 := fun_mk (st := s_refuse_part) l21 c21 k21
  have b21 := F21.binds (ps := ["measure", "greatest"]) fun _ _ _ _ _ _ us hl => by obtain ⟨_, _, rfl⟩ := len2 hl; rfl
  have F22 := fun_mk (st := s_Moon___init__) l22 c22 k22
  have b22 := F22.binds (ps := ["self", "start", "days", "many"]) fun _ _ _ _ _ _ us hl => by obtain ⟨_, _, _, _, rfl⟩ := len4 hl; rfl
  have F23 := fun_mk (st := s_Moon_year_start) l23 c23 k23
  have b23 := F23.binds (ps := ["self", "year"]) fun _ _ _ _ _ _ us hl => by obtain ⟨_, _, rfl⟩ := len2 hl; rfl
  have F24 := fun_mk (st := s_Moon_year_at) l24 c24 k24
  have b24 := F24.binds (ps := ["self", "day"]) fun _ _ _ _ _ _ us hl => by obtain ⟨_, _, rfl⟩ := len2 hl; rfl
  have F25 := fun_mk (st := s_Moon_lengths) l25 c25 k25
  have b25 := F25.binds (ps := ["self", "year"]) fun _ _ _ _ _ _ us hl => by obtain ⟨_, _, rfl⟩ := len2 hl; rfl
  have F26 := fun_mk (st := s_Sun_date_of) l26 c26 k26
  have b26 := F26.binds (ps := ["self", "day"]) fun _ _ _ _ _ _ us hl => by obtain ⟨_, _, rfl⟩ := len2 hl; rfl
  have F27 := fun_mk (st := s_Moon_date_of) l27 c27 k27
  have b27 := F27.binds (ps := ["self", "day"]) fun _ _ _ _ _ _ us hl => by obtain ⟨_, _, rfl⟩ := len2 hl; rfl
  have F28 := fun_mk (st := s_Sun_day_of) l28 c28 k28
  have b28 := F28.binds (ps := ["self", "date"]) fun _ _ _ _ _ _ us hl => by obtain ⟨_, _, rfl⟩ := len2 hl; rfl
  have F29 := fun_mk (st := s_Moon_day_of) l29 c29 k29
  have b29 := F29.binds (ps := ["self", "date"]) fun _ _ _ _ _ _ us hl => by obtain ⟨_, _, rfl⟩ := len2 hl; rfl
  have F30 := fun_mk (st := s_Change_date_of_n0) l30 c30 k30
  have b30 := F30.binds (ps := ["self", "day"]) fun _ _ _ _ _ _ us hl => by obtain ⟨_, _, rfl⟩ := len2 hl; rfl
  have F31 := fun_mk (st := s_Change_date_of_n1) l31 c31 k31
  have b31 := F31.binds (ps := ["self", "day"]) fun _ _ _ _ _ _ us hl => by obtain ⟨_, _, rfl⟩ := len2 hl; rfl
  have F32 := fun_mk (st := s_Change_date_of) l32 c32 k32
  have b32 := F32.binds (ps := ["self", "day"]) fun _ _ _ _ _ _ us hl => by obtain ⟨_, _, rfl⟩ := len2 hl; rfl
  have F33 := fun_mk (st := s_Change_day_of_n0) l33 c33 k33
  have b33 := F33.binds (ps := ["self", "date"]) fun _ _ _ _ _ _ us hl => by obtain ⟨_, _, rfl⟩ := len2 hl; rfl
  have F34 := fun_mk (st := s_Change_day_of_n1) l34 c34 k34
  have b34 := F34.binds (ps := ["self", "date"]) fun _ _ _ _ _ _ us hl => by obtain ⟨_, _, rfl⟩ := len2 hl; rfl
  have F35 := fun_mk (st := s_Change_day_of) l35 c35 k35
  have b35 := F35.binds (ps := ["self", "date"]) fun _ _ _ _ _ _ us hl => by obtain ⟨_, _, rfl⟩ := len2 hl; rfl
  have F36 := fun_mk (st := s_Change___init__) l36 c36 k36
  have b36 := F36.binds (ps := ["self", "old", "new", "day"]) fun _ _ _ _ _ _ us hl => by obtain ⟨_, _, _, _, rfl⟩ := len4 hl; rfl
  have F37 := fun_mk (st := s_law_cell_at) l37 c37 k37
  have b37 := F37.binds (ps := ["_law_script", "_law_k"]) fun _ _ _ _ _ _ us hl => by obtain ⟨_, _, rfl⟩ := len2 hl; rfl
  have F38 := fun_mk (st := s_law_whole) l38 c38 k38
  have b38 := F38.binds (ps := ["_law_found"]) fun _ _ _ _ _ _ us hl => by obtain ⟨_, rfl⟩ := len1 hl; rfl
  have F39 := fun_mk (st := s_law_number) l39 c39 k39
  have b39 := F39.binds (ps := ["_law_cell"]) fun _ _ _ _ _ _ us hl => by obtain ⟨_, rfl⟩ := len1 hl; rfl
  have F40 := fun_mk (st := s_law_mixed) l40 c40 k40
  have b40 := F40.binds (ps := ["_law_cell", "_law_k"]) fun _ _ _ _ _ _ us hl => by obtain ⟨_, _, rfl⟩ := len2 hl; rfl
  have F41 := fun_mk (st := s_law_terms) l41 c41 k41
  have b41 := F41.binds (ps := ["_law_cell", "_law_many"]) fun _ _ _ _ _ _ us hl => by obtain ⟨_, _, rfl⟩ := len2 hl; rfl
  have F42 := fun_mk (st := s_law_made) l42 c42 k42
  have b42 := F42.binds (ps := ["_law_cell", "_law_start"]) fun _ _ _ _ _ _ us hl => by obtain ⟨_, _, rfl⟩ := len2 hl; rfl
  have F43 := fun_mk (st := s_law_begun) l43 c43 k43
  have b43 := F43.binds (ps := ["_law_cell", "_law_year", "_law_day"]) fun _ _ _ _ _ _ us hl => by obtain ⟨_, _, _, rfl⟩ := len3 hl; rfl
  have F44 := fun_mk (st := s_law_is_date) l44 c44 k44
  have b44 := F44.binds (ps := ["_law_found"]) fun _ _ _ _ _ _ us hl => by obtain ⟨_, rfl⟩ := len1 hl; rfl
  have F45 := fun_mk (st := s_law_change) l45 c45 k45
  have b45 := F45.binds (ps := ["_law_old", "_law_new", "_law_day"]) fun _ _ _ _ _ _ us hl => by obtain ⟨_, _, _, rfl⟩ := len3 hl; rfl
  have F46 := fun_mk (st := s_law_held) l46 c46 k46
  have b46 := F46.binds (ps := ["_law_change_here", "_law_old", "_law_new", "_law_day", "_law_some"]) fun _ _ _ _ _ _ us hl => by obtain ⟨_, _, _, _, _, rfl⟩ := len5 hl; rfl
  have F47 := fun_mk (st := s_law) l47 c47 k47
  have y_sum := PySem.W.mg_none_of X G z_sum
  have y_len := PySem.W.mg_none_of X G z_len
  have y_all := PySem.W.mg_none_of X G z_all
  have y_tuple := PySem.W.mg_none_of X G z_tuple
  have y_min := PySem.W.mg_none_of X G z_min
  have y_max := PySem.W.mg_none_of X G z_max
  have y_list := PySem.W.mg_none_of X G z_list
  have y_range := PySem.W.mg_none_of X G z_range
  have y_isinstance := PySem.W.mg_none_of X G z_isinstance
  have y_int := PySem.W.mg_none_of X G z_int
  have y_bool := PySem.W.mg_none_of X G z_bool
  have y_GREATEST_N := PySem.W.mg_of X G m_GREATEST_N
  have y_GREATEST_BASE := PySem.W.mg_of X G m_GREATEST_BASE
  have y_MOST_TERMS := PySem.W.mg_of X G m_MOST_TERMS
  have y_MOST_MONTHS := PySem.W.mg_of X G m_MOST_MONTHS
  have y_LONGEST_MONTH := PySem.W.mg_of X G m_LONGEST_MONTH
  refine ⟨PySem.W.fnOf "law" "law" (defArgs s_law) (defBody s_law) (defScope s_law) .none kV47 dc47 pm47 an47 cd47 ct47, fun s v => .of_eq rfl, fun base _ _ => ?_⟩
  have er : Errs K mg c_FeastError c_NoNumber c_NoMeasure c_NoDate c_InGap c_NoChange c_Measure c_Calendar c_Sun c_Moon c_Change := ⟨PySem.W.mg_of X G n_FeastError, PySem.W.mg_of X G n_NoDate, ⟨PySem.W.mg_of X G n_NoChange, t_NoChange, has_cls k_NoChange, b_NoChange⟩, ⟨⟨_, _, _, _, _, _, _, o_NoDate, om_NoDate, od_NoDate, oh_NoDate⟩, e_FeastError, sa_NoDate⟩, ⟨PySem.W.mg_of X G n_FeastError, fs_FeastError, fr_FeastError, ff_FeastError⟩, na_NoDate_date, ⟨⟨_, _, _, _, _, _, _, o_InGap, om_InGap, od_InGap, oh_InGap⟩, e_FeastError, sa_InGap⟩, na_InGap_date, na_InGap_day, ⟨PySem.W.mg_of X G n_NoChange, e_NoChange⟩, ⟨ga_NoChange, gk_NoChange, b_NoChange, ob_NoChange, ca_NoChange, has_cls k_NoChange, xsp, xtk⟩, i_NoChange_FeastError, i_NoChange_NoDate, r_NoChange_NoChange, ⟨pg_Measure, k_Measure, po_Measure, sa_Measure⟩, na_Measure_base, na_Measure_terms, na_Measure_full_count, na_Measure_full_sum, ⟨pg_Sun, k_Sun, po_Sun, sa_Sun⟩, na_Sun_start, na_Sun_months, na_Sun_leap, na_Sun_years, ⟨pg_Moon, k_Moon, po_Moon, sa_Moon⟩, na_Moon_start, na_Moon_days, na_Moon_many, ⟨pg_Change, k_Change, po_Change, sa_Change⟩, na_Change_old, na_Change_new, na_Change_day, na_Change_last_old, na_Change_first_new, PySem.W.mg_of X G n_Calendar, i_Change_Calendar, ca_Change, ob_Change, xsp, xtk⟩
  have C_NoDate___init__ : CalX l.prog w K mg base 1 "NoDate" c_NoDate c_FeastError ["self", "date"] (spInitD K c_NoDate "date") := ⟨⟨f0, _, ok_NoDate___init__ F0 er, b0, ⟨er.o_NoDate, PySem.W.mg_of X G n_NoDate, kp_NoDate, a0, u0⟩⟩⟩
  have C_InGap___init__ : CalX l.prog w K mg base 1 "InGap" c_InGap c_FeastError ["self", "date", "day"] (spInitG K c_InGap) := ⟨⟨f1, _, ok_InGap___init__ F1 er, b1, ⟨er.o_InGap, PySem.W.mg_of X G n_InGap, kp_InGap, a1, u1⟩⟩⟩
  have C_refuse_below_one : Cal l.prog w K mg base 1 "refuse_below_one" ["number"] spRefuse := ⟨⟨f2, _, ok_refuse_below_one F2, b2, k2, PySem.W.mg_of X G a2⟩⟩
  have C_equation : Cal l.prog w K mg base 1 "equation" ["one", "other"] spEq := ⟨⟨f3, _, ok_equation F3, b3, k3, PySem.W.mg_of X G a3⟩⟩
  have C_divisor : Cal l.prog w K mg base 2 "divisor" ["one", "other"] spDivisor := ⟨⟨f4, _, ok_divisor F4 C_equation, b4, k4, PySem.W.mg_of X G a4⟩⟩
  have C_common : Cal l.prog w K mg base 3 "common" ["one", "other"] spCommon := ⟨⟨f5, _, ok_common F5 C_refuse_below_one C_divisor, b5, k5, PySem.W.mg_of X G a5⟩⟩
  have C_term_on : Cal l.prog w K mg base 1 "term_on" ["term", "k"] spTermOn := ⟨⟨f6, _, ok_term_on F6, b6, k6, PySem.W.mg_of X G a6⟩⟩
  have C_signs_upto : Cal l.prog w K mg base 1 "signs_upto" ["terms", "k"] (spSigns K) := ⟨⟨f7, _, ok_signs_upto F7 y_sum, b7, k7, PySem.W.mg_of X G a7⟩⟩
  have C_is_term : Cal l.prog w K mg base 1 "is_term" ["term"] spIsTerm := ⟨⟨f8, _, ok_is_term F8 y_GREATEST_N, b8, k8, PySem.W.mg_of X G a8⟩⟩
  have C_least_length : Cal l.prog w K mg base 1 "least_length" ["base", "terms"] (spLeast K) := ⟨⟨f9, _, ok_least_length F9 y_len, b9, k9, PySem.W.mg_of X G a9⟩⟩
  have C_refuse_measure : Cal l.prog w K mg base 2 "refuse_measure" ["base", "terms"] (spRefuseM K) := ⟨⟨f10, _, ok_refuse_measure F10 C_is_term C_least_length y_len y_all y_GREATEST_BASE y_MOST_TERMS, b10, k10, PySem.W.mg_of X G a10⟩⟩
  have C_period_of : Cal l.prog w K mg base 4 "period_of" ["terms"] (spPeriod K) := ⟨⟨f11, _, ok_period_of F11 C_common, b11, k11, PySem.W.mg_of X G a11⟩⟩
  have C_Measure_upto : CalM l.prog w K mg base CX0 2 c_Measure "upto" ["self", "k"] (spUpto K c_Measure) := ⟨⟨f12, _, ok_Measure_upto F12 er C_signs_upto, b12, ⟨a12, beq_iff_eq.mpr u12, k12⟩⟩⟩
  have C_Measure___init__ : CalI l.prog w K mg base CX0 5 "Measure" c_Measure ["self", "base", "terms"] (spInitM K c_Measure) := ⟨⟨f13, _, ok_Measure___init__ F13 er C_refuse_measure C_period_of C_Measure_upto y_tuple, b13, ⟨mk_Measure, a13, beq_iff_eq.mpr u13, kp_Measure⟩, PySem.W.mg_of X G n_Measure⟩⟩
  have C_Measure_at : CalM l.prog w K mg base CX0 2 c_Measure "at" ["self", "k"] (spAt K c_Measure) := ⟨⟨f14, _, ok_Measure_at F14 er C_term_on y_sum, b14, ⟨a14, beq_iff_eq.mpr u14, k14⟩⟩⟩
  have C_Measure_seek : CalM l.prog w K mg base CX0 3 c_Measure "seek" ["self", "total"] (spSeek K c_Measure) := ⟨⟨f15, _, ok_Measure_seek F15 er C_Measure_upto, b15, ⟨a15, beq_iff_eq.mpr u15, k15⟩⟩⟩
  have C_refuse_months : Cal l.prog w K mg base 1 "refuse_months" ["lengths", "leap"] (spRefMo K) := ⟨⟨f16, _, ok_refuse_months F16 y_len y_min y_max y_MOST_MONTHS y_LONGEST_MONTH, b16, k16, PySem.W.mg_of X G a16⟩⟩
  have C_Sun___init__ : CalI l.prog w K mg base CX0 7 "Sun" c_Sun ["self", "start", "lengths", "leap", "terms"] (spInitS K c_Sun c_Measure) := ⟨⟨f17, _, ok_Sun___init__ F17 er C_refuse_months C_Measure___init__ C_least_length y_tuple y_sum, b17, ⟨mk_Sun, a17, beq_iff_eq.mpr u17, kp_Sun⟩, PySem.W.mg_of X G n_Sun⟩⟩
  have C_Sun_year_start : CalM l.prog w K mg base CX0 3 c_Sun "year_start" ["self", "year"] (spYS K c_Sun c_Measure) := ⟨⟨f18, _, ok_Sun_year_start F18 er C_Measure_upto, b18, ⟨a18, beq_iff_eq.mpr u18, k18⟩⟩⟩
  have C_Sun_year_at : CalM l.prog w K mg base CX0 4 c_Sun "year_at" ["self", "day"] (spYA K c_Sun c_Measure) := ⟨⟨f19, _, ok_Sun_year_at F19 er C_Measure_seek, b19, ⟨a19, beq_iff_eq.mpr u19, k19⟩⟩⟩
  have C_Sun_lengths : CalM l.prog w K mg base CX0 3 c_Sun "lengths" ["self", "year"] (spLens K c_Sun c_Measure) := ⟨⟨f20, _, ok_Sun_lengths F20 er C_Measure_at y_list, b20, ⟨a20, beq_iff_eq.mpr u20, k20⟩⟩⟩
  have C_refuse_part : Cal l.prog w K mg base 2 "refuse_part" ["measure", "greatest"] (spRefPt K c_Measure) := ⟨⟨f21, _, ok_refuse_part F21 er C_least_length, b21, k21, PySem.W.mg_of X G a21⟩⟩
  have C_Moon___init__ : CalI l.prog w K mg base CX0 3 "Moon" c_Moon ["self", "start", "days", "many"] (spInitMo K c_Moon c_Measure) := ⟨⟨f22, _, ok_Moon___init__ F22 er C_refuse_part y_LONGEST_MONTH y_MOST_MONTHS, b22, ⟨mk_Moon, a22, beq_iff_eq.mpr u22, kp_Moon⟩, PySem.W.mg_of X G n_Moon⟩⟩
  have C_Moon_year_start : CalM l.prog w K mg base CX0 3 c_Moon "year_start" ["self", "year"] (spMYS K c_Moon c_Measure) := ⟨⟨f23, _, ok_Moon_year_start F23 er C_Measure_upto, b23, ⟨a23, beq_iff_eq.mpr u23, k23⟩⟩⟩
  have C_Moon_year_at : CalM l.prog w K mg base CX0 4 c_Moon "year_at" ["self", "day"] (spMYA K c_Moon c_Measure) := ⟨⟨f24, _, ok_Moon_year_at F24 er C_Measure_seek, b24, ⟨a24, beq_iff_eq.mpr u24, k24⟩⟩⟩
  have C_Moon_lengths : CalM l.prog w K mg base CX0 3 c_Moon "lengths" ["self", "year"] (spMLens K c_Moon c_Measure) := ⟨⟨f25, _, ok_Moon_lengths F25 er C_Measure_upto C_Measure_at y_range, b25, ⟨a25, beq_iff_eq.mpr u25, k25⟩⟩⟩
  have C_Sun_date_of : CalM l.prog w K mg base CX0 5 c_Sun "date_of" ["self", "day"] (spDate K c_Sun c_Moon c_Measure true) := ⟨⟨f26, _, ok_Sun_date_of F26 er C_Sun_year_at C_Sun_year_start C_Sun_lengths, b26, ⟨a26, beq_iff_eq.mpr u26, k26⟩⟩⟩
  have C_Moon_date_of : CalM l.prog w K mg base CX0 5 c_Moon "date_of" ["self", "day"] (spDate K c_Sun c_Moon c_Measure false) := ⟨⟨f27, _, ok_Moon_date_of F27 er C_Moon_year_at C_Moon_year_start C_Moon_lengths, b27, ⟨a27, beq_iff_eq.mpr u27, k27⟩⟩⟩
  have C_Sun_day_of : CalM l.prog w K mg base (CX1 l.prog w) 4 c_Sun "day_of" ["self", "date"] (spDayE K c_Sun c_Moon c_Measure c_NoDate true) := ⟨⟨f28, _, ok_Sun_day_of F28 er C_Sun_lengths C_NoDate___init__ C_Sun_year_start y_len y_sum, b28, ⟨a28, beq_iff_eq.mpr u28, k28⟩⟩⟩
  have C_Moon_day_of : CalM l.prog w K mg base (CX1 l.prog w) 4 c_Moon "day_of" ["self", "date"] (spDayE K c_Sun c_Moon c_Measure c_NoDate false) := ⟨⟨f29, _, ok_Moon_day_of F29 er C_Moon_lengths C_NoDate___init__ C_Moon_year_start y_len y_sum, b29, ⟨a29, beq_iff_eq.mpr u29, k29⟩⟩⟩
  have C_Change_date_of_n0 : CalM l.prog w K mg base CX0 6 c_Change "date_of" ["self", "day"] (spDateC K c_Sun c_Moon c_Measure c_Change 0) := ⟨⟨f30, _, ok_Change_date_of_n0 F30 er C_Sun_date_of C_Moon_date_of, b30, ⟨a30, beq_iff_eq.mpr u30, k30⟩⟩⟩
  have C_Change_date_of_n1 : CalM l.prog w K mg base CX0 7 c_Change "date_of" ["self", "day"] (spDateC K c_Sun c_Moon c_Measure c_Change 1) := ⟨⟨f31, _, ok_Change_date_of_n1 F31 er C_Sun_date_of C_Moon_date_of C_Change_date_of_n0, b31, ⟨a31, beq_iff_eq.mpr u31, k31⟩⟩⟩
  have C_Change_date_of : CalM l.prog w K mg base CX0 8 c_Change "date_of" ["self", "day"] (spDateC K c_Sun c_Moon c_Measure c_Change 2) := ⟨⟨f32, _, ok_Change_date_of F32 er C_Sun_date_of C_Moon_date_of C_Change_date_of_n1, b32, ⟨a32, beq_iff_eq.mpr u32, k32⟩⟩⟩
  have C_Change_day_of_n0 : CalM l.prog w K mg base (CX1 l.prog w) 5 c_Change "day_of" ["self", "date"] (spDayC K c_Sun c_Moon c_Measure c_Change c_NoDate c_InGap 0) := ⟨⟨f33, _, ok_Change_day_of_n0 F33 er C_Sun_day_of C_Moon_day_of C_InGap___init__, b33, ⟨a33, beq_iff_eq.mpr u33, k33⟩⟩⟩
  have C_Change_day_of_n1 : CalM l.prog w K mg base (CX1 l.prog w) 6 c_Change "day_of" ["self", "date"] (spDayC K c_Sun c_Moon c_Measure c_Change c_NoDate c_InGap 1) := ⟨⟨f34, _, ok_Change_day_of_n1 F34 er C_Sun_day_of C_Moon_day_of C_Change_day_of_n0 C_InGap___init__, b34, ⟨a34, beq_iff_eq.mpr u34, k34⟩⟩⟩
  have C_Change_day_of : CalM l.prog w K mg base (CX1 l.prog w) 7 c_Change "day_of" ["self", "date"] (spDayC K c_Sun c_Moon c_Measure c_Change c_NoDate c_InGap 2) := ⟨⟨f35, _, ok_Change_day_of F35 er C_Sun_day_of C_Moon_day_of C_Change_day_of_n1 C_InGap___init__, b35, ⟨a35, beq_iff_eq.mpr u35, k35⟩⟩⟩
  have C_Change___init__ : CalI l.prog w K mg base (CX1 l.prog w) 8 "Change" c_Change ["self", "old", "new", "day"] (spInitC K c_Sun c_Moon c_Measure c_Change c_NoChange 2) := ⟨⟨f36, _, ok_Change___init__ F36 er C_Sun_date_of C_Moon_date_of C_Change_date_of_n1, b36, ⟨mk_Change, a36, beq_iff_eq.mpr u36, kp_Change⟩, PySem.W.mg_of X G n_Change⟩⟩
  have C_law_cell_at : Cal l.prog w K mg base 1 "_law_cell_at" ["_law_script", "_law_k"] (spCell K) := ⟨⟨f37, _, ok_law_cell_at F37 y_len, b37, k37, PySem.W.mg_of X G a37⟩⟩
  have C_law_whole : Cal l.prog w K mg base 1 "_law_whole" ["_law_found"] spWhole := ⟨⟨f38, _, ok_law_whole F38 y_isinstance y_int y_bool, b38, k38, PySem.W.mg_of X G a38⟩⟩
  have C_law_number : Cal l.prog w K mg base 1 "_law_number" ["_law_cell"] spNumB := ⟨⟨f39, _, ok_law_number F39, b39, k39, PySem.W.mg_of X G a39⟩⟩
  have C_law_mixed : Cal l.prog w K mg base 1 "_law_mixed" ["_law_cell", "_law_k"] spMixedD := ⟨⟨f40, _, ok_law_mixed F40, b40, k40, PySem.W.mg_of X G a40⟩⟩
  have C_law_terms : Cal l.prog w K mg base 2 "_law_terms" ["_law_cell", "_law_many"] spTerms43 := ⟨⟨f41, _, ok_law_terms F41 C_law_mixed y_range, b41, k41, PySem.W.mg_of X G a41⟩⟩
  have C_law_made : Cal l.prog w K mg base 9 "_law_made" ["_law_cell", "_law_start"] (spMade43 K c_Sun c_Moon c_Measure) := ⟨⟨f42, _, ok_law_made F42 er C_law_terms C_Measure___init__ C_law_mixed C_Moon___init__ C_Sun___init__ y_range y_min, b42, k42, PySem.W.mg_of X G a42⟩⟩
  have C_law_begun : Cal l.prog w K mg base 10 "_law_begun" ["_law_cell", "_law_year", "_law_day"] (spBegun43 K c_Sun c_Moon c_Measure) := ⟨⟨f43, _, ok_law_begun F43 er C_law_made C_law_number C_Sun_year_start C_Moon_year_start, b43, k43, PySem.W.mg_of X G a43⟩⟩
  have C_law_is_date : Cal l.prog w K mg base 2 "_law_is_date" ["_law_found"] spIsDate := ⟨⟨f44, _, ok_law_is_date F44 C_law_whole y_isinstance y_tuple y_len y_all, b44, k44, PySem.W.mg_of X G a44⟩⟩
  have C_law_change : Cal l.prog w K mg base 10 "_law_change" ["_law_old", "_law_new", "_law_day"] (spChange43 K c_Sun c_Moon c_Measure c_Change) := ⟨⟨f45, _, ok_law_change F45 er C_Change___init__ C_Sun_date_of C_Moon_date_of C_Change_date_of_n1 y_isinstance, b45, k45, PySem.W.mg_of X G a45⟩⟩
  have C_law_held : Cal l.prog w K mg base 9 "_law_held" ["_law_change_here", "_law_old", "_law_new", "_law_day", "_law_some"] (spHeld43 K c_Sun c_Moon c_Measure c_Change) := ⟨⟨f46, _, ok_law_held F46 er C_Sun_date_of C_Moon_date_of C_Change_date_of C_law_is_date C_Sun_day_of C_Moon_day_of C_Change_day_of, b46, k46, PySem.W.mg_of X G a46⟩⟩
  exact ok_law F47 er C_law_made C_law_cell_at C_law_number C_law_begun C_Sun_date_of C_Moon_date_of C_Change_date_of C_law_change C_law_held y_all
end Fw
def PySem.W.Fast.tw4556624445957410060 : Unit := ()
def PySem.W.Fast.tw324663804391190895 : Unit := ()
def PySem.W.Fast.tw9891267073733227505 : Unit := ()
def PySem.W.Fast.tw14122411207572192908 : Unit := ()
def PySem.W.Fast.tw10021503198182545392 : Unit := ()
def PySem.W.Fast.tw13729359464689566502 : Unit := ()
def PySem.W.Fast.tw7290680234374607934 : Unit := ()
def PySem.W.Fast.tw12538898794225942076 : Unit := ()
def PySem.W.Fast.tw11953066458542215488 : Unit := ()
def PySem.W.Fast.tw2670983260859037435 : Unit := ()
def PySem.W.Fast.tw14666102206694872066 : Unit := ()
def PySem.W.Fast.tw6636899859627822616 : Unit := ()
def PySem.W.Fast.tw7288895048758168462 : Unit := ()
def PySem.W.Fast.tw11429780821494776235 : Unit := ()
open PySem PySem.W PyProof.Rows
set_option maxRecDepth 100000 in
set_option maxHeartbeats 0 in
theorem PySem.Challenge.cw_feastwheel_k43_whole_changes_in_order_holds : PySem.Challenge.rw_feastwheel_k43_whole_changes_in_order.Holds := by
  w_on; o_law; k_head; (case hw => w_witness2)
  k_fill
  refine L2.walk_ofB (l := PySem.Challenge.rw_feastwheel_k43_whole_changes_in_order) (k := 11) rfl rfl ⟨rfl, by decide, by decide, rfl⟩ (fun w h Y => PySem.W.kIn_of Y) ?F
  case F =>
    intro w mg fa h KX G hmg
    refine' Fw.all_mk KX G hmg ?n_FeastError ?n_NoNumber ?n_NoMeasure ?n_NoDate ?n_InGap ?n_NoChange ?t_NoChange ?k_NoChange ?b_NoChange ?o_NoDate ?om_NoDate ?od_NoDate ?oh_NoDate ?sa_NoDate ?kp_NoDate ?e_FeastError ?fs_FeastError ?fr_FeastError ?ff_FeastError ?na_NoDate_date ?o_InGap ?om_InGap ?od_InGap ?oh_InGap ?sa_InGap ?kp_InGap ?na_InGap_date ?na_InGap_day ?e_NoChange ?ga_NoChange ?gk_NoChange ?ob_NoChange ?ca_NoChange ?i_NoChange_FeastError ?i_NoChange_NoDate ?r_NoChange_NoChange ?n_Measure ?pg_Measure ?k_Measure ?po_Measure ?sa_Measure ?mk_Measure ?kp_Measure ?na_Measure_base ?na_Measure_terms ?na_Measure_full_count ?na_Measure_full_sum ?n_Sun ?pg_Sun ?k_Sun ?po_Sun ?sa_Sun ?mk_Sun ?kp_Sun ?na_Sun_start ?na_Sun_months ?na_Sun_leap ?na_Sun_years ?n_Moon ?pg_Moon ?k_Moon ?po_Moon ?sa_Moon ?mk_Moon ?kp_Moon ?na_Moon_start ?na_Moon_days ?na_Moon_many ?n_Change ?pg_Change ?k_Change ?po_Change ?sa_Change ?mk_Change ?kp_Change ?na_Change_old ?na_Change_new ?na_Change_day ?na_Change_last_old ?na_Change_first_new ?n_Calendar ?i_Change_Calendar ?ca_Change ?ob_Change ?xsp ?xtk ?a0 ?l0 ?c0 ?k0 ?u0 ?a1 ?l1 ?c1 ?k1 ?u1 ?a2 ?l2 ?c2 ?k2 ?a3 ?l3 ?c3 ?k3 ?a4 ?l4 ?c4 ?k4 ?a5 ?l5 ?c5 ?k5 ?a6 ?l6 ?c6 ?k6 ?a7 ?l7 ?c7 ?k7 ?a8 ?l8 ?c8 ?k8 ?a9 ?l9 ?c9 ?k9 ?a10 ?l10 ?c10 ?k10 ?a11 ?l11 ?c11 ?k11 ?a12 ?l12 ?c12 ?k12 ?u12 ?a13 ?l13 ?c13 ?k13 ?t13 ?u13 ?a14 ?l14 ?c14 ?k14 ?u14 ?a15 ?l15 ?c15 ?k15 ?u15 ?a16 ?l16 ?c16 ?k16 ?a17 ?l17 ?c17 ?k17 ?t17 ?u17 ?a18 ?l18 ?c18 ?k18 ?u18 ?a19 ?l19 ?c19 ?k19 ?u19 ?a20 ?l20 ?c20 ?k20 ?u20 ?a21 ?l21 ?c21 ?k21 ?a22 ?l22 ?c22 ?k22 ?u22 ?a23 ?l23 ?c23 ?k23 ?u23 ?a24 ?l24 ?c24 ?k24 ?u24 ?a25 ?l25 ?c25 ?k25 ?u25 ?a26 ?l26 ?c26 ?k26 ?u26 ?a27 ?l27 ?c27 ?k27 ?u27 ?a28 ?l28 ?c28 ?k28 ?u28 ?a29 ?l29 ?c29 ?k29 ?u29 ?a30 ?l30 ?c30 ?k30 ?u30 ?a31 ?l31 ?c31 ?k31 ?u31 ?a32 ?l32 ?c32 ?k32 ?u32 ?a33 ?l33 ?c33 ?k33 ?u33 ?a34 ?l34 ?c34 ?k34 ?u34 ?a35 ?l35 ?c35 ?k35 ?u35 ?a36 ?l36 ?c36 ?k36 ?u36 ?a37 ?l37 ?c37 ?k37 ?a38 ?l38 ?c38 ?k38 ?a39 ?l39 ?c39 ?k39 ?a40 ?l40 ?c40 ?k40 ?a41 ?l41 ?c41 ?k41 ?a42 ?l42 ?c42 ?k42 ?a43 ?l43 ?c43 ?k43 ?a44 ?l44 ?c44 ?k44 ?a45 ?l45 ?c45 ?k45 ?a46 ?l46 ?c46 ?k46 ?a47 ?l47 ?c47 ?k47 ?z_sum ?z_len ?z_all ?z_tuple ?z_min ?z_max ?z_list ?z_range ?z_isinstance ?z_int ?z_bool ?m_GREATEST_N ?m_GREATEST_BASE ?m_MOST_TERMS ?m_MOST_MONTHS ?m_LONGEST_MONTH
    (case n_FeastError => k_is)
    (case n_NoNumber => k_is)
    (case n_NoMeasure => k_is)
    (case n_NoDate => k_is)
    (case n_InGap => k_is)
    (case n_NoChange => k_is)
    (case t_NoChange => k_is)
    (case k_NoChange => k_is)
    (case b_NoChange => k_is)
    (case o_NoDate => k_is)
    (case om_NoDate => rfl)
    (case od_NoDate => rfl)
    (case oh_NoDate => rfl)
    (case sa_NoDate => k_is)
    (case kp_NoDate => k_is)
    (case e_FeastError => k_exc)
    (case fs_FeastError => k_is)
    (case fr_FeastError => k_is)
    (case ff_FeastError => k_is)
    (case na_NoDate_date => k_is)
    (case o_InGap => k_is)
    (case om_InGap => rfl)
    (case od_InGap => rfl)
    (case oh_InGap => rfl)
    (case sa_InGap => k_is)
    (case kp_InGap => k_is)
    (case na_InGap_date => k_is)
    (case na_InGap_day => k_is)
    (case e_NoChange => k_exc)
    (case ga_NoChange => k_is)
    (case gk_NoChange => k_is)
    (case ob_NoChange => k_is)
    (case ca_NoChange => k_is)
    (case i_NoChange_FeastError => kit_is)
    (case i_NoChange_NoDate => kit_is)
    (case r_NoChange_NoChange => k_is)
    (case n_Measure => k_is)
    (case pg_Measure => k_is)
    (case k_Measure => k_is)
    (case po_Measure => k_is)
    (case sa_Measure => k_is)
    (case mk_Measure => k_is)
    (case kp_Measure => k_is)
    (case na_Measure_base => k_is)
    (case na_Measure_terms => k_is)
    (case na_Measure_full_count => k_is)
    (case na_Measure_full_sum => k_is)
    (case n_Sun => k_is)
    (case pg_Sun => k_is)
    (case k_Sun => k_is)
    (case po_Sun => k_is)
    (case sa_Sun => k_is)
    (case mk_Sun => k_is)
    (case kp_Sun => k_is)
    (case na_Sun_start => k_is)
    (case na_Sun_months => k_is)
    (case na_Sun_leap => k_is)
    (case na_Sun_years => k_is)
    (case n_Moon => k_is)
    (case pg_Moon => k_is)
    (case k_Moon => k_is)
    (case po_Moon => k_is)
    (case sa_Moon => k_is)
    (case mk_Moon => k_is)
    (case kp_Moon => k_is)
    (case na_Moon_start => k_is)
    (case na_Moon_days => k_is)
    (case na_Moon_many => k_is)
    (case n_Change => k_is)
    (case pg_Change => k_is)
    (case k_Change => k_is)
    (case po_Change => k_is)
    (case sa_Change => k_is)
    (case mk_Change => k_is)
    (case kp_Change => k_is)
    (case na_Change_old => k_is)
    (case na_Change_new => k_is)
    (case na_Change_day => k_is)
    (case na_Change_last_old => k_is)
    (case na_Change_first_new => k_is)
    (case n_Calendar => k_is)
    (case i_Change_Calendar => kit_is)
    (case ca_Change => k_is)
    (case ob_Change => k_is)
    (case xsp => k_is)
    (case xtk => k_is)
    (case a0 => k_is)
    (case l0 => k_is)
    (case c0 => k_is)
    (case k0 => k_is)
    (case u0 => k_is)
    (case a1 => k_is)
    (case l1 => k_is)
    (case c1 => k_is)
    (case k1 => k_is)
    (case u1 => k_is)
    (case a2 => k_is)
    (case l2 => k_is)
    (case c2 => k_is)
    (case k2 => k_is)
    (case a3 => k_is)
    (case l3 => k_is)
    (case c3 => k_is)
    (case k3 => k_is)
    (case a4 => k_is)
    (case l4 => k_is)
    (case c4 => k_is)
    (case k4 => k_is)
    (case a5 => k_is)
    (case l5 => k_is)
    (case c5 => k_is)
    (case k5 => k_is)
    (case a6 => k_is)
    (case l6 => k_is)
    (case c6 => k_is)
    (case k6 => k_is)
    (case a7 => k_is)
    (case l7 => k_is)
    (case c7 => k_is)
    (case k7 => k_is)
    (case a8 => k_is)
    (case l8 => k_is)
    (case c8 => k_is)
    (case k8 => k_is)
    (case a9 => k_is)
    (case l9 => k_is)
    (case c9 => k_is)
    (case k9 => k_is)
    (case a10 => k_is)
    (case l10 => k_is)
    (case c10 => k_is)
    (case k10 => k_is)
    (case a11 => k_is)
    (case l11 => k_is)
    (case c11 => k_is)
    (case k11 => k_is)
    (case a12 => k_is)
    (case l12 => k_is)
    (case c12 => k_is)
    (case k12 => k_is)
    (case u12 => k_is)
    (case a13 => k_is)
    (case l13 => k_is)
    (case c13 => k_is)
    (case k13 => k_is)
    (case t13 => k_is)
    (case u13 => k_is)
    (case a14 => k_is)
    (case l14 => k_is)
    (case c14 => k_is)
    (case k14 => k_is)
    (case u14 => k_is)
    (case a15 => k_is)
    (case l15 => k_is)
    (case c15 => k_is)
    (case k15 => k_is)
    (case u15 => k_is)
    (case a16 => k_is)
    (case l16 => k_is)
    (case c16 => k_is)
    (case k16 => k_is)
    (case a17 => k_is)
    (case l17 => k_is)
    (case c17 => k_is)
    (case k17 => k_is)
    (case t17 => k_is)
    (case u17 => k_is)
    (case a18 => k_is)
    (case l18 => k_is)
    (case c18 => k_is)
    (case k18 => k_is)
    (case u18 => k_is)
    (case a19 => k_is)
    (case l19 => k_is)
    (case c19 => k_is)
    (case k19 => k_is)
    (case u19 => k_is)
    (case a20 => k_is)
    (case l20 => k_is)
    (case c20 => k_is)
    (case k20 => k_is)
    (case u20 => k_is)
    (case a21 => k_is)
    (case l21 => k_is)
    (case c21 => k_is)
    (case k21 => k_is)
    (case a22 => k_is)
    (case l22 => k_is)
    (case c22 => k_is)
    (case k22 => k_is)
    (case u22 => k_is)
    (case a23 => k_is)
    (case l23 => k_is)
    (case c23 => k_is)
    (case k23 => k_is)
    (case u23 => k_is)
    (case a24 => k_is)
    (case l24 => k_is)
    (case c24 => k_is)
    (case k24 => k_is)
    (case u24 => k_is)
    (case a25 => k_is)
    (case l25 => k_is)
    (case c25 => k_is)
    (case k25 => k_is)
    (case u25 => k_is)
    (case a26 => k_is)
    (case l26 => k_is)
    (case c26 => k_is)
    (case k26 => k_is)
    (case u26 => k_is)
    (case a27 => k_is)
    (case l27 => k_is)
    (case c27 => k_is)
    (case k27 => k_is)
    (case u27 => k_is)
    (case a28 => k_is)
    (case l28 => k_is)
    (case c28 => k_is)
    (case k28 => k_is)
    (case u28 => k_is)
    (case a29 => k_is)
    (case l29 => k_is)
    (case c29 => k_is)
    (case k29 => k_is)
    (case u29 => k_is)
    (case a30 => k_is)
    (case l30 => k_is)
    (case c30 => k_is)
    (case k30 => k_is)
    (case u30 => k_is)
    (case a31 => k_is)
    (case l31 => k_is)
    (case c31 => k_is)
    (case k31 => k_is)
    (case u31 => k_is)
    (case a32 => k_is)
    (case l32 => k_is)
    (case c32 => k_is)
    (case k32 => k_is)
    (case u32 => k_is)
    (case a33 => k_is)
    (case l33 => k_is)
    (case c33 => k_is)
    (case k33 => k_is)
    (case u33 => k_is)
    (case a34 => k_is)
    (case l34 => k_is)
    (case c34 => k_is)
    (case k34 => k_is)
    (case u34 => k_is)
    (case a35 => k_is)
    (case l35 => k_is)
    (case c35 => k_is)
    (case k35 => k_is)
    (case u35 => k_is)
    (case a36 => k_is)
    (case l36 => k_is)
    (case c36 => k_is)
    (case k36 => k_is)
    (case u36 => k_is)
    (case a37 => k_is)
    (case l37 => k_is)
    (case c37 => k_is)
    (case k37 => k_is)
    (case a38 => k_is)
    (case l38 => k_is)
    (case c38 => k_is)
    (case k38 => k_is)
    (case a39 => k_is)
    (case l39 => k_is)
    (case c39 => k_is)
    (case k39 => k_is)
    (case a40 => k_is)
    (case l40 => k_is)
    (case c40 => k_is)
    (case k40 => k_is)
    (case a41 => k_is)
    (case l41 => k_is)
    (case c41 => k_is)
    (case k41 => k_is)
    (case a42 => k_is)
    (case l42 => k_is)
    (case c42 => k_is)
    (case k42 => k_is)
    (case a43 => k_is)
    (case l43 => k_is)
    (case c43 => k_is)
    (case k43 => k_is)
    (case a44 => k_is)
    (case l44 => k_is)
    (case c44 => k_is)
    (case k44 => k_is)
    (case a45 => k_is)
    (case l45 => k_is)
    (case c45 => k_is)
    (case k45 => k_is)
    (case a46 => k_is)
    (case l46 => k_is)
    (case c46 => k_is)
    (case k46 => k_is)
    (case a47 => k_is)
    (case l47 => k_is)
    (case c47 => k_is)
    (case k47 => k_is)
    (case z_sum => k_is)
    (case z_len => k_is)
    (case z_all => k_is)
    (case z_tuple => k_is)
    (case z_min => k_is)
    (case z_max => k_is)
    (case z_list => k_is)
    (case z_range => k_is)
    (case z_isinstance => k_is)
    (case z_int => k_is)
    (case z_bool => k_is)
    (case m_GREATEST_N => k_is)
    (case m_GREATEST_BASE => k_is)
    (case m_MOST_TERMS => k_is)
    (case m_MOST_MONTHS => k_is)
    (case m_LONGEST_MONTH => k_is)
#print axioms PySem.Challenge.cw_feastwheel_k43_whole_changes_in_order_holds


