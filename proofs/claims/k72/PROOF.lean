import PyProof.Rows.All
import Wide.All
import OpenK.AllK
import Wide.FinOn
import Lean
import PyProof.EqAt
import PyProof.EqKinds
import PyProof.TupleCall
import PySem.Challenge.RW_feastwheel_k72_calendars_as_texts
set_option Elab.async false
set_option linter.all false
set_option maxRecDepth 100000
namespace L2
open PySem PySem.Spec PyProof.Rows

/-- a key: an int or a str -/
abbrev Key := Sum Int Str
def keyIs : Key → Value → Bool
  | .inl k, v => Value.isInt k v
  | .inr x, v => Value.isStrOf x v
def keyH (w : World) : Key → Int
  | .inl k => hashInt k
  | .inr x => hashStr w x
theorem keyIs_shape : ∀ {k : Key} {v : Value}, keyIs k v = true → (∃ i t, k = Sum.inl i ∧ v = Value.int i t) ∨ (∃ x t, k = Sum.inr x ∧ v = Value.str x t)
  | .inl i, v, h => by
    obtain ⟨t, e⟩ := Value.isInt_shape (k := i) (v := v) h
    exact .inl ⟨i, t, rfl, e⟩
  | .inr x, v, h => by
    obtain ⟨t, e⟩ := Value.isStrOf_shape (x := x) (v := v) h
    exact .inr ⟨x, t, rfl, e⟩
theorem key_ll (a b : Int) : decide ((Sum.inl a : Key) = Sum.inl b) = (a == b) := by
  by_cases e : a = b
  · subst e; simp
  · have h : ¬ (Sum.inl a : Key) = Sum.inl b := fun q => e (Sum.inl.inj q)
    rw [decide_eq_false h]
    exact (beq_eq_false_iff_ne.mpr e).symm
theorem key_rr (a b : Str) : decide ((Sum.inr a : Key) = Sum.inr b) = decide (a = b) := by
  by_cases e : a = b
  · subst e; simp
  · have h : ¬ (Sum.inr a : Key) = Sum.inr b := fun q => e (Sum.inr.inj q)
    rw [decide_eq_false h, decide_eq_false e]
theorem key_lr (a : Int) (b : Str) : decide ((Sum.inl a : Key) = Sum.inr b) = false := decide_eq_false (fun q => nomatch q)
theorem key_rl (a : Str) (b : Int) : decide ((Sum.inr a : Key) = Sum.inl b) = false := decide_eq_false (fun q => nomatch q)

def mixKind (prog : Program) (w : World) : PySem.KeyKind prog w Key where
  is := keyIs
  hash := keyH w
  inj := fun v a b ha hb => by
    rcases keyIs_shape ha with ⟨i, t, rfl, rfl⟩ | ⟨x, t, rfl, rfl⟩
    · rcases keyIs_shape hb with ⟨j, u, rfl, e⟩ | ⟨y, u, rfl, e⟩
      · injection e with e1 _; rw [e1]
      · exact nomatch e
    · rcases keyIs_shape hb with ⟨j, u, rfl, e⟩ | ⟨y, u, rfl, e⟩
      · exact nomatch e
      · injection e with e1 _; rw [e1]
  byValue := fun k v h => by
    rcases keyIs_shape h with ⟨i, t, rfl, rfl⟩ | ⟨x, t, rfl, rfl⟩ <;> rfl
  pyHash := fun hv h => by
    rcases keyIs_shape hv with ⟨i, t, rfl, rfl⟩ | ⟨x, t, rfl, rfl⟩
    · exact wpAny_pyHash_int h
    · exact wpAny_pyHash_str h
  eqBool := fun hu hv h => by
    rcases keyIs_shape hu with ⟨i, t, rfl, rfl⟩ | ⟨x, t, rfl, rfl⟩
    · rcases keyIs_shape hv with ⟨j, u, rfl, rfl⟩ | ⟨y, u, rfl, rfl⟩
      · rw [key_ll] at h; exact wpAny_eqBool_int h
      · rw [key_lr] at h; exact SeqAt.EqAt.int_str i t y u _ _ _ _ h
    · rcases keyIs_shape hv with ⟨j, u, rfl, rfl⟩ | ⟨y, u, rfl, rfl⟩
      · rw [key_rl] at h; exact SeqAt.EqAt.str_int x t j u _ _ _ _ h
      · rw [key_rr] at h; exact wpAny_eqBool_str h
  «strs» := fun k x t v h => by
    rcases keyIs_shape h with ⟨i, u, rfl, e⟩ | ⟨y, u, rfl, e⟩
    · exact nomatch e
    · injection e with e1 _
      subst e1
      cases v <;> rfl

end L2

namespace L2
open PySem PySem.Spec PyProof.Rows

/-- a value, without the heap -/
inductive V where
  | non | bl (b : Bool) | int (i : Int) | str (x : Str) | byt (b : Array UInt8) | flt (b : UInt64) | ref (a : Addr) | ty (n : String)
  deriving DecidableEq

def RelV : V → Value → Prop
  | .non, u => u = Value.none
  | .bl b, u => u = Value.bool b
  | .int i, u => ∃ t, u = Value.int i t
  | .str x, u => ∃ t, u = Value.str x t
  | .byt b, u => ∃ t, u = Value.bytes b t
  | .flt b, u => ∃ t, u = Value.float b t
  | .ref a, u => u = Value.ref a
  | .ty n, u => u = Value.type n

abbrev Vals : List V → List Value → Prop := Paired RelV
theorem Vals.length {xs : List V} {us : List Value} (r : Vals xs us) : xs.length = us.length := Paired.length r
theorem Vals.get : ∀ {xs : List V} {us : List Value} {i : Nat} {x : V}, Vals xs us → xs[i]? = some x → ∃ u, us[i]? = some u ∧ RelV x u
  | _, _, _, _, .nil, e => by simp at e
  | _, _, 0, _, .cons r _, e => by simp at e; subst e; exact ⟨_, rfl, r⟩
  | _, _, i + 1, x, .cons _ t, e => by
    obtain ⟨u, h1, h2⟩ := Vals.get (i := i) (x := x) t (by simpa using e)
    exact ⟨u, by simpa using h1, h2⟩
theorem Vals.set {x : V} {u : Value} (r : RelV x u) : ∀ {xs : List V} {us : List Value} (i : Nat), Vals xs us → Vals (xs.set i x) (us.set i u)
  | _, _, _, .nil => .nil
  | _, _, 0, .cons _ t => .cons r t
  | _, _, i + 1, .cons q t => .cons q (Vals.set r i t)
theorem Vals.append : ∀ {xs ys : List V} {us ws : List Value}, Vals xs us → Vals ys ws → Vals (xs ++ ys) (us ++ ws)
  | _, _, _, _, .nil, s => s
  | _, _, _, _, .cons r t, s => .cons r (Vals.append t s)
theorem Vals.take : ∀ {xs : List V} {us : List Value} (n : Nat), Vals xs us → Vals (xs.take n) (us.take n)
  | _, _, 0, _ => .nil
  | _, _, _ + 1, .nil => .nil
  | _, _, n + 1, .cons r t => .cons r (Vals.take n t)
theorem Vals.drop : ∀ {xs : List V} {us : List Value} (n : Nat), Vals xs us → Vals (xs.drop n) (us.drop n)
  | _, _, 0, r => r
  | _, _, _ + 1, .nil => .nil
  | _, _, n + 1, .cons _ t => Vals.drop n t
theorem Vals.none_of : ∀ {xs : List V} {us : List Value} {i : Nat}, Vals xs us → xs[i]? = none → us[i]? = none := fun {xs us i} r e => by
  have h1 := r.length
  have h2 : xs.length ≤ i := List.getElem?_eq_none_iff.mp e
  exact List.getElem?_eq_none_iff.mpr (by omega)

def RelO : Option V → Option Value → Prop
  | some v, some u => RelV v u
  | none, none => True
  | _, _ => False
def KV {κ : Type} : List (κ × V) → List (κ × Value) → Prop := Paired fun (p : κ × V) (q : κ × Value) => p.1 = q.1 ∧ RelV p.2 q.2

/-- a key of a dict (00_mix): an int or a text -/
def kV : Key → V
  | .inl i => .int i
  | .inr x => .str x

/-- what stands at a tracked address -/
inductive HO where
  /-- a list -/
  | lst (xs : List V)
  /-- a tuple (never changes) -/
  | tup (xs : List V)
  /-- a dict whose keys are ints and texts; one whose keys are tuples of ints and texts (the empty one is both) -/
  | dK (kvs : List (Key × V)) | dT (kvs : List (List Key × V))
  /-- a set of ints: its members, its size -/
  | set (S : Int → Bool) (n : Nat)
  /-- an instance of the class at C, its dict at dx, its attributes -/
  | ins (C dx : Addr) (fs : List (Str × V))
  /-- the dict of the instance at x -/
  | own (x : Addr)
  /-- the dict of an exception -/
  | xd (fs : List (Str × V))
  /-- a bound method, f of x -/
  | met (f x : Addr)
  /-- a range object lo, lo + 1, .. below hi -/
  | rng (lo hi : Int)
  /-- a thing that is known to the object (the script; a dict while a loop walks it): read, never written while it is so -/
  | frz (o : Obj) (u : HO)
  /-- a code object's table -/
  | tbl (ps : Array Value)
  /-- any other thing, by what is true of its one object (a def of one's own: SetO a S n := HO.ext fun h => ..) -/
  | ext (φ : Heap → Prop)

abbrev Hp := Addr → Option HO
def upd (H : Hp) (a : Addr) (o : HO) : Hp := fun b => if b = a then some o else H b
theorem upd_same {H : Hp} {a : Addr} {o : HO} : upd H a o a = some o := by unfold upd; rw [if_pos rfl]
theorem upd_ne {H : Hp} {a b : Addr} {o : HO} (h : b ≠ a) : upd H a o b = H b := by unfold upd; rw [if_neg h]
theorem upd_upd {H : Hp} {a : Addr} {o u : HO} : upd (upd H a o) a u = upd H a u := by
  funext b; unfold upd; split <;> rfl
/-- two objects of different content stand apart -/
theorem ne_of {H : Hp} {a b : Addr} {o u : HO} (h : H a = some o) (h' : H b = some u) (d : o ≠ u) : a ≠ b := by
  intro e; subst e; rw [h] at h'; exact d (Option.some.inj h')
theorem ne_of_none {H : Hp} {a b : Addr} {o : HO} (h : H a = some o) (h' : H b = none) : a ≠ b := by
  intro e; subst e; rw [h] at h'; cases h'

section
variable (P : Program) (w : World)
def ObjOk (H : Hp) (h : Heap) (a : Addr) : HO → Prop
  | .lst xs => xs.length ≤ sizeLine ∧ ∃ (its : List Value) (n : Nat), Vals xs its ∧ h.get? a = some { cls := .type "list", data := .seq its.toArray n }
  | .tup xs => xs.length ≤ sizeLine ∧ ∃ its : List Value, Vals xs its ∧ IsTup h a its.toArray
  | .dK kvs => kvs.length ≤ sizeLine ∧ (a == sysModules) = false ∧ ∃ vs, KV kvs vs ∧ h.DictOf (mixKind P w) a vs
  | .dT kvs => kvs.length ≤ sizeLine ∧ (a == sysModules) = false ∧ ∃ xs : List (List Key × Addr × Value),
      Paired (fun (p : List Key × V) (q : List Key × Addr × Value) => p.1 = q.1 ∧ H q.2.1 = some (.tup (p.1.map kV)) ∧ RelV p.2 q.2.2) kvs xs ∧
      ∃ o es ep, h.get? a = some o ∧ o.ExactDict ∧ o.data = .dict es ep ∧ es.toList = xs.map (entryOfKey (tupleKind (mixKind P w))) ∧ (xs.map (·.1)).Nodup
  | .set S n => h.SetOf (intKind P w) a S n
  | .ins C dx fs => H dx = some (.own a) ∧ fs.length ≤ 1000 ∧ dx ≠ a ∧ h.get? a = some (PySem.W.instObj C dx) ∧
      ∃ mA, h.Ns1 dx mA ∧ (∀ f, RelO (fs.lookup f) (mA f)) ∧ PySem.Within mA (fs.map (·.1))
  | .own _ => ∃ o, h.get? a = some o
  | .xd fs => ∃ mA, h.Ns1 a mA ∧ ∀ f, RelO (fs.lookup f) (mA f)
  | .rng lo hi => ∃ t u v, h.get? a = some { cls := .type "range", data := .fields #[.int lo t, .int hi u, .int 1 v] }
  | .frz o u => h.get? a = some o ∧ ObjOk H h a u
  | .tbl ps => h.get? a = some { cls := .none, data := .fields ps }
  | .met f x => h.get? a = some (PySem.W.methodObj (.ref f) (.ref x))
  | .ext φ => φ h ∧ (∃ o, h.get? a = some o) ∧ ∀ h1 h2 : Heap, φ h1 → (∀ o, h1.get? a = some o → h2.get? a = some o) → φ h2
/-- the abstract heap is held -/
def HOk (H : Hp) (h : Heap) : Prop := ∀ a o, H a = some o → ObjOk P w H h a o
end

section
variable {P : Program} {w : World} {H H' : Hp} {h h' : Heap} {a : Addr} {o : HO}
theorem ObjOk.lt (x : ObjOk P w H h a o) : a < h.objs.size := by
  cases o with
  | lst xs => obtain ⟨_, _, _, _, e⟩ := x; exact Heap.lt_size e
  | tup xs => obtain ⟨_, _, _, p⟩ := x; exact p.lt
  | dK kvs => obtain ⟨_, _, _, _, o, _, _, e, _⟩ := x; exact Heap.lt_size e
  | dT kvs => obtain ⟨_, _, _, _, o, _, _, e, _⟩ := x; exact Heap.lt_size e
  | set S n => obtain ⟨o, _, _, _, e, _⟩ := x; exact Heap.lt_size e
  | ins C dx fs => obtain ⟨_, _, _, e, _⟩ := x; exact Heap.lt_size e
  | own y => obtain ⟨_, e⟩ := x; exact Heap.lt_size e
  | xd fs => obtain ⟨_, ⟨_, _, _, e, _⟩, _⟩ := x; exact Heap.lt_size e
  | rng lo hi => obtain ⟨_, _, _, e⟩ := x; exact Heap.lt_size e
  | frz ob u => obtain ⟨e, _⟩ := x; exact Heap.lt_size e
  | tbl ps => exact Heap.lt_size (show h.get? a = some _ from x)
  | met f y => exact Heap.lt_size (show h.get? a = some _ from x)
  | ext φ => obtain ⟨_, ⟨_, e⟩, _⟩ := x; exact Heap.lt_size e
theorem Paired.mapP {α β : Type} {F G : α → β → Prop} : ∀ {l₁ : List α} {l₂ : List β}, Paired F l₁ l₂ → (∀ a b, F a b → G a b) → Paired G l₁ l₂
  | _, _, .nil, _ => .nil
  | _, _, .cons r t, f => .cons (f _ _ r) (Paired.mapP t f)
/-- what an object's description leans on: its own object, its own dict, the tuples -/
theorem ObjOk.stay (x : ObjOk P w H h a o) (k : ∀ b u, (b = a ∨ H b = some (.own a)) → h.get? b = some u → h'.get? b = some u)
    (ho : ∀ b, H b = some (.own a) → H' b = some (.own a)) (ht : ∀ b xs, H b = some (.tup xs) → H' b = some (.tup xs)) : ObjOk P w H' h' a o := by
  induction o with
  | lst xs => obtain ⟨z, its, n, r, e⟩ := x; exact ⟨z, its, n, r, k _ _ (.inl rfl) e⟩
  | tup xs => obtain ⟨z, its, r, ob, e, c⟩ := x; exact ⟨z, its, r, ob, k _ _ (.inl rfl) e, c⟩
  | dK kvs => obtain ⟨z, y, vs, r, ob, es, ep, e, c⟩ := x; exact ⟨z, y, vs, r, ob, es, ep, k _ _ (.inl rfl) e, c⟩
  | dT kvs =>
    obtain ⟨z, y, xs, r, ob, es, ep, e, c⟩ := x
    exact ⟨z, y, xs, Paired.mapP r fun p q z => ⟨z.1, ht _ _ z.2.1, z.2.2⟩, ob, es, ep, k _ _ (.inl rfl) e, c⟩
  | set S n => obtain ⟨ob, es, ep, t, e, c⟩ := x; exact ⟨ob, es, ep, t, k _ _ (.inl rfl) e, c⟩
  | ins C dx fs =>
    obtain ⟨d, z, ne, e, mA, ⟨od, es, ep, e2, c⟩, r⟩ := x
    exact ⟨ho _ d, z, ne, k _ _ (.inl rfl) e, mA, ⟨od, es, ep, k _ _ (.inr d) e2, c⟩, r⟩
  | own y => obtain ⟨ob, e⟩ := x; exact ⟨ob, k _ _ (.inl rfl) e⟩
  | xd fs => obtain ⟨mA, ⟨od, es, ep, e, c⟩, r⟩ := x; exact ⟨mA, ⟨od, es, ep, k _ _ (.inl rfl) e, c⟩, r⟩
  | rng lo hi => obtain ⟨t, u, v, e⟩ := x; exact ⟨t, u, v, k _ _ (.inl rfl) e⟩
  | frz ob u ih => obtain ⟨e, q⟩ := x; exact ⟨k _ _ (.inl rfl) e, ih q⟩
  | tbl ps =>
    have e : h.get? a = some { cls := .none, data := .fields ps } := x
    show h'.get? a = some { cls := .none, data := .fields ps }
    exact k a _ (.inl rfl) e
  | met f y =>
    have e : h.get? a = some (PySem.W.methodObj (.ref f) (.ref y)) := x
    show h'.get? a = some (PySem.W.methodObj (.ref f) (.ref y))
    exact k a _ (.inl rfl) e
  | ext φ => obtain ⟨p, ⟨o, e⟩, st⟩ := x; exact ⟨st _ _ p fun o q => k _ _ (.inl rfl) q, ⟨o, k _ _ (.inl rfl) e⟩, st⟩
theorem HOk.lt (x : HOk P w H h) (e : H a = some o) : a < h.objs.size := (x a o e).lt
theorem HOk.fresh (x : HOk P w H h) (e : h.objs.size ≤ a) : H a = none := by
  cases q : H a with
  | none => rfl
  | some u => exact absurd (Nat.lt_of_lt_of_le (x.lt q) e) (Nat.lt_irrefl _)
/-- every object of the heap is kept -/
theorem HOk.kept (x : HOk P w H h) (k : ∀ b u, h.get? b = some u → h'.get? b = some u) : HOk P w H h' := fun a o e =>
  (x a o e).stay (fun b u _ q => k b u q) (fun _ q => q) fun _ _ q => q
/-- a new object is laid and tracked -/
theorem HOk.laid (x : HOk P w H h) (k : ∀ b u, h.get? b = some u → h'.get? b = some u) (hp : h.objs.size ≤ a) (new : ObjOk P w (upd H a o) h' a o) : HOk P w (upd H a o) h' := fun b u e => by
  have hn := x.fresh hp
  by_cases hb : b = a
  · subst hb; rw [upd_same] at e; cases e; exact new
  · rw [upd_ne hb] at e
    exact (x b u e).stay (fun c v _ q => k c v q) (fun c q => by rw [upd_ne (ne_of_none q hn)]; exact q) fun c xs q => by rw [upd_ne (ne_of_none q hn)]; exact q
end

/-- what may be read as u: it is u, or a known u -/
def Rd (H : Hp) (a : Addr) (u : HO) : Prop := H a = some u ∨ ∃ o, H a = some (.frz o u)
theorem Rd.of {H : Hp} {a : Addr} {u : HO} (h : H a = some u) : Rd H a u := .inl h
theorem Rd.ok {P : Program} {w : World} {H : Hp} {h : Heap} {a : Addr} {u : HO} (r : Rd H a u) (x : HOk P w H h) : ObjOk P w H h a u := by
  rcases r with r | ⟨o, r⟩
  · exact x a u r
  · obtain ⟨_, q⟩ := x a _ r
    exact q
/-- what may be written -/
def Mut : Option HO → Prop
  | some (.lst _) => True
  | some (.dK _) => True
  | some (.dT _) => True
  | some (.set _ _) => True
  | some (.ins _ _ _) => True
  | some (.ext _) => True
  | _ => False
section
variable {P : Program} {w : World} {H : Hp} {h h' : Heap} {x e : Addr} {o' : HO}
/-- the object at e is changed: x itself, or the dict of the instance x -/
theorem HOk.write (ok : HOk P w H h) (mu : Mut (H x)) (he : e = x ∨ H e = some (.own x)) (k : ∀ b u, b ≠ e → h.get? b = some u → h'.get? b = some u) (heo : ∃ u, h'.get? e = some u)
    (new : ObjOk P w (upd H x o') h' x o') : HOk P w (upd H x o') h' := fun b u q => by
  have nown : ∀ c y, H c = some (.own y) → c ≠ x := fun c y r z => by subst z; rw [r] at mu; exact mu
  have ntup : ∀ c xs, H c = some (.tup xs) → c ≠ x := fun c xs r z => by subst z; rw [r] at mu; exact mu
  by_cases hb : b = x
  · subst hb; rw [upd_same] at q; cases q; exact new
  · rw [upd_ne hb] at q
    by_cases hbe : b = e
    · have q' : H b = some (.own x) := by
        rcases he with z | z
        · exact absurd (hbe.trans z) hb
        · rw [hbe]; exact z
      rw [q] at q'; cases q'
      obtain ⟨v, hv⟩ := heo
      exact ⟨v, by rw [hbe]; exact hv⟩
    · refine (ok b u q).stay (fun c v hc r => k c v ?_ r) (fun c r => by rw [upd_ne (nown c b r)]; exact r) fun c xs r => by rw [upd_ne (ntup c xs r)]; exact r
      rcases hc with rfl | hc
      · exact hbe
      · rintro rfl
        rcases he with z | z
        · exact nown c b hc z
        · rw [hc] at z; cases z; exact hb rfl
end

structure Un (fs ex : List Addr) (H H' : Hp) (h h' : Heap) : Prop where
  keep : ∀ b o, h.get? b = some o → H b = none → b ∉ fs → b ∉ ex → h'.get? b = some o
  slot : ∀ b o, h.get? b = some o → H b = none → b ∈ fs → b ∉ ex → ∃ sl, h'.get? b = some { o with slots := sl }
  free : ∀ b o, h.get? b = some o → H b = none → b ∉ ex → H' b = none
  there : ∀ b o, h.get? b = some o → b ∉ ex → ∃ o', h'.get? b = some o'
  tups : ∀ b xs, H b = some (.tup xs) → H' b = some (.tup xs)
  frzs : ∀ b o u, H b = some (.frz o u) → H' b = some (.frz o u)
  tbls : ∀ b ps, H b = some (.tbl ps) → ∃ more, H' b = some (.tbl (ps ++ more))
section
variable {fs fs' ex ex' : List Addr} {H H1 H2 : Hp} {h h1 h2 h' : Heap} {a x e : Addr} {o : HO}
theorem Un.any (u : Un fs ex H H1 h h1) {b : Addr} {ob : Obj} (q : h.get? b = some ob) (n : H b = none) (hx : b ∉ ex) : ∃ sl, h1.get? b = some { ob with slots := sl } := by
  by_cases hb : b ∈ fs
  · exact u.slot b ob q n hb hx
  · exact ⟨ob.slots, u.keep b ob q n hb hx⟩
theorem Un.trans (a : Un fs ex H H1 h h1) (b : Un fs ex H1 H2 h1 h2) : Un fs ex H H2 h h2 where
  keep := fun c ob q n hc hx => b.keep c ob (a.keep c ob q n hc hx) (a.free c ob q n hx) hc hx
  slot := fun c ob q n hc hx => by
    obtain ⟨sl, e1⟩ := a.slot c ob q n hc hx
    obtain ⟨sl', e2⟩ := b.slot c _ e1 (a.free c ob q n hx) hc hx
    exact ⟨sl', e2⟩
  free := fun c ob q n hx => by
    obtain ⟨o', e1⟩ := a.there c ob q hx
    exact b.free c o' e1 (a.free c ob q n hx) hx
  there := fun c ob q hx => by
    obtain ⟨o', e1⟩ := a.there c ob q hx
    exact b.there c o' e1 hx
  tups := fun c xs q => b.tups c xs (a.tups c xs q)
  frzs := fun c ob xs q => b.frzs c ob xs (a.frzs c ob xs q)
  tbls := fun c ps q => by
    obtain ⟨m1, e1⟩ := a.tbls c ps q
    obtain ⟨m2, e2⟩ := b.tbls c _ e1
    exact ⟨m1 ++ m2, by rw [e2, Array.append_assoc]⟩
theorem Un.kept (k : ∀ b u, h.get? b = some u → h'.get? b = some u) : Un fs ex H H h h' :=
  ⟨fun b ob q _ _ _ => k b ob q, fun b ob q _ _ _ => ⟨ob.slots, k b ob q⟩, fun _ _ _ n _ => n, fun b ob q _ => ⟨ob, k b ob q⟩, fun _ _ q => q, fun _ _ _ q => q, fun _ ps q => ⟨#[], by rw [q]; simp⟩⟩
theorem Un.refl : Un fs ex H H h h := Un.kept fun _ _ q => q
theorem Un.laid (k : ∀ b u, h.get? b = some u → h'.get? b = some u) (hp : h.objs.size ≤ a) (hn : H a = none) : Un fs ex H (upd H a o) h h' where
  keep := fun b u q _ _ _ => k b u q
  slot := fun b u q _ _ _ => ⟨u.slots, k b u q⟩
  free := fun b u q n _ => by rw [upd_ne (Nat.ne_of_lt (Nat.lt_of_lt_of_le (Heap.lt_size q) hp))]; exact n
  there := fun b u q _ => ⟨u, k b u q⟩
  tups := fun b xs q => by rw [upd_ne (ne_of_none q hn)]; exact q
  frzs := fun b u xs q => by rw [upd_ne (ne_of_none q hn)]; exact q
  tbls := fun b ps q => ⟨#[], by rw [upd_ne (ne_of_none q hn), q]; simp⟩
theorem Un.write (mu : Mut (H x)) (he : e = x ∨ H e = some (.own x)) (k : ∀ b u, b ≠ e → h.get? b = some u → h'.get? b = some u) (heo : ∃ u, h'.get? e = some u) : Un fs ex H (upd H x o) h h' := by
  have hx : ∀ b, H b = none → b ≠ x := fun b n z => by subst z; rw [n] at mu; exact mu
  have hb : ∀ b, H b = none → b ≠ e := fun b n z => by
    subst z
    rcases he with r | r
    · exact hx b n r
    · rw [n] at r; cases r
  have hm : ∀ b u, H b = some u → ¬ Mut (some u) → b ≠ x := fun b u q nm z => by subst z; rw [q] at mu; exact nm mu
  refine ⟨fun b u q n _ _ => k b u (hb b n) q, fun b u q n _ _ => ⟨u.slots, k b u (hb b n) q⟩, fun b u q n _ => by rw [upd_ne (hx b n)]; exact n, fun b u q _ => ?_,
    fun b xs q => by rw [upd_ne (hm b _ q fun z => z)]; exact q, fun b u xs q => by rw [upd_ne (hm b _ q fun z => z)]; exact q, fun b ps q => ⟨#[], by rw [upd_ne (hm b _ q fun z => z), q]; simp⟩⟩
  by_cases hbe : b = e
  · subst hbe; exact heo
  · exact ⟨u, k b u hbe q⟩
theorem Un.mono (u : Un fs ex H H1 h h1) (hs : ∀ b ∈ fs, b ∈ fs') (hx : ∀ b ∈ ex, b ∈ ex') : Un fs' ex' H H1 h h1 :=
  ⟨fun b ob q n hb he => u.keep b ob q n (fun z => hb (hs b z)) fun z => he (hx b z), fun _ _ q n _ he => u.any q n fun z => he (hx _ z), fun b ob q n he => u.free b ob q n fun z => he (hx b z), fun b ob q he => u.there b ob q fun z => he (hx b z), u.tups, u.frzs, u.tbls⟩
end

def trk (h : Heap) (H : Hp) : List Addr := (List.range h.objs.size).filter fun a => (H a).isSome
def hidT (h : Heap) (H : Hp) : Heap := PySem.W.hideAll h (trk h H)
theorem hidT_size (h : Heap) (H : Hp) : (hidT h H).objs.size = h.objs.size := PySem.W.hideAll_size _ _
theorem hidT_get {h : Heap} {H : Hp} {b : Addr} {o : Obj} (e : h.get? b = some o) (n : H b = none) : (hidT h H).get? b = some o :=
  PySem.W.hideAll_get _ e fun hm => by
    have q : (H b).isSome = true := (List.mem_filter.mp hm).2
    rw [n] at q; simp at q
theorem of_hidT {h : Heap} {H : Hp} {b : Addr} {o : Obj} (e : (hidT h H).get? b = some o) : h.get? b = some o ∧ H b = none := by
  have e' : h.get? b = some o := PySem.W.of_hideAll (trk h H) e
  refine ⟨e', ?_⟩
  cases q : H b with
  | none => rfl
  | some x =>
    have hm : b ∈ trk h H := List.mem_filter.mpr ⟨List.mem_range.mpr (Heap.lt_size e'), by simp [q]⟩
    have z : (hidT h H).get? b = none := PySem.W.hideAll_none (trk h H) hm
    rw [z] at e; cases e

def allNews (g h : Heap) (L : Addr) : List (Addr × Obj) := (List.range h.objs.size).filterMap fun a => if a = L ∨ (g.get? a).isSome = true then none else (h.get? a).map fun o => (a, o)
def rest (g h : Heap) (L d : Addr) : List (Addr × Obj) := (allNews g h L).filter fun p => decide (p.1 ≠ d)
end L2

namespace L2
open PySem PySem.Spec PyProof.Rows

/-- the module's facts, over the base: the heap at the law's entry without what is tracked there -/
structure Mod (K : PySem.W.Frag) (mg : Str → Option Value) (base : Heap) : Prop where
  kin : K.In base
  glob : base.Ns mainGlobals mg
  blt : ∃ mb, base.Ns builtinsNs mb ∧ ∀ x : Str, x ≠ "__name__" → mb x = bootBuiltins x
  nolimit : base.NoLimit

/-- the context: a def's body (or a comprehension's block) running. base: fixed through the whole law; s₀, H₀: the entry; outer: the frames whose slots others may change (a def's callers); stack: all frames that run;
   ex: iterators that were made ahead of the entry and are walked here (a comprehension's); fn: the names whose cells were made at the entry (a def: all; a comprehension's block: its own); calm: not within an except suite; pn: pins that every state bears; xe: what is wanted of an exception that leaves the code -/
structure Cx where
  prog : Program
  w : World
  K : PySem.W.Frag
  mg : Str → Option Value
  base : Heap
  A : Around
  N : List Str
  s₀ : Shared
  H₀ : Hp
  env : Env
  outer : List Env
  stack : List Env
  ex : List Addr
  fn : Str → Bool
  calm : Bool
  pn : List (Addr × Obj)
  xe : Value → Shared → Prop
/-- the callers' frames -/
def frs (l : List Env) : List Addr := l.filterMap (·.frame)
abbrev Cx.fs (X : Cx) : List Addr := frs X.outer

def Vis (sc : Scope) (x : Str) : Prop := sc.names.lookup x = some .local ∨ sc.names.lookup x = some .cell ∨ sc.names.lookup x = some .free
def Loc (sc : Scope) (x : Str) : Prop := sc.names.lookup x = some .local ∨ sc.names.lookup x = some .cell
def Look (env : Env) (h : Heap) (m : Str → Option Value) (x : Str) (u : Value) : Prop :=
  (env.kindOf x = some .local ∧ m x = some u) ∨ ((env.kindOf x = some .cell ∨ env.kindOf x = some .free) ∧ ∃ c, env.cells.lookup x = some c ∧ h.IsCell c (some u))

structure Cx.Ok (X : Cx) : Prop where
  mod : Mod X.K X.mg X.base
  kind : X.env.scope.kind = .function
  glob : X.env.globals = mainGlobals
  blt : X.env.builtins = builtinsNs
  above : X.s₀.heap.objs.size ≤ X.env.locals
  inj : ∀ x y c, X.env.cells.lookup x = some c → X.env.cells.lookup y = some c → x = y
  has : ∀ x, (X.env.kindOf x = some .cell ∨ X.env.kindOf x = some .free) → ∃ c, X.env.cells.lookup x = some c
  cab : ∀ x c, X.fn x = true → X.env.cells.lookup x = some c → X.s₀.heap.objs.size ≤ c
  hd : X.calm = true → X.A.handled = none
  frames : X.A.frames = some X.stack
  stk : X.stack = X.outer ∨ (X.stack = X.env :: X.outer ∧ X.env.frame = some X.env.locals)
  exf : ∀ b ∈ X.ex, b ≠ X.env.locals ∧ ∀ x c, X.env.cells.lookup x = some c → c ≠ b
  bs : ∀ b o, X.base.get? b = some o → X.s₀.heap.get? b = some o ∧ X.H₀ b = none
  bsz : X.base.objs.size ≤ X.s₀.heap.objs.size
  noex : ∀ b o, X.base.get? b = some o → b ∉ X.ex
  exfs : ∀ b ∈ X.ex, b ∉ X.fs
  funs : X.s₀.heap.FunFrames X.base X.outer
  frf : ∀ b ∈ X.fs, X.H₀ b = none

structure Inv (X : Cx) (pins : List (Addr × Obj)) (σ : List (Option V)) (H : Hp) (s : Shared) : Prop where
  ok : X.Ok
  os : s.os = X.s₀.os
  bare : AllBare s.gens
  base : Un X.fs X.ex X.H₀ H X.s₀.heap s.heap
  loc : ∃ m, s.heap.Ns X.env.locals m ∧ ∀ (i : Nat) (x : Str) (v : V), X.N[i]? = some x → σ[i]? = some (some v) → Vis X.env.scope x → ∃ u, RelV v u ∧ Look X.env s.heap m x u
  cell : ∀ x c, X.env.cells.lookup x = some c → ∃ v, s.heap.IsCell c v
  free : H X.env.locals = none
  freeC : ∀ x c, X.env.cells.lookup x = some c → H c = none
  pin : ∀ p ∈ X.pn ++ pins, s.heap.get? p.1 = some p.2 ∧ H p.1 = none ∧ p.1 ≠ X.env.locals ∧ p.1 ∉ X.fs ∧ ∀ v, p.2.data ≠ .cell v
  hok : HOk X.prog X.w H s.heap
  len : σ.length = X.N.length

section
variable {X : Cx} {pins : List (Addr × Obj)} {σ : List (Option V)} {H H' : Hp} {s : Shared} {h' : Heap}

theorem Cx.Ok.nofr (ok : X.Ok) {b : Addr} {o : Obj} (e : X.base.get? b = some o) : b ∉ X.fs := fun hb => by
  have := (ok.funs.mem hb).1
  rw [e] at this; cases this
theorem Inv.bs (I : Inv X pins σ H s) : ∀ b o, X.base.get? b = some o → s.heap.get? b = some o ∧ H b = none := fun b o e =>
  ⟨I.base.keep b o (I.ok.bs b o e).1 (I.ok.bs b o e).2 (I.ok.nofr e) (I.ok.noex b o e), I.base.free b o (I.ok.bs b o e).1 (I.ok.bs b o e).2 (I.ok.noex b o e)⟩
theorem Inv.bk (I : Inv X pins σ H s) : ∀ b o, X.base.get? b = some o → s.heap.get? b = some o := fun b o e => (I.bs b o e).1
theorem Inv.mod (I : Inv X pins σ H s) : Mod X.K X.mg X.base := I.ok.mod
theorem Inv.kIn (I : Inv X pins σ H s) : X.K.In s.heap := I.ok.mod.kin.keeps I.bk
theorem Inv.nolimit (I : Inv X pins σ H s) : s.heap.NoLimit := I.ok.mod.nolimit.keeps I.bk
theorem Inv.lt (I : Inv X pins σ H s) : X.env.locals < s.heap.objs.size := let ⟨_, hn, _⟩ := I.loc; hn.lt
theorem Inv.sz (I : Inv X pins σ H s) : X.s₀.heap.objs.size ≤ s.heap.objs.size := Nat.le_trans I.ok.above (Nat.le_of_lt I.lt)
theorem Inv.nofs (I : Inv X pins σ H s) {a : Addr} (h : s.heap.objs.size ≤ a) : a ∉ X.fs := fun hb => by
  obtain ⟨_, o, ho, _⟩ := I.ok.funs.mem hb
  exact absurd (Nat.lt_of_lt_of_le (Heap.lt_size ho) (Nat.le_trans I.sz h)) (Nat.lt_irrefl _)
theorem Inv.cne (I : Inv X pins σ H s) : ∀ x c, X.env.cells.lookup x = some c → c ≠ X.env.locals := fun x c e z => by
  obtain ⟨v, o, ho, hd⟩ := I.cell x c e
  obtain ⟨m, ⟨o', es, ep, ho', hd', _⟩, _⟩ := I.loc
  rw [z, ho'] at ho; cases ho; rw [hd'] at hd; cases hd
theorem Inv.funs (I : Inv X pins σ H s) : s.heap.FunFrames X.base X.outer := by
  have all : ∀ (l : List Env), (∀ b ∈ frs l, b ∈ X.fs) → X.s₀.heap.FunFrames X.base l → s.heap.FunFrames X.base l := by
    intro l
    induction l with
    | nil => intro _ _; trivial
    | cons env r ih =>
      intro hs hl
      obtain ⟨hk, ⟨L, o, hf, hn, ho, hd⟩, hr⟩ := hl
      have hL : L ∈ X.fs := hs L (by unfold frs; rw [List.filterMap_cons, hf]; exact List.mem_cons_self)
      obtain ⟨sl, e⟩ := I.base.slot L o ho (I.ok.frf L hL) hL fun z => I.ok.exfs L z hL
      exact ⟨hk, ⟨L, _, hf, hn, e, hd⟩, ih (fun b hb => hs b (by unfold frs; rw [List.filterMap_cons, hf]; exact List.mem_cons_of_mem _ hb)) hr⟩
  exact all X.outer (fun _ hb => hb) I.ok.funs

/-- the frames that run, for a call -/
theorem Inv.stack (I : Inv X pins σ H s) : s.heap.FunFrames X.base X.stack := by
  rcases I.ok.stk with e | ⟨e, hf⟩
  · rw [e]; exact I.funs
  · rw [e]
    obtain ⟨m, hn, _⟩ := I.loc
    refine .cons (by rw [I.ok.kind]; decide) hf hn ?_ I.funs
    exact Heap.get?_none_of_le (Nat.le_trans I.ok.bsz I.ok.above)
theorem Inv.stkSub (I : Inv X pins σ H s) : ∀ b ∈ frs X.stack, b ∈ X.env.locals :: X.fs := fun b hb => by
  rcases I.ok.stk with e | ⟨e, hf⟩
  · rw [e] at hb; exact List.mem_cons_of_mem _ hb
  · rw [e] at hb
    unfold frs at hb
    rw [List.filterMap_cons, hf] at hb
    exact hb
theorem Inv.stkFree (I : Inv X pins σ H s) : ∀ b ∈ frs X.stack, H b = none := fun b hb => by
  rcases List.mem_cons.mp (I.stkSub b hb) with e | hb
  · rw [e]; exact I.free
  · obtain ⟨_, o, ho, _⟩ := I.ok.funs.mem hb
    exact I.base.free b o ho (I.ok.frf b hb) fun z => I.ok.exfs b z hb

/-- THE STEP: the untracked objects but the frame and the records at ch are kept (the callers' frames up to slots), the frame's map is kept, the new abstract heap is held -/
theorem Inv.step {g' : Array GenState} {t' : Nat} {d' : Drawn} {ch : List Addr} (I : Inv X pins σ H s)
    (hch : ∀ b ∈ ch, (b ∈ X.ex ∨ X.s₀.heap.objs.size ≤ b) ∧ b ≠ X.env.locals ∧ (∀ x c, X.env.cells.lookup x = some c → c ≠ b) ∧ ∀ p ∈ X.pn ++ pins, p.1 ≠ b)
    (keep : ∀ b o, b ≠ X.env.locals → b ∉ X.fs → b ∉ ch → s.heap.get? b = some o → H b = none → h'.get? b = some o)
    (slot : ∀ b o, b ≠ X.env.locals → b ∈ X.fs → b ∉ ch → s.heap.get? b = some o → H b = none → ∃ sl, h'.get? b = some { o with slots := sl }) (free : ∀ b o, b ∉ ch → s.heap.get? b = some o → H b = none → H' b = none)
    (there : ∀ b o, b ∉ ch → s.heap.get? b = some o → ∃ o', h'.get? b = some o')
    (tups : ∀ b xs, H b = some (.tup xs) → H' b = some (.tup xs)) (frzs : ∀ b o u, H b = some (.frz o u) → H' b = some (.frz o u)) (tbls : ∀ b ps, H b = some (.tbl ps) → ∃ more, H' b = some (.tbl (ps ++ more)))
    (ns : ∀ m, s.heap.Ns X.env.locals m → h'.Ns X.env.locals m) (hok : HOk X.prog X.w H' h') (hg : AllBare g') :
    Inv X pins σ H' { s with heap := h', gens := g', drawn := d', toks := t' } := by
  have neL : ∀ b o, X.s₀.heap.get? b = some o → b ≠ X.env.locals := fun b o e => Nat.ne_of_lt (Nat.lt_of_lt_of_le (Heap.lt_size e) I.ok.above)
  have neC : ∀ b o, X.s₀.heap.get? b = some o → b ∉ X.ex → b ∉ ch := fun b o e hx hb => by
    rcases (hch b hb).1 with z | z
    · exact hx z
    · exact absurd (Nat.lt_of_lt_of_le (Heap.lt_size e) z) (Nat.lt_irrefl _)
  have cellK : ∀ x c, X.env.cells.lookup x = some c → ∀ v, s.heap.IsCell c v → h'.IsCell c v := fun x c e v ⟨o, ho, hd⟩ => by
    have nch : c ∉ ch := fun z => (hch c z).2.2.1 x c e rfl
    by_cases hc : c ∈ X.fs
    · obtain ⟨sl, q⟩ := slot c o (I.cne x c e) hc nch ho (I.freeC x c e)
      exact ⟨_, q, hd⟩
    · exact ⟨o, keep c o (I.cne x c e) hc nch ho (I.freeC x c e), hd⟩
  refine ⟨I.ok, I.os, hg, ⟨fun b o e n hb hx => ?_, fun b o e n hb hx => ?_, fun b o e n hx => ?_, fun b o e hx => ?_, fun b xs e => tups b xs (I.base.tups b xs e), fun b o xs e => frzs b o xs (I.base.frzs b o xs e), fun b ps e => ?_⟩, ?_, fun x c e => ?_, ?_, fun x c e => ?_, fun p hp => ?_, hok, I.len⟩
  · exact keep b o (neL b o e) hb (neC b o e hx) (I.base.keep b o e n hb hx) (I.base.free b o e n hx)
  · obtain ⟨sl, e1⟩ := I.base.slot b o e n hb hx
    obtain ⟨sl', e2⟩ := slot b _ (neL b o e) hb (neC b o e hx) e1 (I.base.free b o e n hx)
    exact ⟨sl', e2⟩
  · obtain ⟨o', e1⟩ := I.base.there b o e hx
    exact free b o' (neC b o e hx) e1 (I.base.free b o e n hx)
  · obtain ⟨o', e1⟩ := I.base.there b o e hx
    exact there b o' (neC b o e hx) e1
  · obtain ⟨m1, e1⟩ := I.base.tbls b ps e
    obtain ⟨m2, e2⟩ := tbls b _ e1
    exact ⟨m1 ++ m2, by rw [e2, Array.append_assoc]⟩
  · obtain ⟨m, hn, hl⟩ := I.loc
    refine ⟨m, ns m hn, fun i x v e1 e2 e3 => ?_⟩
    obtain ⟨u, r, l⟩ := hl i x v e1 e2 e3
    refine ⟨u, r, ?_⟩
    rcases l with l | ⟨k, c, e, z⟩
    · exact .inl l
    · exact .inr ⟨k, c, e, cellK x c e _ z⟩
  · obtain ⟨v, z⟩ := I.cell x c e
    exact ⟨v, cellK x c e v z⟩
  · obtain ⟨m, ⟨o, _, _, ho, _⟩, _⟩ := I.loc
    exact free _ o (fun z => (hch _ z).2.1 rfl) ho I.free
  · obtain ⟨v, o, ho, hd⟩ := I.cell x c e
    exact free c o (fun z => (hch c z).2.2.1 x c e rfl) ho (I.freeC x c e)
  · obtain ⟨e, n, ne, nf, d⟩ := I.pin p hp
    have nch : p.1 ∉ ch := fun z => (hch p.1 z).2.2.2 p hp rfl
    exact ⟨keep p.1 p.2 ne nf nch e n, free p.1 p.2 nch e n, ne, nf, d⟩
/-- .. where the frame's own object is kept too -/
theorem Inv.un {t' : Nat} (I : Inv X pins σ H s) (u : Un X.fs [] H H' s.heap h') (hok : HOk X.prog X.w H' h') : Inv X pins σ H' { s with heap := h', toks := t' } := by
  obtain ⟨m, ⟨o, es, ep, ho, r⟩, _⟩ := id I.loc
  obtain ⟨sl, hL⟩ := u.any ho I.free (by simp)
  exact I.step (g' := s.gens) (d' := s.drawn) (ch := []) (fun _ z => nomatch z) (fun b o _ hb _ e n => u.keep b o e n hb (by simp)) (fun b o _ hb _ e n => u.slot b o e n hb (by simp)) (fun b o _ e n => u.free b o e n (by simp)) (fun b o _ e => u.there b o e (by simp)) u.tups u.frzs u.tbls (fun m' hm => by
    obtain ⟨o', es', ep', ho', r'⟩ := hm
    rw [ho] at ho'; cases ho'
    exact ⟨_, es', ep', hL, r'⟩) hok I.bare
/-- behind a call (or a comprehension's block): the slots of this frame may have changed too, the records at ch may have turned -/
theorem Inv.call {g' : Array GenState} {t' : Nat} {d' : Drawn} {ch : List Addr} (I : Inv X pins σ H s) (u : Un (frs X.stack) ch H H' s.heap h') (hok : HOk X.prog X.w H' h') (hg : AllBare g')
    (hch : ∀ b ∈ ch, (b ∈ X.ex ∨ X.s₀.heap.objs.size ≤ b) ∧ b ≠ X.env.locals ∧ (∀ x c, X.env.cells.lookup x = some c → c ≠ b) ∧ ∀ p ∈ X.pn ++ pins, p.1 ≠ b) :
    Inv X pins σ H' { s with heap := h', gens := g', drawn := d', toks := t' } := by
  obtain ⟨m, ⟨o, es, ep, ho, r⟩, _⟩ := id I.loc
  obtain ⟨sl, hL⟩ := u.any ho I.free fun z => (hch _ z).2.1 rfl
  exact I.step (ch := ch) hch (fun b o hL hb hc e n => u.keep b o e n (fun z => (List.mem_cons.mp (I.stkSub b z)).elim hL hb) hc) (fun b o _ _ hc e n => u.any e n hc) (fun b o hc e n => u.free b o e n hc) (fun b o hc e => u.there b o e hc) u.tups u.frzs u.tbls (fun m' hm => by
    obtain ⟨o', es', ep', ho', r'⟩ := hm
    rw [ho] at ho'; cases ho'
    exact ⟨_, es', ep', hL, r'⟩) hok hg
/-- an untracked record of ours (an iterator) has turned -/
theorem Inv.turned {t' : Nat} {it : Addr} (I : Inv X pins σ H s) (k : ∀ b o, b ≠ it → s.heap.get? b = some o → h'.get? b = some o) (hn : H it = none) (hL : it ≠ X.env.locals)
    (h1 : it ∈ X.ex ∨ X.s₀.heap.objs.size ≤ it) (h2 : ∀ x c, X.env.cells.lookup x = some c → c ≠ it) (h3 : ∀ p ∈ X.pn ++ pins, p.1 ≠ it) : Inv X pins σ H { s with heap := h', toks := t' } := by
  have nit : ∀ b u, H b = some u → b ≠ it := fun b u e z => by rw [z, hn] at e; cases e
  refine I.step (g' := s.gens) (d' := s.drawn) (ch := [it]) (fun b hb => ?_) (fun b o _ _ hc e _ => k b o (fun z => hc (by simp [z])) e) (fun b o _ _ hc e _ => ⟨o.slots, k b o (fun z => hc (by simp [z])) e⟩) (fun _ _ _ _ n => n)
    (fun b o hc e => ⟨o, k b o (fun z => hc (by simp [z])) e⟩) (fun _ _ e => e) (fun _ _ _ e => e) (fun b ps e => ⟨#[], by rw [e]; simp⟩) (fun m hm => ?_) (fun b u e => ?_) I.bare
  · have e : b = it := by simpa using hb
    subst e
    exact ⟨h1, hL, h2, h3⟩
  · obtain ⟨o, es, ep, ho, r⟩ := hm
    exact ⟨o, es, ep, k _ o (Ne.symm hL) ho, r⟩
  · refine (I.hok b u e).stay (fun c v hc q => k c v ?_ q) (fun _ q => q) fun _ _ q => q
    rcases hc with z | z
    · rw [z]; exact nit b u e
    · exact nit c _ z
theorem Inv.tok (I : Inv X pins σ H s) (t : Nat) : Inv X pins σ H { s with toks := t } := I.un (h' := s.heap) (t' := t) Un.refl I.hok
/-- all objects kept -/
theorem Inv.kept {t' : Nat} (I : Inv X pins σ H s) (k : ∀ b u, s.heap.get? b = some u → h'.get? b = some u) : Inv X pins σ H { s with heap := h', toks := t' } := I.un (Un.kept k) (I.hok.kept k)
/-- a new object laid and tracked -/
theorem Inv.laid {a : Addr} {o : HO} {t' : Nat} (I : Inv X pins σ H s) (k : ∀ b u, s.heap.get? b = some u → h'.get? b = some u) (hp : s.heap.objs.size ≤ a) (new : ObjOk X.prog X.w (upd H a o) h' a o) :
    Inv X pins σ (upd H a o) { s with heap := h', toks := t' } := I.un (Un.laid k hp (I.hok.fresh hp)) (I.hok.laid k hp new)
/-- an object written -/
theorem Inv.write {x e : Addr} {o : HO} {t' : Nat} (I : Inv X pins σ H s) (mu : Mut (H x)) (he : e = x ∨ H e = some (.own x)) (k : ∀ b u, b ≠ e → s.heap.get? b = some u → h'.get? b = some u) (heo : ∃ u, h'.get? e = some u)
    (new : ObjOk X.prog X.w (upd H x o) h' x o) : Inv X pins σ (upd H x o) { s with heap := h', toks := t' } := I.un (Un.write mu he k heo) (I.hok.write mu he k heo new)
theorem Inv.pins_of {pins' : List (Addr × Obj)} (I : Inv X pins σ H s) (h : ∀ p ∈ pins', s.heap.get? p.1 = some p.2 ∧ H p.1 = none ∧ p.1 ≠ X.env.locals ∧ p.1 ∉ X.fs ∧ ∀ v, p.2.data ≠ .cell v) : Inv X pins' σ H s :=
  ⟨I.ok, I.os, I.bare, I.base, I.loc, I.cell, I.free, I.freeC, fun p hp => (List.mem_append.mp hp).elim (fun z => I.pin p (List.mem_append_left _ z)) (h p), I.hok, I.len⟩

theorem nodup_ix {N : List Str} (hN : N.Nodup) {i j : Nat} {x : Str} (a : N[i]? = some x) (b : N[j]? = some x) : i = j := by
  obtain ⟨h1, e1⟩ := List.getElem?_eq_some_iff.mp a
  obtain ⟨h2, e2⟩ := List.getElem?_eq_some_iff.mp b
  exact (List.getElem_inj hN).mp (e1.trans e2.symm)

/-- a name is stored; what changed -/
theorem store_ok2 {M : Model} {A : Around} {E : Value → Shared → Prop} {i : Nat} {x : Str} {v : V} {u : Value} {Q : Unit → Shared → Prop} (I : Inv X pins σ H s) (hN : X.N.Nodup) (hi : X.N[i]? = some x) (hx : Loc X.env.scope x) (r : RelV v u)
    (h : ∀ s', Inv X pins (σ.set i (some v)) H s' → (∃ a, Heap.SameBut a s.heap s'.heap ∧ (a = X.env.locals ∨ X.env.cells.lookup x = some a)) → Q () s') (hf : X.fn x = true ∨ X.env.scope.names.lookup x = some .local := by first | exact .inl rfl | exact .inr rfl | assumption) : wpAny M A (storeName X.env x u) Q E s := by
  obtain ⟨m, hn, hl⟩ := id I.loc
  have hcls : (X.env.scope.kind == .class || (X.env.scope.kind == .module && X.env.locals != X.env.globals)) = false := by rw [I.ok.kind]; rfl
  have hiσ : i < σ.length := by rw [I.len]; exact (List.getElem?_eq_some_iff.mp hi).1
  have cne := I.cne
  have tracked : ∀ {a : Addr} {h' : Heap}, (∃ o, s.heap.get? a = some o ∧ H a = none) → Heap.SameBut a s.heap h' → HOk X.prog X.w H h' := fun {a h'} ha hs b ob e => by
    obtain ⟨_, _, hfree⟩ := ha
    refine (I.hok b ob e).stay (fun c w' hc q => (hs.2 c ?_).trans q) (fun _ q => q) fun _ _ q => q
    rintro rfl
    rcases hc with rfl | hc
    · rw [hfree] at e; cases e
    · rw [hfree] at hc; cases hc
  rcases hx with hk | hk
  · refine wpAny_storeName_local hk hn (fun h' hn' hs => ?_) hcls
    obtain ⟨oL, _, _, hoL, _⟩ := id hn
    refine h _ ⟨I.ok, I.os, I.bare, ⟨fun b o e n hb hx => ?_, fun b o e n hb hx => ?_, I.base.free, fun b o e hx => ?_, I.base.tups, I.base.frzs, I.base.tbls⟩, ⟨_, hn', fun j y v' e1 e2 e3 => ?_⟩, fun y c e => ?_, I.free, I.freeC, fun p hp => ?_, tracked ⟨oL, hoL, I.free⟩ hs, by simpa using I.len⟩ ⟨_, hs, .inl rfl⟩
    · exact (hs.2 b (Nat.ne_of_lt (Nat.lt_of_lt_of_le (Heap.lt_size e) I.ok.above))).trans (I.base.keep b o e n hb hx)
    · obtain ⟨sl, e1⟩ := I.base.slot b o e n hb hx
      exact ⟨sl, (hs.2 b (Nat.ne_of_lt (Nat.lt_of_lt_of_le (Heap.lt_size e) I.ok.above))).trans e1⟩
    · obtain ⟨o', e1⟩ := I.base.there b o e hx
      exact ⟨o', (hs.2 b (Nat.ne_of_lt (Nat.lt_of_lt_of_le (Heap.lt_size e) I.ok.above))).trans e1⟩
    · by_cases hj : j = i
      · subst hj
        rw [hi] at e1; cases e1
        rw [List.getElem?_set_self hiσ] at e2
        cases e2
        exact ⟨u, r, .inl ⟨hk, by simp⟩⟩
      · rw [List.getElem?_set_ne (Ne.symm hj)] at e2
        obtain ⟨u', r', q⟩ := hl j y v' e1 e2 e3
        refine ⟨u', r', ?_⟩
        rcases q with ⟨k, e⟩ | ⟨k, c, e, z⟩
        · refine .inl ⟨k, ?_⟩
          have : y ≠ x := fun e => hj (nodup_ix hN e1 (e ▸ hi))
          simp [this, e]
        · exact .inr ⟨k, c, e, z.sameBut hs (cne y c e)⟩
    · obtain ⟨w', z⟩ := I.cell y c e
      exact ⟨w', z.sameBut hs (cne y c e)⟩
    · obtain ⟨e, n, ne, nf, d⟩ := I.pin p hp
      exact ⟨(hs.2 p.1 ne).trans e, n, ne, nf, d⟩
  · have hfn : X.fn x = true := by
      rcases hf with z | z
      · exact z
      · rw [z] at hk; cases hk
    obtain ⟨c, hc⟩ := I.ok.has x (.inl hk)
    obtain ⟨w', z⟩ := I.cell x c hc
    refine wpAny_storeName_cell I.ok.kind hk hc z (fun h' hc' hs => ?_)
    obtain ⟨oc, hoc, hocd⟩ := id z
    refine h { s with heap := h' } ⟨I.ok, I.os, I.bare, ⟨fun b o e n hb hx => ?_, fun b o e n hb hx => ?_, I.base.free, fun b o e hx => ?_, I.base.tups, I.base.frzs, I.base.tbls⟩, ⟨m, hn.sameBut hs (Ne.symm (cne x c hc)), fun j y v' e1 e2 e3 => ?_⟩, fun y c' e => ?_, I.free, I.freeC, fun p hp => ?_, tracked ⟨oc, hoc, I.freeC x c hc⟩ hs, by simpa using I.len⟩ ⟨c, hs, .inr hc⟩
    · exact (hs.2 b (Nat.ne_of_lt (Nat.lt_of_lt_of_le (Heap.lt_size e) (I.ok.cab x c hfn hc)))).trans (I.base.keep b o e n hb hx)
    · obtain ⟨sl, e1⟩ := I.base.slot b o e n hb hx
      exact ⟨sl, (hs.2 b (Nat.ne_of_lt (Nat.lt_of_lt_of_le (Heap.lt_size e) (I.ok.cab x c hfn hc)))).trans e1⟩
    · obtain ⟨o', e1⟩ := I.base.there b o e hx
      exact ⟨o', (hs.2 b (Nat.ne_of_lt (Nat.lt_of_lt_of_le (Heap.lt_size e) (I.ok.cab x c hfn hc)))).trans e1⟩
    · by_cases hj : j = i
      · subst hj
        rw [hi] at e1; cases e1
        rw [List.getElem?_set_self hiσ] at e2
        cases e2
        exact ⟨u, r, .inr ⟨.inl hk, c, hc, hc'⟩⟩
      · rw [List.getElem?_set_ne (Ne.symm hj)] at e2
        obtain ⟨u', r', q⟩ := hl j y v' e1 e2 e3
        refine ⟨u', r', ?_⟩
        rcases q with q | ⟨k, c', e, z'⟩
        · exact .inl q
        · refine .inr ⟨k, c', e, z'.sameBut hs ?_⟩
          rintro rfl
          exact hj (nodup_ix hN e1 (I.ok.inj _ _ _ e hc ▸ hi))
    · by_cases hcc : c' = c
      · subst hcc; exact ⟨_, hc'⟩
      · obtain ⟨w2, z2⟩ := I.cell y c' e
        exact ⟨w2, z2.sameBut hs hcc⟩
    · obtain ⟨e, n, ne, nf, d⟩ := I.pin p hp
      refine ⟨(hs.2 p.1 ?_).trans e, n, ne, nf, d⟩
      intro q
      rw [q, hoc] at e
      have q' : oc = p.2 := Option.some.inj e
      exact d w' (by rw [← q']; exact hocd)
theorem store_ok {M : Model} {A : Around} {E : Value → Shared → Prop} {i : Nat} {x : Str} {v : V} {u : Value} {Q : Unit → Shared → Prop} (I : Inv X pins σ H s) (hN : X.N.Nodup) (hi : X.N[i]? = some x) (hx : Loc X.env.scope x) (r : RelV v u)
    (h : ∀ s', Inv X pins (σ.set i (some v)) H s' → Q () s') (hf : X.fn x = true ∨ X.env.scope.names.lookup x = some .local := by first | exact .inl rfl | exact .inr rfl | assumption) : wpAny M A (storeName X.env x u) Q E s :=
  store_ok2 I hN hi hx r (fun s' I' _ => h s' I') hf
/-- behind a call or a block, the state as it is -/
theorem Inv.call' {s' : Shared} {ch : List Addr} (I : Inv X pins σ H s) (ho : s'.os = s.os) (u : Un (frs X.stack) ch H H' s.heap s'.heap) (hok : HOk X.prog X.w H' s'.heap) (hg : AllBare s'.gens)
    (hch : ∀ b ∈ ch, (b ∈ X.ex ∨ X.s₀.heap.objs.size ≤ b) ∧ b ≠ X.env.locals ∧ (∀ x c, X.env.cells.lookup x = some c → c ≠ b) ∧ ∀ p ∈ X.pn ++ pins, p.1 ≠ b) : Inv X pins σ H' s' := by
  obtain ⟨h', g', d', t', o'⟩ := s'
  have e : o' = s.os := ho
  subst e
  exact I.call (g' := g') (t' := t') (d' := d') u hok hg hch
end

/-- an exception: its class, its own dict's address (where it has one), the abstract heap behind it -/
abbrev XK := Value → Option Addr → Hp → Prop
abbrev St := List (Option V)
abbrev VK := V → Hp → Prop
/-- an expression's reading; a test's; an argument list's -/
abbrev TE := St → Hp → VK → Prop
abbrev TT := St → Hp → (Bool → Hp → Prop) → Prop
abbrev TA := St → Hp → (List V → Hp → Prop) → Prop
/-- what is wanted behind a statement -/
structure Ends where
  nx : St → Hp → Prop
  rt : VK
  bk : St → Hp → Prop := fun _ _ => False
  ct : St → Hp → Prop := fun _ _ => False
abbrev TS := Ends → St → Hp → Prop

def EP (X : Cx) (pins : List (Addr × Obj)) (σ : St) (Q : VK) (u : Value) (s' : Shared) : Prop := ∃ v H', Inv X pins σ H' s' ∧ RelV v u ∧ Q v H'
def TP (X : Cx) (pins : List (Addr × Obj)) (σ : St) (Q : Bool → Hp → Prop) (b : Bool) (s' : Shared) : Prop := ∃ H', Inv X pins σ H' s' ∧ Q b H'
def AP (X : Cx) (pins : List (Addr × Obj)) (σ : St) (Q : List V → Hp → Prop) (us : List Value) (s' : Shared) : Prop := ∃ vs H', Inv X pins σ H' s' ∧ Vals vs us ∧ Q vs H'
def SP (X : Cx) (pins : List (Addr × Obj)) (D : Ends) (f : Flow) (s' : Shared) : Prop :=
  match f with
  | .next => ∃ σ' H', Inv X pins σ' H' s' ∧ D.nx σ' H'
  | .brk => ∃ σ' H', Inv X pins σ' H' s' ∧ D.bk σ' H'
  | .cont => ∃ σ' H', Inv X pins σ' H' s' ∧ D.ct σ' H'
  | .ret u => ∃ v σ' H', Inv X pins σ' H' s' ∧ RelV v u ∧ D.rt v H'

def PE (X : Cx) (e : Expr) (t : TE) : Prop :=
  ∀ (pins : List (Addr × Obj)) (s : Shared) (σ : St) (H : Hp) (Q : VK), Inv X pins σ H s → t σ H Q → wpAny (model X.prog X.w) X.A (eval e X.env) (EP X pins σ Q) X.xe s
def PT (X : Cx) (e : Expr) (t : TT) : Prop :=
  ∀ (pins : List (Addr × Obj)) (s : Shared) (σ : St) (H : Hp) (Q : Bool → Hp → Prop), Inv X pins σ H s → t σ H Q → wpAny (model X.prog X.w) X.A (isTrue e X.env (eval e X.env)) (TP X pins σ Q) X.xe s
/-- a test whatever its 'whole' is (and, or) -/
def PW (X : Cx) (e : Expr) (t : TT) : Prop :=
  ∀ (whole : Sem Value) (pins : List (Addr × Obj)) (s : Shared) (σ : St) (H : Hp) (Q : Bool → Hp → Prop), Inv X pins σ H s → t σ H Q → wpAny (model X.prog X.w) X.A (isTrue e X.env whole) (TP X pins σ Q) X.xe s
theorem PW.pt {X : Cx} {e : Expr} {t : TT} (h : PW X e t) : PT X e t := h _
/-- an argument list (no star), from the left -/
def PA (X : Cx) (es : List Expr) (t : TA) : Prop :=
  ∀ (pos : Pos) (pins : List (Addr × Obj)) (s : Shared) (σ : St) (H : Hp) (Q : List V → Hp → Prop), Inv X pins σ H s → t σ H Q → wpAny (model X.prog X.w) X.A (spliced (backTo pos (starEach es X.env))) (AP X pins σ Q) X.xe s
def PS (X : Cx) (st : Stmt) (t : TS) : Prop :=
  ∀ (pins : List (Addr × Obj)) (s : Shared) (σ : St) (H : Hp) (D : Ends), Inv X pins σ H s → t D σ H → wpAny (model X.prog X.w) X.A (exec st X.env) (SP X pins D) X.xe s
def PSs (X : Cx) (st : List Stmt) (t : TS) : Prop :=
  ∀ (pins : List (Addr × Obj)) (s : Shared) (σ : St) (H : Hp) (D : Ends), Inv X pins σ H s → t D σ H → wpAny (model X.prog X.w) X.A (execs st X.env) (SP X pins D) X.xe s
/-- weaken the end -/
theorem thn {α : Type} {t : Sem α} {Q Q' : α → Shared → Prop} {M : Model} {A : Around} {E : Value → Shared → Prop} {s : Shared} (h : wpAny M A t Q E s) (hQ : ∀ a s, Q a s → Q' a s) : wpAny M A t Q' E s := wpAny_mono h hQ fun _ _ x => x
end L2

namespace L2
open PySem PySem.Spec PyProof.Rows
section
variable {X : Cx}

def tVar (i : Nat) : TE := fun σ H Q => ∃ v, σ[i]? = some (some v) ∧ Q v H
def tC (v : V) : TE := fun _ H Q => Q v H
theorem pe_var {i : Nat} {x : Str} {pos : Pos} (hN : X.N[i]? = some x) (hv : Vis X.env.scope x) (hd : (x == ("__debug__" : Str)) = false := by decide) (hcd : (x == ("__classdict__" : Str)) = false := by decide) : PE X (.Name x pos) (tVar i) := by
  intro pins s σ H Q I h
  obtain ⟨v, e, h⟩ := h
  obtain ⟨m, hn, hl⟩ := I.loc
  obtain ⟨u, r, l⟩ := hl i x v hN e hv
  have fin : EP X pins σ Q u s := ⟨v, H, I, r, h⟩
  rcases l with ⟨hk, hm⟩ | ⟨hk, c, hc, hcell⟩
  · exact wpAny_Name (wpAny_loadName_local I.ok.kind hk hn hm fin) hd
  · rcases hk with hk | hk
    · exact wpAny_Name (wpAny_loadName_cell I.ok.kind hk hc hcell fin) hd
    · exact wpAny_Name (wpAny_loadName_free I.ok.kind hk hc hcell fin hcd) hd
theorem pe_int {i j pos} : PE X (.Constant (.int i) j pos) (tC (.int i)) := fun _ _ _ H _ I h => wpAny_Constant_int ⟨.int i, H, I.tok _, ⟨_, rfl⟩, h⟩
theorem pe_bl {b j pos} : PE X (.Constant (.bool b) j pos) (tC (.bl b)) := fun _ _ _ H _ I h => Constant_bool ⟨.bl b, H, I, rfl, h⟩
theorem pe_non {j pos} : PE X (.Constant .none j pos) (tC .non) := fun _ _ _ H _ I h => Constant_none ⟨.non, H, I, rfl, h⟩
theorem pe_str {x j pos} : PE X (.Constant (.str x) j pos) (tC (.str x)) := fun _ _ _ H _ I h => Calls.Constant_str ⟨.str x, H, I.tok _, ⟨_, rfl⟩, h⟩

/-- a global name of the def -/
def Gl (X : Cx) (x : Str) : Prop := X.env.kindOf x = some .globalImplicit
theorem ld_glob {E : Value → Shared → Prop} {pins : List (Addr × Obj)} {s : Shared} {σ : St} {H : Hp} {x : Str} {u : Value} {pos : Pos} {Q : Value → Shared → Prop} (I : Inv X pins σ H s) (hg : Gl X x) (hm : X.mg x = some u) (h : Q u s)
    (hd : (x == ("__debug__" : Str)) = false := by decide) : wpAny (model X.prog X.w) X.A (eval (.Name x pos) X.env) Q E s :=
  Calls.Name_function_global I.ok.kind hg (Calls.loadGlobal_global (by rw [I.ok.glob]; exact I.mod.glob.keeps I.bk) hm h) hd
theorem ld_blt {E : Value → Shared → Prop} {pins : List (Addr × Obj)} {s : Shared} {σ : St} {H : Hp} {x : Str} {u : Value} {pos : Pos} {Q : Value → Shared → Prop} (I : Inv X pins σ H s) (hg : Gl X x) (hm : X.mg x = none) (hv : bootBuiltins x = some u) (h : Q u s)
    (hn : x ≠ "__name__" := by decide) (hd : (x == ("__debug__" : Str)) = false := by decide) : wpAny (model X.prog X.w) X.A (eval (.Name x pos) X.env) Q E s := by
  obtain ⟨mb, h1, h2⟩ := I.mod.blt
  exact Calls.Name_function_global I.ok.kind hg (Calls.loadGlobal_builtin (by rw [I.ok.glob]; exact I.mod.glob.keeps I.bk) hm (by rw [I.ok.blt]; exact h1.keeps I.bk) ((h2 x hn).trans hv) h) hd
/-- a module's constant, a class, a function, as a value -/
theorem pe_glob {x : Str} {v : V} {u : Value} {pos : Pos} (hg : Gl X x) (hm : X.mg x = some u) (r : RelV v u) (hd : (x == ("__debug__" : Str)) = false := by decide) : PE X (.Name x pos) (tC v) :=
  fun _ _ _ H _ I h => ld_glob I hg hm ⟨v, H, I, r, h⟩ hd
theorem pe_bltn {x : Str} {v : V} {u : Value} {pos : Pos} (hg : Gl X x) (hm : X.mg x = none) (hv : bootBuiltins x = some u) (r : RelV v u) (hn : x ≠ "__name__" := by decide) (hd : (x == ("__debug__" : Str)) = false := by decide) : PE X (.Name x pos) (tC v) :=
  fun _ _ _ H _ I h => ld_blt I hg hm hv ⟨v, H, I, r, h⟩ hn hd

variable {a b : Expr} {ta tb : TE} {pos : Pos}
/-- a comparison as a value, as a test -/
def tB (t : TE) : TT := fun σ H Q => t σ H fun x H1 => ∃ c, x = .bl c ∧ Q c H1
/-- an expression whose value is a bool, as a test -/
theorem pt_val {e : Expr} {t : TE} (h : PE X e t) (he : ∀ whole, isTrue e X.env whole = (do let v ← whole; standAt e.pos; holding [v] (truthy v)) := by intro _; rfl) : PT X e (tB t) := by
  intro pins s σ H Q I hw
  refine isTrue_plain (thn (h pins s σ H _ I hw) fun v s1 ⟨x, H1, I1, r1, q1⟩ => ?_) (he _)
  obtain ⟨d, rfl, q⟩ := q1
  cases r1
  exact wpAny_truthy_bool ⟨H1, I1, q⟩

variable {tA tB' : TT} {rest : List Expr}
def tAnd (t u : TT) : TT := fun σ H Q => t σ H fun c H1 => if c = true then u σ H1 Q else Q false H1
def tOr (t u : TT) : TT := fun σ H Q => t σ H fun c H1 => if c = true then Q true H1 else u σ H1 Q
def tNot (t : TT) : TT := fun σ H Q => t σ H fun c H1 => Q (!c) H1
theorem pw_and1 (ha : PT X a tA) : PW X (.BoolOp .And [a] pos) tA := by
  intro wh pins s σ H Q I h
  refine isTrue_and (thn (ha pins s σ H Q I h) fun c s1 e => ?_)
  cases c with
  | true => exact isTrue_and_nil e
  | false => exact e
theorem pw_or1 (ha : PT X a tA) : PW X (.BoolOp .Or [a] pos) tA := by
  intro wh pins s σ H Q I h
  refine isTrue_or (thn (ha pins s σ H Q I h) fun c s1 e => ?_)
  cases c with
  | false => exact isTrue_or_nil e
  | true => exact e
theorem pw_and (ha : PT X a tA) (hb : PW X (.BoolOp .And (b :: rest) pos) tB') : PW X (.BoolOp .And (a :: b :: rest) pos) (tAnd tA tB') := by
  intro wh pins s σ H Q I h
  refine isTrue_and (thn (ha pins s σ H _ I h) fun c s1 ⟨H1, I1, q1⟩ => ?_)
  cases c with
  | true => exact hb wh pins s1 σ H1 Q I1 q1
  | false => exact ⟨H1, I1, q1⟩
theorem pw_or (ha : PT X a tA) (hb : PW X (.BoolOp .Or (b :: rest) pos) tB') : PW X (.BoolOp .Or (a :: b :: rest) pos) (tOr tA tB') := by
  intro wh pins s σ H Q I h
  refine isTrue_or (thn (ha pins s σ H _ I h) fun c s1 ⟨H1, I1, q1⟩ => ?_)
  cases c with
  | true => exact ⟨H1, I1, q1⟩
  | false => exact hb wh pins s1 σ H1 Q I1 q1
theorem pt_not (ha : PT X a tA) : PT X (.UnaryOp .Not a pos) (tNot tA) := by
  intro pins s σ H Q I h
  exact isTrue_not (ha pins s σ H (fun c H1 => Q (!c) H1) I h)
/-- .. as values (bools) -/
def tAndV (ta tb : TE) : TE := fun σ H Q => ta σ H fun x H1 => ∃ c, x = .bl c ∧ if c = true then tb σ H1 Q else Q (.bl false) H1
def tOrV (ta tb : TE) : TE := fun σ H Q => ta σ H fun x H1 => ∃ c, x = .bl c ∧ if c = true then Q (.bl true) H1 else tb σ H1 Q
def tNotV (ta : TE) : TE := fun σ H Q => ta σ H fun x H1 => ∃ c, x = .bl c ∧ Q (.bl (!c)) H1
theorem pe_one {op} {t : TE} (h : PE X a t) : PE X (.BoolOp op [a] pos) t := fun pins s σ H Q I hw => BoolOp_one (h pins s σ H Q I hw)
theorem pe_and (ha : PE X a ta) (hb : PE X (.BoolOp .And (b :: rest) pos) tb) : PE X (.BoolOp .And (a :: b :: rest) pos) (tAndV ta tb) := by
  intro pins s σ H Q I h
  refine BoolOp_and (thn (ha pins s σ H _ I h) fun v s1 ⟨x, H1, I1, r1, q1⟩ => ?_)
  obtain ⟨c, rfl, q1⟩ := q1
  cases r1
  refine wpAny_truthy_bool ?_
  cases c with
  | true => exact hb pins s1 σ H1 Q I1 q1
  | false => exact ⟨.bl false, H1, I1, rfl, q1⟩
/-- a if t else b -/
def tIf (t : TT) (ta tb : TE) : TE := fun σ H Q => t σ H fun c H1 => if c = true then ta σ H1 Q else tb σ H1 Q
theorem pe_ifExp {c : Expr} (hc : PT X c tA) (ha : PE X a ta) (hb : PE X b tb) : PE X (.IfExp c a b pos) (tIf tA ta tb) := by
  intro pins s σ H Q I h
  refine wpAny_IfExp (thn (hc pins s σ H _ I h) fun d s1 ⟨H1, I1, q1⟩ => ?_)
  cases d with
  | true => exact ha pins s1 σ H1 Q I1 q1
  | false => exact hb pins s1 σ H1 Q I1 q1
end
end L2

namespace L2
open PySem PySem.Spec PyProof.Rows

def SqL (K : PySem.W.Frag) (H : Hp) (a : Addr) (xs : List V) : Prop :=
  Rd H a (.lst xs) ∨
    ∃ (o : Obj) (its : Array Value) (n : Nat), K.lookup a = some o ∧ o.cls = .type "list" ∧ o.dict = none ∧ o.data = .seq its n ∧ its.size ≤ sizeLine ∧ Vals xs its.toList
def SqT (K : PySem.W.Frag) (H : Hp) (a : Addr) (xs : List V) : Prop :=
  Rd H a (.tup xs) ∨
    ∃ (o : Obj) (its : Array Value) (n : Nat), K.lookup a = some o ∧ o.cls = .type "tuple" ∧ o.data = .seq its n ∧ its.size ≤ sizeLine ∧ Vals xs its.toList
def absV : Value → Option V
  | .none => some .non
  | .bool b => some (.bl b)
  | .int i _ => some (.int i)
  | .str x _ => some (.str x)
  | .bytes b _ => some (.byt b)
  | .float b _ => some (.flt b)
  | .ref a => some (.ref a)
  | .type n => some (.ty n)
  | _ => none
theorem RelV.abs {x : V} {u : Value} (r : RelV x u) : absV u = some x := by
  cases x with
  | non => cases r; rfl
  | bl _ => cases r; rfl
  | int _ => obtain ⟨t, rfl⟩ := r; rfl
  | str _ => obtain ⟨t, rfl⟩ := r; rfl
  | byt _ => obtain ⟨t, rfl⟩ := r; rfl
  | flt _ => obtain ⟨t, rfl⟩ := r; rfl
  | ref _ => cases r; rfl
  | ty _ => cases r; rfl
theorem RelV.inj {x y : V} {u : Value} (r : RelV x u) (q : RelV y u) : x = y := Option.some.inj (r.abs.symm.trans q.abs)
theorem Vals.inj : ∀ {xs ys : List V} {us : List Value}, Vals xs us → Vals ys us → xs = ys
  | _, _, _, .nil, .nil => rfl
  | _, _, _, .cons r t, .cons r' t' => by rw [r.inj r', Vals.inj t t']
section
variable {X : Cx} {pins : List (Addr × Obj)} {σ : St} {H : Hp} {s : Shared} {a : Addr} {xs ys : List V}
theorem SqL.of {K : PySem.W.Frag} (h : H a = some (.lst xs)) : SqL K H a xs := .inl (.inl h)
theorem SqT.of {K : PySem.W.Frag} (h : H a = some (.tup xs)) : SqT K H a xs := .inl (.inl h)
theorem Inv.list (I : Inv X pins σ H s) (h : SqL X.K H a xs) : ∃ its : List Value, Vals xs its ∧ PlainL s.heap a its.toArray ∧ xs.length ≤ sizeLine := by
  rcases h with h | ⟨o, its, n, hk, hc, hd, hs, hz, r⟩
  · obtain ⟨z, its, n, r, e⟩ := h.ok I.hok
    exact ⟨its, r, ⟨_, n, e, rfl, rfl, rfl⟩, z⟩
  · refine ⟨its.toList, r, ⟨o, n, I.kIn a o hk, hc, hd, by simpa using hs⟩, ?_⟩
    have e := r.length
    simp only [Array.length_toList] at e
    omega
theorem Inv.tuple (I : Inv X pins σ H s) (h : SqT X.K H a xs) : ∃ its : List Value, Vals xs its ∧ IsTup s.heap a its.toArray ∧ xs.length ≤ sizeLine := by
  rcases h with h | ⟨o, its, n, hk, hc, hs, hz, r⟩
  · obtain ⟨z, its, r, p⟩ := h.ok I.hok
    exact ⟨its, r, p, z⟩
  · refine ⟨its.toList, r, ⟨o, I.kIn a o hk, hc, n, by simpa using hs⟩, ?_⟩
    have e := r.length
    simp only [Array.length_toList] at e
    omega
theorem Inv.list_inj (I : Inv X pins σ H s) (h : SqL X.K H a xs) (h' : SqL X.K H a ys) : xs = ys := by
  obtain ⟨its, r, ⟨o, n, e, _, _, d⟩, _⟩ := I.list h
  obtain ⟨its', r', ⟨o', n', e', _, _, d'⟩, _⟩ := I.list h'
  rw [e] at e'; cases e'
  rw [d] at d'
  injection d' with d1 _
  have : its = its' := by simpa using congrArg Array.toList d1
  subst this
  exact r.inj r'
theorem Inv.tuple_inj (I : Inv X pins σ H s) (h : SqT X.K H a xs) (h' : SqT X.K H a ys) : xs = ys := by
  obtain ⟨its, r, ⟨o, e, _, n, d⟩, _⟩ := I.tuple h
  obtain ⟨its', r', ⟨o', e', _, n', d'⟩, _⟩ := I.tuple h'
  rw [e] at e'; cases e'
  rw [d] at d'
  injection d' with d1 _
  have : its = its' := by simpa using congrArg Array.toList d1
  subst this
  exact r.inj r'
end

abbrev Cx.wish (X : Cx) (E : Value → Shared → Prop) : Cx := { X with xe := E }
/-- no exception leaves -/
abbrev Cx.nox (X : Cx) : Cx := X.wish fun _ _ => False
theorem Cx.Ok.wish {X : Cx} (ok : X.Ok) (E : Value → Shared → Prop) : (X.wish E).Ok :=
  ⟨ok.mod, ok.kind, ok.glob, ok.blt, ok.above, ok.inj, ok.has, ok.cab, ok.hd, ok.frames, ok.stk, ok.exf, ok.bs, ok.bsz, ok.noex, ok.exfs, ok.funs, ok.frf⟩
theorem Cx.Ok.unwish {X : Cx} {E : Value → Shared → Prop} (ok : (X.wish E).Ok) : X.Ok :=
  ⟨ok.mod, ok.kind, ok.glob, ok.blt, ok.above, ok.inj, ok.has, ok.cab, ok.hd, ok.frames, ok.stk, ok.exf, ok.bs, ok.bsz, ok.noex, ok.exfs, ok.funs, ok.frf⟩
section
variable {X : Cx} {pins : List (Addr × Obj)} {σ : St} {H : Hp} {s : Shared} {E : Value → Shared → Prop}
theorem Inv.wish (I : Inv X pins σ H s) (E : Value → Shared → Prop) : Inv (X.wish E) pins σ H s := ⟨I.ok.wish E, I.os, I.bare, I.base, I.loc, I.cell, I.free, I.freeC, I.pin, I.hok, I.len⟩
theorem Inv.unwish (I : Inv (X.wish E) pins σ H s) : Inv X pins σ H s := ⟨I.ok.unwish, I.os, I.bare, I.base, I.loc, I.cell, I.free, I.freeC, I.pin, I.hok, I.len⟩
theorem SP.unwish {D : Ends} {f : Flow} {s' : Shared} (h : SP (X.wish E) pins D f s') : SP X pins D f s' := by
  cases f with
  | next => obtain ⟨σ', H', I, q⟩ := h; exact ⟨σ', H', I.unwish, q⟩
  | brk => obtain ⟨σ', H', I, q⟩ := h; exact ⟨σ', H', I.unwish, q⟩
  | cont => obtain ⟨σ', H', I, q⟩ := h; exact ⟨σ', H', I.unwish, q⟩
  | ret u => obtain ⟨v, σ', H', I, r, q⟩ := h; exact ⟨v, σ', H', I.unwish, r, q⟩
theorem PE.nox {e : Expr} {t : TE} (h : PE X.nox e t) : PE X e t := fun pins s σ H Q I hw =>
  wpAny_mono (h pins s σ H Q (I.wish _) hw) (fun _ _ ⟨v, H', I', r, q⟩ => ⟨v, H', I'.unwish, r, q⟩) fun _ _ z => False.elim z
theorem PT.nox {e : Expr} {t : TT} (h : PT X.nox e t) : PT X e t := fun pins s σ H Q I hw =>
  wpAny_mono (h pins s σ H Q (I.wish _) hw) (fun _ _ ⟨H', I', q⟩ => ⟨H', I'.unwish, q⟩) fun _ _ z => False.elim z
theorem PSs.nox {st : List Stmt} {t : TS} (h : PSs X.nox st t) : PSs X st t := fun pins s σ H D I hw =>
  wpAny_mono (h pins s σ H D (I.wish _) hw) (fun _ _ q => q.unwish) fun _ _ z => False.elim z
end

section
variable {X : Cx} {st : Stmt} {rest : List Stmt} {t u : TS} {e : Expr} {te : TE} {pos : Pos}
def tNext : TS := fun D σ H => D.nx σ H
def tSeq (t u : TS) : TS := fun D σ H => t { D with nx := u D } σ H
theorem pss_nil : PSs X [] tNext := fun _ _ σ H _ I h => wpAny_execs_nil ⟨σ, H, I, h⟩
theorem pss_cons (h1 : PS X st t) (h2 : PSs X rest u) : PSs X (st :: rest) (tSeq t u) := by
  intro pins s σ H D I h
  refine wpAny_execs_cons (thn (h1 pins s σ H { D with nx := u D } I h) fun f s1 q => ?_)
  cases f with
  | next =>
    obtain ⟨σ', H', I', q⟩ := q
    exact h2 pins s1 σ' H' D I' q
  | ret v => exact q
  | brk => exact q
  | cont => exact q
theorem pss_one (h1 : PS X st t) : PSs X [st] t := by
  intro pins s σ H D I h
  refine wpAny_execs_cons (thn (h1 pins s σ H D I h) fun f s1 q => ?_)
  cases f with
  | next => exact wpAny_execs_nil q
  | ret v => exact q
  | brk => exact q
  | cont => exact q
def tBreak : TS := fun D σ H => D.bk σ H
theorem ps_break : PS X (.Break pos) tBreak := fun _ _ σ H _ I h => wpAny_Break ⟨σ, H, I, h⟩
/-- in a def's body nothing is shown -/
theorem Inv.quiet {pins : List (Addr × Obj)} {σ : St} {H : Hp} {s : Shared} (I : Inv X pins σ H s) : interactive X.env = false := by simp [interactive, I.ok.kind]
/-- an expression whose value is dropped -/
def tDrop (te : TE) : TS := fun D σ H => te σ H fun _ H1 => D.nx σ H1
theorem ps_expr (he : PE X e te) (hs : swapsWith e none pos.line X.env = pure false := by rfl) : PS X (.Expr e pos) (tDrop te) := by
  intro pins s σ H D I h
  exact wpAny_Expr_any (thn (he pins s σ H _ I h) fun v s1 ⟨x, H1, I1, r1, q1⟩ => ⟨σ, H1, I1, q1⟩) I.quiet hs
def tRet (te : TE) : TS := fun D σ H => te σ H D.rt
theorem ps_ret (he : PE X e te) : PS X (.Return (some e) pos) (tRet te) := by
  intro pins s σ H D I h
  exact wpAny_Return_some (thn (he pins s σ H _ I h) fun v s1 ⟨x, H1, I1, r1, q1⟩ => ⟨x, σ, H1, I1, r1, q1⟩)
def tIfS (c : TT) (t u : TS) : TS := fun D σ H => c σ H fun b H1 => if b = true then t D σ H1 else u D σ H1
theorem ps_if {c : Expr} {a b : List Stmt} {tc : TT} (hc : PT X c tc) (ha : PSs X a t) (hb : PSs X b u) : PS X (.If c a b pos) (tIfS tc t u) := by
  intro pins s σ H D I h
  refine wpAny_If (thn (hc pins s σ H _ I h) fun d s1 ⟨H1, I1, q1⟩ => ?_)
  cases d with
  | true => exact ha pins s1 σ H1 D I1 q1
  | false => exact hb pins s1 σ H1 D I1 q1
/-- code that the proof never comes to -/
def tNever : TS := fun _ _ _ => False
theorem ps_never : PS X st tNever := fun _ _ _ _ _ _ h => h.elim
end

abbrev TG := V → St → Hp → (St → Hp → Prop) → Prop
abbrev TGs := List V → St → Hp → (St → Hp → Prop) → Prop
def PG (X : Cx) (target : Expr) (t : TG) : Prop :=
  ∀ (pins : List (Addr × Obj)) (s : Shared) (σ : St) (H : Hp) (v : V) (u : Value) (Q : St → Hp → Prop), Inv X pins σ H s → RelV v u → t v σ H Q →
    wpAny (model X.prog X.w) X.A (assign target X.env u) (fun _ s' => ∃ σ' H', Inv X pins σ' H' s' ∧ Q σ' H') X.xe s
/-- several targets, one after another -/
def PGs (X : Cx) (ts : List Expr) (t : TGs) : Prop :=
  ∀ (pins : List (Addr × Obj)) (s : Shared) (σ : St) (H : Hp) (vs : List V) (us : List Value) (Q : St → Hp → Prop), Inv X pins σ H s → Vals vs us → t vs σ H Q →
    wpAny (model X.prog X.w) X.A (assignInOrder ((assignEach ts X.env).map (·.2)) us) (fun _ s' => ∃ σ' H', Inv X pins σ' H' s' ∧ Q σ' H') X.xe s
/-- o[i] = v, by values -/
abbrev TSet := V → V → V → Hp → (Hp → Prop) → Prop
def PSet (X : Cx) (t : TSet) : Prop :=
  ∀ (pins : List (Addr × Obj)) (s : Shared) (σ : St) (H : Hp) (o i v : V) (ov iv u : Value) (Q : Hp → Prop), Inv X pins σ H s → RelV o ov → RelV i iv → RelV v u → t o i v H Q →
    wpAny (model X.prog X.w) X.A (setItem ov iv u) (fun _ s' => ∃ H', Inv X pins σ H' s' ∧ Q H') X.xe s
section
variable {X : Cx} {pos : Pos}
def gName (i : Nat) : TG := fun v σ H Q => Q (σ.set i (some v)) H
theorem pg_name {i : Nat} {x : Str} (hN : X.N.Nodup) (hi : X.N[i]? = some x) (hx : Loc X.env.scope x) (hf : X.fn x = true ∨ X.env.scope.names.lookup x = some .local := by first | exact .inl rfl | exact .inr rfl | assumption) : PG X (.Name x pos) (gName i) := by
  intro pins s σ H v u Q I r h
  exact wpAny_assign_Name (store_ok I hN hi hx r (fun s' I' => ⟨_, H, I', h⟩) hf)
def gNil : TGs := fun vs σ H Q => vs = [] ∧ Q σ H
def gCons (t : TG) (u : TGs) : TGs := fun vs σ H Q => ∃ v r, vs = v :: r ∧ t v σ H fun σ' H' => u r σ' H' Q
theorem pgs_nil : PGs X [] gNil := by
  intro pins s σ H vs us Q I r h
  obtain ⟨e, h⟩ := h
  subst e
  cases r
  exact assignInOrder_nil ⟨σ, H, I, h⟩
theorem pgs_cons {e : Expr} {es : List Expr} {t : TG} {u : TGs} (h1 : PG X e t) (h2 : PGs X es u)
    (hs : (assignEach (e :: es) X.env).map (·.2) = assign e X.env :: (assignEach es X.env).map (·.2) := by rfl) : PGs X (e :: es) (gCons t u) := by
  intro pins s σ H vs us Q I r h
  obtain ⟨v, vr, e1, h⟩ := h
  subst e1
  cases r with
  | cons r rr =>
    rw [hs]
    refine assignInOrder_cons (thn (h1 pins s σ H _ _ _ I r h) fun _ s1 ⟨σ1, H1, I1, q1⟩ => ?_)
    exact h2 pins s1 σ1 H1 _ _ Q I1 rr q1
/-- (a, b, ..) = a tuple of that length -/
def gTup (K : PySem.W.Frag) (n : Nat) (t : TGs) : TG := fun v σ H Q => ∃ a xs, v = .ref a ∧ SqT K H a xs ∧ xs.length = n ∧ t xs σ H Q
theorem pg_tup {es : List Expr} {k : Nat} {t : TGs} {n : Nat} (hc : X.calm = true) (h : PGs X es t)
    (hn : (assignEach es X.env).length = n := by rfl) (hst : (assignEach es X.env).findIdx? (·.1) = none := by rfl) : PG X (.Tuple es k pos) (gTup X.K n t) := by
  intro pins s σ H v u Q I r hw
  obtain ⟨a, xs, e1, hq, hl, hw⟩ := hw
  subst e1
  cases r
  obtain ⟨its, rv, ht, hz⟩ := I.tuple hq
  refine assign_Tuple_tuple (I.ok.hd hc) ht (by simp [hn, ← hl, rv.length]) hst fun h' hx => ?_
  have I1 : Inv X pins σ H { s with heap := h' } := I.kept (t' := s.toks) fun b o e => hx b o (Nat.ne_of_lt (Heap.lt_size e)) e
  exact h pins _ σ H xs _ Q I1 (by simpa using rv) hw
/-- o[i] = .. -/
def gSub (to ti : TE) (t : TSet) : TG := fun v σ H Q => to σ H fun o H1 => ti σ H1 fun i H2 => t o i v H2 fun H3 => Q σ H3
theorem pg_sub {o i : Expr} {to ti : TE} {t : TSet} (ho : PE X o to) (hi : PE X i ti) (hs : PSet X t)
    (ha : ∀ v, assign (.Subscript o i pos) X.env v = (do
      let ov ← holding [v] (eval o X.env)
      let iv ← holding [v, ov] (eval i X.env)
      standAt pos
      holding [v, ov, iv] (setItem ov iv v)
      release [v, ov, iv] []) := by intro _; rfl) : PG X (.Subscript o i pos) (gSub to ti t) := by
  intro pins s σ H v u Q I r h
  rw [ha]
  refine wpAny_bind (wpAny_holding (thn (ho pins s σ H _ I h) fun ov s1 ⟨x, H1, I1, r1, q1⟩ => ?_))
  refine wpAny_bind (wpAny_holding (thn (hi pins s1 σ H1 _ I1 q1) fun iv s2 ⟨y, H2, I2, r2, q2⟩ => ?_))
  refine wpAny_bind (wpAny_standAt (wpAny_bind (wpAny_holding (thn (hs pins s2 σ H2 x y v ov iv u _ I2 r1 r2 r q2) fun _ s3 ⟨H3, I3, q3⟩ => ?_))))
  exact wpAny_release ⟨σ, H3, I3, q3⟩
/-- target = value -/
def tAsg (te : TE) (g : TG) : TS := fun D σ H => te σ H fun x H1 => g x σ H1 D.nx
theorem ps_asg {tg e : Expr} {te : TE} {g : TG} (he : PE X e te) (hg : PG X tg g) (hs : swapsWithSole [tg] e pos.line X.env = pure false := by rfl) (hw : swappedStores [tg] e X.env = pure none := by rfl)
    (h1 : (assignEach [tg] X.env).map (·.2) = [assign tg X.env] := by rfl) : PS X (.Assign [tg] e pos) (tAsg te g) := by
  intro pins s σ H D I h
  refine wpAny_Assign_stores (thn (he pins s σ H _ I h) fun v s1 ⟨x, H1, I1, r1, q1⟩ => ?_) hs hw
  rw [h1]
  exact thn (hg pins s1 σ H1 x v _ I1 r1 q1) fun _ s2 q => q
/-- name = value -/
theorem ps_set {i : Nat} {x : Str} {e : Expr} {te : TE} {pos' : Pos} (hN : X.N.Nodup) (hi : X.N[i]? = some x) (hx : Loc X.env.scope x) (he : PE X e te) (hs : swapsWith e (some (.Name x pos')) pos.line X.env = pure false := by rfl) (hf : X.fn x = true ∨ X.env.scope.names.lookup x = some .local := by first | exact .inl rfl | exact .inr rfl | assumption) :
    PS X (.Assign [.Name x pos'] e pos) (tAsg te (gName i)) := by
  intro pins s σ H D I h
  refine wpAny_Assign_Name (thn (he pins s σ H _ I h) fun v s1 ⟨y, H1, I1, r1, q1⟩ => ?_) hs
  exact store_ok I1 hN hi hx r1 (fun s2 I2 => ⟨_, H1, I2, q1⟩) hf
/-- a, b = x, y with plain local names: stored from the right; the pair itself is not tracked (the opening rows as in PyProof/Rows/TupAssign.lean:23) -/
def tPar (i j : Nat) (ta : TA) : TS := fun D σ H => ta σ H fun vs H1 => ∃ v w, vs = [v, w] ∧ D.nx ((σ.set i (some v)).set j (some w)) H1
end

section
variable {X : Cx} {pos : Pos}
/-- the invariant W with its measure -/
def tWhile (c : TT) (tb : TS) : TS := fun D σ H => ∃ W : Nat → St → Hp → Prop, (∃ m, W m σ H) ∧ ∀ m σ H, W m σ H →
  c σ H fun b H1 => if b = true then ∃ N : St → Hp → Prop, (∀ σ' H', N σ' H' → ∃ m', m' < m ∧ W m' σ' H') ∧ tb { D with nx := N, ct := N, bk := D.nx } σ H1 else D.nx σ H1
theorem ps_while {c : Expr} {body : List Stmt} {tc : TT} {tb : TS} (hp : PassesOwn (model X.prog X.w) X.A X.env X.xe) (hc : PT X c tc) (hb : PSs X body tb) : PS X (.While c body [] pos) (tWhile tc tb) := by
  intro pins s σ H D I h
  obtain ⟨W, ⟨m0, w0⟩, turn⟩ := h
  refine wpAny_While (codeAny_whileLoop (fun n s' => ∃ σ' H', Inv X pins σ' H' s' ∧ W n σ' H') ?_ m0 ⟨σ, H, I, w0⟩)
  rintro n s1 ⟨σ1, H1, I1, w1⟩
  refine wpAny_passesOwn hp (thn (hc pins s1 σ1 H1 _ I1 (turn n σ1 H1 w1)) fun b s2 ⟨H2, I2, q2⟩ => ?_)
  cases b with
  | true =>
    obtain ⟨N, hN, q2⟩ := q2
    rw [if_pos rfl]
    refine wpAny_passesOwn hp (thn (hb pins s2 σ1 H2 _ I2 q2) fun f s3 q3 => ?_)
    cases f with
    | next =>
      obtain ⟨σ3, H3, I3, n3⟩ := q3
      obtain ⟨m', hm, w3⟩ := hN σ3 H3 n3
      exact ⟨m', hm, σ3, H3, I3, w3⟩
    | cont =>
      obtain ⟨σ3, H3, I3, n3⟩ := q3
      obtain ⟨m', hm, w3⟩ := hN σ3 H3 n3
      exact ⟨m', hm, σ3, H3, I3, w3⟩
    | brk => exact q3
    | ret v => exact q3
  | false =>
    rw [if_neg Bool.false_ne_true]
    exact wpAny_execs_nil ⟨σ1, H2, I2, q2⟩
end

/-- at turn i: it yields x (the heap may grow), or it stops -/
structure It where
  go : Nat → Hp → Prop
  yld : Nat → Hp → V → Hp → Prop
  stop : Nat → Hp → Prop
/-- the iterator's own objects may turn: they are not the frame's, not pinned, younger than the entry (or a comprehension's own) -/
def FpOk (X : Cx) (pins : List (Addr × Obj)) (H : Hp) (b : Addr) : Prop :=
  H b = none ∧ b ≠ X.env.locals ∧ b ∉ X.fs ∧ (b ∈ X.ex ∨ X.s₀.heap.objs.size ≤ b) ∧ (∀ x c, X.env.cells.lookup x = some c → c ≠ b) ∧ ∀ p ∈ X.pn ++ pins, p.1 ≠ b
theorem Inv.fpOk {X : Cx} {pins : List (Addr × Obj)} {σ : St} {H H' : Hp} {s : Shared} {b : Addr} (I : Inv X pins σ H s) (hb : s.heap.objs.size ≤ b) (hn : H' b = none) : FpOk X pins H' b := by
  refine ⟨hn, Nat.ne_of_gt (Nat.lt_of_lt_of_le I.lt hb), I.nofs hb, .inr (Nat.le_trans I.sz hb), fun x c e z => ?_, fun p hp z => ?_⟩
  · obtain ⟨v, q⟩ := I.cell x c e
    exact absurd (Nat.lt_of_lt_of_le q.lt (by rw [z]; exact hb)) (Nat.lt_irrefl _)
  · exact absurd (Nat.lt_of_lt_of_le (Heap.lt_size (I.pin p hp).1) (by rw [z]; exact hb)) (Nat.lt_irrefl _)
structure Turn (P : Program) (w : World) (K : PySem.W.Frag) (tg : Expr) (J : It) (fp : List Addr) (it : Addr) (tn : Nat → Heap → Prop) : Prop where
  mem : it ∈ fp
  obj : ∀ i h, tn i h → ∀ b ∈ fp, ∃ o, h.get? b = some o ∧ ∀ v, o.data ≠ .cell v
  keep : ∀ i h h', tn i h → (∀ b ∈ fp, ∀ o, h.get? b = some o → h'.get? b = some o) → tn i h'
  item : ∀ (X : Cx), X.prog = P → X.w = w → X.K = K → X.calm = true → ∀ (i : Nat) (pins : List (Addr × Obj)) (s : Shared) (σ : St) (H : Hp) (E : Value → Shared → Prop), Inv X pins σ H s → (∀ b ∈ fp, FpOk X pins H b) → tn i s.heap → J.go i H →
    wpAny (model P w) X.A (pyNext (.ref it)) (fun r s1 => ∃ u, r = some u ∧
      wpAny (model P w) X.A (letOwnedTupleGo tg (.ref it) u) (fun _ s2 => ∃ x H', Inv X pins σ H' s2 ∧ RelV x u ∧ J.yld i H x H' ∧ tn (i + 1) s2.heap ∧ ∀ b ∈ fp, H' b = none) E s1) E s
  done : ∀ (X : Cx), X.prog = P → X.w = w → X.K = K → X.calm = true → ∀ (i : Nat) (pins : List (Addr × Obj)) (s : Shared) (σ : St) (H : Hp) (E : Value → Shared → Prop), Inv X pins σ H s → (∀ b ∈ fp, FpOk X pins H b) → tn i s.heap → J.stop i H →
    wpAny (model P w) X.A (pyNext (.ref it)) (fun r s1 => r = none ∧ Inv X pins σ H s1) E s
  self : ∀ (A : Around) (i : Nat) (s : Shared) (Q : Value → Shared → Prop) (E : Value → Shared → Prop), tn i s.heap → Q (.ref it) s → wpAny (model P w) A (pyIter (.ref it)) Q E s
abbrev TI := St → Hp → (It → Hp → Prop) → Prop
/-- an iterator has come -/
def PIE (X : Cx) (pins : List (Addr × Obj)) (σ : St) (tg : Expr) (R : It → Hp → Prop) (itv : Value) (s2 : Shared) : Prop :=
  ∃ (it : Addr) (fp : List Addr) (tn : Nat → Heap → Prop) (J : It) (H' : Hp), itv = .ref it ∧ Inv X pins σ H' s2 ∧ Turn X.prog X.w X.K tg J fp it tn ∧ tn 0 s2.heap ∧ (∀ b ∈ fp, FpOk X pins H' b) ∧ R J H'
def PI (X : Cx) (tg iter : Expr) (wi : TI) : Prop :=
  ∀ (pins : List (Addr × Obj)) (s : Shared) (σ : St) (H : Hp) (R : It → Hp → Prop), Inv X pins σ H s → wi σ H R →
    wpAny (model X.prog X.w) X.A (eval iter X.env) (fun v s1 => wpAny (model X.prog X.w) X.A (pyIter v) (PIE X pins σ tg R) X.xe s1) X.xe s

/-- the step ahead of the store is nothing for an iterator that keeps no tuple -/
theorem go_of {M : Model} {A : Around} {E : Value → Shared → Prop} {s : Shared} {tg : Expr} {it : Addr} {u : Value} {o : Obj} {n : String} {vs : Array Value} {Q : Unit → Shared → Prop} (ho : s.heap.get? it = some o) (hc : o.cls = .type n) (hd : o.data = .fields vs)
    (hn : ["enumerate", "zip", "dict_itemiterator", "dict_reverseitemiterator", "odict_iterator", "itertools.zip_longest", "itertools.pairwise"].contains n = false) (hQ : Q () s) : wpAny M A (letOwnedTupleGo tg (.ref it) u) Q E s := by
  unfold letOwnedTupleGo
  cases tg <;> first
    | exact wpAny_pure hQ
    | (cases u <;> first
        | exact wpAny_pure hQ
        | (refine wpAny_bind (wpAny_load ho ?_)
           rw [hc, hd]
           show wpAny M A (if (["enumerate", "zip", "dict_itemiterator", "dict_reverseitemiterator", "odict_iterator", "itertools.zip_longest", "itertools.pairwise"].contains n && vs[0]? == some (rawInt _)) = true then _ else _) Q E s
           rw [if_neg (by intro h; rw [hn, Bool.false_and] at h; cases h)]
           exact wpAny_pure hQ))

/-- the list at a, as it stands at each turn (a loop may append to it) -/
def Itl (K : PySem.W.Frag) (a : Addr) : It :=
  ⟨fun i H => ∃ xs x, SqL K H a xs ∧ xs[i]? = some x, fun i H x H' => H' = H ∧ ∀ xs, SqL K H a xs → xs[i]? = some x, fun i H => ∃ xs, SqL K H a xs ∧ xs.length ≤ i⟩
def Itt (K : PySem.W.Frag) (a : Addr) : It :=
  ⟨fun i H => ∃ xs x, SqT K H a xs ∧ xs[i]? = some x, fun i H x H' => H' = H ∧ ∀ xs, SqT K H a xs → xs[i]? = some x, fun i H => ∃ xs, SqT K H a xs ∧ xs.length ≤ i⟩
/-- lo, lo + 1, .. (n of them) -/
def Itr (lo : Int) (n : Nat) : It := ⟨fun i _ => i < n, fun i H x H' => H' = H ∧ x = .int (lo + i), fun i _ => n ≤ i⟩
theorem turn_list {P : Program} {w : World} {K : PySem.W.Frag} {tg : Expr} (a it : Addr) : Turn P w K tg (Itl K a) [it] it (fun i h => h.IsListIter it a i) where
  mem := by simp
  obj := fun i h st b hb => by
    have e : b = it := by simpa using hb
    subst e
    obtain ⟨o, e, c, d⟩ := st
    exact ⟨o, e, fun v z => by rw [d] at z; cases z⟩
  keep := fun i h h' st k => st.at fun o e => k it (by simp) o e
  item := by
    intro X hP hw hK hc i pins s σ H E I hf st hg
    subst hP hw hK
    obtain ⟨xs, x, hq, hx⟩ := hg
    obtain ⟨its, rv, p, hz⟩ := I.list hq
    obtain ⟨u, hu, ru⟩ := rv.get hx
    obtain ⟨f0, f1, f2, f3, f4, f5⟩ := hf it (by simp)
    refine wpAny_pyNext_list_item st p.isList (x := u) (by simpa using hu) fun h' st' sb => ?_
    have I1 : Inv X pins σ H { s with heap := h' } := I.turned (t' := s.toks) (fun b o hb e => (sb.2 b hb).trans e) f0 f1 f3 f4 f5
    obtain ⟨o, e, c, d⟩ := id st'
    exact ⟨u, rfl, go_of (s := { s with heap := h' }) e c d (by decide) ⟨x, H, I1, ru, ⟨rfl, fun ys hy => by rw [I.list_inj hy hq]; exact hx⟩, st', fun b hb => (hf b hb).1⟩⟩
  done := by
    intro X hP hw hK hc i pins s σ H E I hf st hg
    subst hP hw hK
    obtain ⟨xs, hq, hx⟩ := hg
    obtain ⟨its, rv, p, hz⟩ := I.list hq
    obtain ⟨f0, f1, f2, f3, f4, f5⟩ := hf it (by simp)
    have hl := rv.length
    exact wpAny_pyNext_list_end (I.ok.hd hc) st p.isList (by simp; omega) fun h' eb => ⟨rfl, I.turned (t' := s.toks) (fun b o hb e => eb b o hb e) f0 f1 f3 f4 f5⟩
  self := fun _ _ _ _ _ st h => wpAny_pyIter_listiter st h
theorem turn_tuple {P : Program} {w : World} {K : PySem.W.Frag} {tg : Expr} (a it : Addr) : Turn P w K tg (Itt K a) [it] it (fun i h => h.IsTupleIter it a i) where
  mem := by simp
  obj := fun i h st b hb => by
    have e : b = it := by simpa using hb
    subst e
    obtain ⟨o, e, c, d⟩ := st
    exact ⟨o, e, fun v z => by rw [d] at z; cases z⟩
  keep := fun i h h' st k => st.at fun o e => k it (by simp) o e
  item := by
    intro X hP hw hK hc i pins s σ H E I hf st hg
    subst hP hw hK
    obtain ⟨xs, x, hq, hx⟩ := hg
    obtain ⟨its, rv, p, hz⟩ := I.tuple hq
    obtain ⟨u, hu, ru⟩ := rv.get hx
    obtain ⟨f0, f1, f2, f3, f4, f5⟩ := hf it (by simp)
    refine wpAny_pyNext_tuple_item st (show s.heap.IsTuple a its.toArray from p) (x := u) (by simpa using hu) fun h' st' sb => ?_
    have I1 : Inv X pins σ H { s with heap := h' } := I.turned (t' := s.toks) (fun b o hb e => (sb.2 b hb).trans e) f0 f1 f3 f4 f5
    obtain ⟨o, e, c, d⟩ := id st'
    exact ⟨u, rfl, go_of (s := { s with heap := h' }) e c d (by decide) ⟨x, H, I1, ru, ⟨rfl, fun ys hy => by rw [I.tuple_inj hy hq]; exact hx⟩, st', fun b hb => (hf b hb).1⟩⟩
  done := by
    intro X hP hw hK hc i pins s σ H E I hf st hg
    subst hP hw hK
    obtain ⟨xs, hq, hx⟩ := hg
    obtain ⟨its, rv, p, hz⟩ := I.tuple hq
    obtain ⟨f0, f1, f2, f3, f4, f5⟩ := hf it (by simp)
    have hl := rv.length
    exact wpAny_pyNext_tuple_end (I.ok.hd hc) st (show s.heap.IsTuple a its.toArray from p) (by simp; omega) fun h' eb => ⟨rfl, I.turned (t' := s.toks) (fun b o hb e => eb b o hb e) f0 f1 f3 f4 f5⟩
  self := fun _ _ _ _ _ st h => wpAny_pyIter_tupleiter st h
theorem turn_range {P : Program} {w : World} {K : PySem.W.Frag} {tg : Expr} (it : Addr) (lo : Int) (n : Nat) : Turn P w K tg (Itr lo n) [it] it (fun i h => IsRangeIter h it (lo + (i : Nat) * 1) ((n : Int) - (i : Nat)) 1) where
  mem := by simp
  obj := fun i h st b hb => by
    have e : b = it := by simpa using hb
    subst e
    exact ⟨_, st, fun v z => by
      have z' : Data.fields _ = Data.cell v := z
      cases z'⟩
  keep := fun i h h' st k => k it (by simp) _ st
  item := by
    intro X hP hw hK hc i pins s σ H E I hf st hg
    subst hP hw hK
    obtain ⟨f0, f1, f2, f3, f4, f5⟩ := hf it (by simp)
    have W := Walks.range (prog := X.prog) (w := X.w) (I.ok.hd hc) it lo 1 n
    refine W.item i s _ _ hg st fun v h' tk hv st' kk => ?_
    obtain ⟨t, rfl⟩ := hv
    have I1 : Inv X pins σ H { s with heap := h', toks := tk } := I.turned (fun b o hb e => kk b o (by simpa using hb) e) f0 f1 f3 f4 f5
    refine ⟨_, rfl, go_of (s := { s with heap := h', toks := tk }) (n := "range_iterator") st' rfl rfl (by decide) ⟨.int (lo + i), H, I1, ⟨t, ?_⟩, ⟨rfl, rfl⟩, st', fun b hb => (hf b hb).1⟩⟩
    rw [Int.mul_one]
  done := by
    intro X hP hw hK hc i pins s σ H E I hf st hg
    subst hP hw hK
    obtain ⟨f0, f1, f2, f3, f4, f5⟩ := hf it (by simp)
    exact wpAny_pyNext_range_end (I.ok.hd hc) st (by have : n ≤ i := hg; omega) fun h' eb => ⟨rfl, I.turned (t' := s.toks) (fun b o hb e => eb b o hb e) f0 f1 f3 f4 f5⟩
  self := fun _ _ _ _ _ st h => wpAny_pyIter_rangeiter st h
end L2

namespace L2
open PySem PySem.Spec PyProof.Rows
section
variable {X : Cx} {tg : Expr}
def iList (K : PySem.W.Frag) (tl : TE) : TI := fun σ H R => tl σ H fun x H1 => ∃ a, x = .ref a ∧ (∃ xs, SqL K H1 a xs) ∧ R (Itl K a) H1
def iTup (K : PySem.W.Frag) (tl : TE) : TI := fun σ H R => tl σ H fun x H1 => ∃ a, x = .ref a ∧ (∃ xs, SqT K H1 a xs) ∧ R (Itt K a) H1
theorem pi_list {l : Expr} {tl : TE} (hl : PE X l tl) : PI X tg l (iList X.K tl) := by
  intro pins s σ H R I h
  refine thn (hl pins s σ H _ I h) fun v s1 ⟨x, H1, I1, r1, q1⟩ => ?_
  obtain ⟨a, e, ⟨xs, hq⟩, q⟩ := q1
  subst e
  cases r1
  obtain ⟨its, rv, p, hz⟩ := I1.list hq
  refine wpAny_pyIter_list p.isList ?_
  refine ⟨s1.heap.objs.size, [s1.heap.objs.size], _, _, H1, rfl, I1.kept (t' := s1.toks) fun b o e => Heap.get?_push_of_some _ e, turn_list a _, ⟨_, Heap.get?_push_size _ rfl, rfl, rfl⟩, fun b hb => ?_, q⟩
  have e : b = s1.heap.objs.size := by simpa using hb
  subst e
  exact I1.fpOk (Nat.le_refl _) (I1.hok.fresh (Nat.le_refl _))
theorem pi_tup {l : Expr} {tl : TE} (hl : PE X l tl) : PI X tg l (iTup X.K tl) := by
  intro pins s σ H R I h
  refine thn (hl pins s σ H _ I h) fun v s1 ⟨x, H1, I1, r1, q1⟩ => ?_
  obtain ⟨a, e, ⟨xs, hq⟩, q⟩ := q1
  subst e
  cases r1
  obtain ⟨its, rv, p, hz⟩ := I1.tuple hq
  refine wpAny_pyIter_tuple (show s1.heap.IsTuple a its.toArray from p) ?_
  refine ⟨s1.heap.objs.size, [s1.heap.objs.size], _, _, H1, rfl, I1.kept (t' := s1.toks) fun b o e => Heap.get?_push_of_some _ e, turn_tuple a _, ⟨_, Heap.get?_push_size _ rfl, rfl, rfl⟩, fun b hb => ?_, q⟩
  have e : b = s1.heap.objs.size := by simpa using hb
  subst e
  exact I1.fpOk (Nat.le_refl _) (I1.hok.fresh (Nat.le_refl _))
/-- a range object just made, walked -/
theorem range_it {pins : List (Addr × Obj)} {σ : St} {H : Hp} {s : Shared} {R : It → Hp → Prop} {E : Value → Shared → Prop} {lo hi : Int} {t u v : Tok} {tk : Nat} (I : Inv X pins σ H s) (h1 : -(2 ^ 62) ≤ lo) (h2 : lo < 2 ^ 62) (h3 : -(2 ^ 62) ≤ hi) (h4 : hi < 2 ^ 62)
    (q : R (Itr lo (hi - lo).toNat) H) : wpAny (model X.prog X.w) X.A (pyIter (.ref s.heap.objs.size)) (PIE X pins σ tg R) E { s with heap := s.heap.push { cls := .type "range", data := .fields #[.int lo t, .int hi u, .int 1 v] }, toks := tk } := by
  refine wpAny_pyIter_range (IsRange.new ..) (small_one h1 h2 h3 h4) ?_
  have I1 : Inv X pins σ H { s with heap := s.heap.push { cls := .type "range", data := .fields #[.int lo t, .int hi u, .int 1 v] }, toks := tk } := I.kept fun b o e => Heap.get?_push_of_some _ e
  refine ⟨(s.heap.push { cls := .type "range", data := .fields #[.int lo t, .int hi u, .int 1 v] }).objs.size, [(s.heap.push { cls := .type "range", data := .fields #[.int lo t, .int hi u, .int 1 v] }).objs.size], _, _, H, rfl,
    I1.kept (t' := tk) fun b o e => Heap.get?_push_of_some _ e, turn_range _ lo (hi - lo).toNat, ?_, fun b hb => ?_, q⟩
  · have e1 : lo + ((0 : Nat) : Int) * 1 = lo := by simp
    have e2 : (((hi - lo).toNat : Nat) : Int) - ((0 : Nat) : Int) = Builtin.Range.rangeSize lo hi 1 := by rw [rangeSize_one]; split <;> omega
    show IsRangeIter _ _ (lo + ((0 : Nat) : Int) * 1) ((((hi - lo).toNat : Nat) : Int) - ((0 : Nat) : Int)) 1
    rw [e1, e2]
    exact Heap.get?_push_size _ rfl
  · have e : b = (s.heap.push { cls := .type "range", data := .fields #[.int lo t, .int hi u, .int 1 v] }).objs.size := by simpa using hb
    subst e
    exact I1.fpOk (Nat.le_refl _) (I1.hok.fresh (Nat.le_refl _))
def iRng1 (ta : TA) : TI := fun σ H R => ta σ H fun vs H1 => ∃ j : Int, vs = [.int j] ∧ -(2 ^ 62) ≤ j ∧ j < 2 ^ 62 ∧ R (Itr 0 j.toNat) H1
def iRng2 (ta : TA) : TI := fun σ H R => ta σ H fun vs H1 => ∃ i j : Int, vs = [.int i, .int j] ∧ (-(2 ^ 62) ≤ i ∧ i < 2 ^ 62 ∧ -(2 ^ 62) ≤ j ∧ j < 2 ^ 62) ∧ R (Itr i (j - i).toNat) H1
theorem pi_range1 {a : Expr} {ta : TA} {p pos : Pos} (hg : Gl X "range") (hm : X.mg "range" = none) (ha : PA X [a] ta) (hs : starEach [a] X.env = [(false, eval a X.env)] := by rfl) : PI X tg (.Call (.Name "range" p) [a] [] pos) (iRng1 ta) := by
  intro pins s σ H R I h
  refine Call_ (ld_blt I hg hm boot_range (PyProof.Rows.callWith_type1 (thn (ha pos pins s σ H _ I h) fun us s1 ⟨vs, H1, I1, r1, q1⟩ => ?_) hs rfl))
  obtain ⟨j, e, q1, q2, q⟩ := q1
  subst e
  cases r1 with
  | cons r rr =>
    cases rr
    obtain ⟨t, rfl⟩ := r
    exact call_range_1 (range_it I1 (by omega) (by omega) q1 q2 (by simpa using q))
/-- W: the invariant by the turn and a measure; N: what the body is to reach -/
def tFor (wi : TI) (g : TG) (tb : TS) : TS := fun D σ H => wi σ H fun J H1 => ∃ W : Nat → Nat → St → Hp → Prop, (∃ m, W 0 m σ H1) ∧ ∀ i m σ H, W i m σ H →
  (J.stop i H ∧ D.nx σ H) ∨ (J.go i H ∧ ∃ N : St → Hp → Prop, (∀ σ' H', N σ' H' → ∃ m', m' < m ∧ W (i + 1) m' σ' H') ∧ ∀ x H', J.yld i H x H' → g x σ H' fun σ2 H2 => tb { D with nx := N, ct := N, bk := D.nx } σ2 H2)
/-- the records at fp as they stand -/
def pinsAt (fp : List Addr) (h : Heap) : List (Addr × Obj) := fp.filterMap fun b => (h.get? b).map fun o => (b, o)
theorem mem_pinsAt {fp : List Addr} {h : Heap} {b : Addr} {o : Obj} (hb : b ∈ fp) (e : h.get? b = some o) : (b, o) ∈ pinsAt fp h := List.mem_filterMap.mpr ⟨b, hb, by rw [e]; rfl⟩
theorem of_pinsAt {fp : List Addr} {h : Heap} {p : Addr × Obj} (hp : p ∈ pinsAt fp h) : p.1 ∈ fp ∧ h.get? p.1 = some p.2 := by
  obtain ⟨b, hb, e⟩ := List.mem_filterMap.mp hp
  cases q : h.get? b with
  | none => rw [q] at e; cases e
  | some o =>
    rw [q] at e
    have e' : (b, o) = p := Option.some.inj e
    subst e'
    exact ⟨hb, q⟩
theorem Inv.pinned {pins : List (Addr × Obj)} {σ : St} {H : Hp} {s : Shared} {fp : List Addr} (I : Inv X pins σ H s) (hf : ∀ b ∈ fp, FpOk X pins H b) (ho : ∀ b ∈ fp, ∃ o, s.heap.get? b = some o ∧ ∀ v, o.data ≠ .cell v) : Inv X (pins ++ pinsAt fp s.heap) σ H s :=
  I.pins_of fun p hp => (List.mem_append.mp hp).elim (fun z => I.pin p (List.mem_append_right _ z)) fun z => by
    obtain ⟨hb, e⟩ := of_pinsAt z
    obtain ⟨f0, f1, f2, _⟩ := hf p.1 hb
    obtain ⟨o, e', d⟩ := ho p.1 hb
    rw [e] at e'; cases e'
    exact ⟨e, f0, f1, f2, d⟩
theorem Inv.unpinned {pins pl : List (Addr × Obj)} {σ : St} {H : Hp} {s : Shared} (I : Inv X (pins ++ pl) σ H s) : Inv X pins σ H s := I.pins_of fun p hp => I.pin p (List.mem_append_right _ (List.mem_append_left _ hp))
theorem ps_for {iter : Expr} {body : List Stmt} {wi : TI} {g : TG} {tb : TS} {pos : Pos} (hp : PassesOwn (model X.prog X.w) X.A X.env X.xe) (hc : X.calm = true) (hi : PI X tg iter wi) (hg : PG X tg g) (hb : PSs X body tb)
    (hs : ∀ x, foldedSetIterable iter X.env x = pure x := by intro _; rfl) : PS X (.For tg iter body [] pos) (tFor wi g tb) := by
  intro pins s σ H D I h
  refine wpAny_For (thn (hi pins s σ H _ I h) fun v s1 h1 => thn h1 fun itv s2 h2 => ?_) hs
  obtain ⟨it, fp, tn, J, H2, e, I2, T, st2, f2, W, ⟨m0, w0⟩, turn⟩ := h2
  subst e
  -- what stays true of the iterator's objects through the loop
  have stat : ∀ {H' : Hp}, (∀ b ∈ fp, H' b = none) → ∀ b ∈ fp, FpOk X pins H' b := fun hn b hb => ⟨hn b hb, (f2 b hb).2⟩
  refine codeAny_forLoop_any (fun n s' => ∃ i σ' H', Inv X pins σ' H' s' ∧ tn i s'.heap ∧ (∀ b ∈ fp, H' b = none) ∧ W i n σ' H') ?_ m0 ⟨0, σ, H2, I2, st2, fun b hb => (f2 b hb).1, w0⟩
  rintro n s3 ⟨i, σ3, H3, I3, st3, fr3, w3⟩
  rcases turn i n σ3 H3 w3 with ⟨stop, qn⟩ | ⟨go, N, hN, step⟩
  · refine wpAny_passesOwn hp (thn (T.done X rfl rfl rfl hc i pins s3 σ3 H3 X.xe I3 (stat fr3) st3 stop) fun r s4 ⟨hr, I4⟩ => ?_)
    subst hr
    exact wpAny_execs_nil ⟨σ3, H3, I4, qn⟩
  · refine wpAny_passesOwn hp (thn (T.item X rfl rfl rfl hc i pins s3 σ3 H3 X.xe I3 (stat fr3) st3 go) fun r s4 ⟨u, hr, h4⟩ => ?_)
    subst hr
    refine wpAny_passesOwn hp (thn h4 fun _ s5 ⟨x, H5, I5, r5, y5, st5, fr5⟩ => ?_)
    have I5' := I5.pinned (stat fr5) (T.obj _ _ st5)
    refine wpAny_passesOwn hp (thn (hg _ s5 σ3 H5 x u _ I5' r5 (step x H5 y5)) fun _ s6 ⟨σ6, H6, I6, q6⟩ => ?_)
    refine wpAny_passesOwn hp (thn (hb _ s6 σ6 H6 _ I6 q6) fun f s7 q7 => ?_)
    have again : ∀ {σ7 : St} {H7 : Hp}, Inv X (pins ++ pinsAt fp s5.heap) σ7 H7 s7 → N σ7 H7 → ∃ m, m < n ∧ ∃ i σ' H', Inv X pins σ' H' s7 ∧ tn i s7.heap ∧ (∀ b ∈ fp, H' b = none) ∧ W i m σ' H' := fun {σ7 H7} I7 n7 => by
      obtain ⟨m', hm, w7⟩ := hN σ7 H7 n7
      refine ⟨m', hm, i + 1, σ7, H7, I7.unpinned, T.keep _ _ _ st5 fun b hb o e => (I7.pin (b, o) (List.mem_append_right _ (List.mem_append_right _ (mem_pinsAt hb e)))).1, fun b hb => ?_, w7⟩
      obtain ⟨o, e, d⟩ := T.obj _ _ st5 b hb
      exact (I7.pin (b, o) (List.mem_append_right _ (List.mem_append_right _ (mem_pinsAt hb e)))).2.1
    cases f with
    | next => obtain ⟨σ7, H7, I7, n7⟩ := q7; exact again I7 n7
    | cont => obtain ⟨σ7, H7, I7, n7⟩ := q7; exact again I7 n7
    | brk => obtain ⟨σ7, H7, I7, q7⟩ := q7; exact ⟨σ7, H7, I7.unpinned, q7⟩
    | ret v => obtain ⟨x7, σ7, H7, I7, r7, q7⟩ := q7; exact ⟨x7, σ7, H7, I7.unpinned, r7, q7⟩
end

/-- over a list that the body leaves as it is -/
theorem for_list {K : PySem.W.Frag} {a : Addr} {xs : List V} {g : TG} {tb : TS} {D : Ends} {σ : St} {H : Hp} (Pv : Nat → St → Hp → Prop) (h0 : Pv 0 σ H) (hl : ∀ i σ H, i ≤ xs.length → Pv i σ H → SqL K H a xs)
    (hs : ∀ i x σ H, xs[i]? = some x → Pv i σ H → g x σ H fun σ2 H2 => tb { D with nx := Pv (i + 1), ct := Pv (i + 1), bk := D.nx } σ2 H2) (hd : ∀ σ H, Pv xs.length σ H → D.nx σ H) :
    ∃ W : Nat → Nat → St → Hp → Prop, (∃ m, W 0 m σ H) ∧ ∀ i m σ H, W i m σ H →
      ((Itl K a).stop i H ∧ D.nx σ H) ∨ ((Itl K a).go i H ∧ ∃ N : St → Hp → Prop, (∀ σ' H', N σ' H' → ∃ m', m' < m ∧ W (i + 1) m' σ' H') ∧ ∀ x H', (Itl K a).yld i H x H' → g x σ H' fun σ2 H2 => tb { D with nx := N, ct := N, bk := D.nx } σ2 H2) := by
  refine ⟨fun i m σ H => m = xs.length - i ∧ i ≤ xs.length ∧ Pv i σ H, ⟨xs.length, by simp, Nat.zero_le _, h0⟩, ?_⟩
  rintro i m σ H ⟨rfl, hi, p⟩
  have q := hl i σ H hi p
  by_cases hlt : i < xs.length
  · refine .inr ⟨⟨xs, xs[i], q, by simp [hlt]⟩, Pv (i + 1), fun σ' H' p' => ⟨xs.length - (i + 1), by omega, rfl, hlt, p'⟩, fun x H' y => ?_⟩
    obtain ⟨e, y⟩ := y
    subst e
    exact hs i x σ _ (y xs q) p
  · have e : i = xs.length := by omega
    subst e
    exact .inl ⟨⟨xs, q, Nat.le_refl _⟩, hd σ H p⟩
theorem for_tup {K : PySem.W.Frag} {a : Addr} {xs : List V} {g : TG} {tb : TS} {D : Ends} {σ : St} {H : Hp} (Pv : Nat → St → Hp → Prop) (h0 : Pv 0 σ H) (hl : ∀ i σ H, i ≤ xs.length → Pv i σ H → SqT K H a xs)
    (hs : ∀ i x σ H, xs[i]? = some x → Pv i σ H → g x σ H fun σ2 H2 => tb { D with nx := Pv (i + 1), ct := Pv (i + 1), bk := D.nx } σ2 H2) (hd : ∀ σ H, Pv xs.length σ H → D.nx σ H) :
    ∃ W : Nat → Nat → St → Hp → Prop, (∃ m, W 0 m σ H) ∧ ∀ i m σ H, W i m σ H →
      ((Itt K a).stop i H ∧ D.nx σ H) ∨ ((Itt K a).go i H ∧ ∃ N : St → Hp → Prop, (∀ σ' H', N σ' H' → ∃ m', m' < m ∧ W (i + 1) m' σ' H') ∧ ∀ x H', (Itt K a).yld i H x H' → g x σ H' fun σ2 H2 => tb { D with nx := N, ct := N, bk := D.nx } σ2 H2) := by
  refine ⟨fun i m σ H => m = xs.length - i ∧ i ≤ xs.length ∧ Pv i σ H, ⟨xs.length, by simp, Nat.zero_le _, h0⟩, ?_⟩
  rintro i m σ H ⟨rfl, hi, p⟩
  have q := hl i σ H hi p
  by_cases hlt : i < xs.length
  · refine .inr ⟨⟨xs, xs[i], q, by simp [hlt]⟩, Pv (i + 1), fun σ' H' p' => ⟨xs.length - (i + 1), by omega, rfl, hlt, p'⟩, fun x H' y => ?_⟩
    obtain ⟨e, y⟩ := y
    subst e
    exact hs i x σ _ (y xs q) p
  · have e : i = xs.length := by omega
    subst e
    exact .inl ⟨⟨xs, q, Nat.le_refl _⟩, hd σ H p⟩
end L2

namespace L2
open PySem PySem.Spec PyProof.Rows

abbrev R2 := V → V → Hp → VK → Prop
/-- a two-place operation on values: f is binaryOp op, inplaceOp op or compareOp op -/
def OpR (X : Cx) (f : Value → Value → Sem Value) (r : R2) : Prop :=
  ∀ (pins : List (Addr × Obj)) (s : Shared) (σ : St) (H : Hp) (x y : V) (v u : Value) (Q : VK), Inv X pins σ H s → RelV x v → RelV y u → r x y H Q →
    wpAny (model X.prog X.w) X.A (f v u) (EP X pins σ Q) X.xe s
/-- a one-place operation -/
def UnR (X : Cx) (f : Value → Sem Value) (r : V → Hp → VK → Prop) : Prop :=
  ∀ (pins : List (Addr × Obj)) (s : Shared) (σ : St) (H : Hp) (x : V) (v : Value) (Q : VK), Inv X pins σ H s → RelV x v → r x H Q →
    wpAny (model X.prog X.w) X.A (f v) (EP X pins σ Q) X.xe s
/-- a call of a value that is known (a builtin, a type) with values -/
def CallR (X : Cx) (f : Value) (r : List V → Hp → VK → Prop) : Prop :=
  ∀ (pins : List (Addr × Obj)) (s : Shared) (σ : St) (H : Hp) (xs : List V) (us : List Value) (Q : VK), Inv X pins σ H s → Vals xs us → r xs H Q →
    wpAny (model X.prog X.w) X.A (call f us) (EP X pins σ Q) X.xe s
def tOp (r : R2) (ta tb : TE) : TE := fun σ H Q => ta σ H fun x H1 => tb σ H1 fun y H2 => r x y H2 Q
def tUn (r : V → Hp → VK → Prop) (ta : TE) : TE := fun σ H Q => ta σ H fun x H1 => r x H1 Q
/-- ints in, under C, and a value out -/
def rI (C : Int → Int → Prop) (g : Int → Int → V) : R2 := fun x y H Q => ∃ i j, x = .int i ∧ y = .int j ∧ C i j ∧ Q (g i j) H
def rI0 (g : Int → Int → V) : R2 := fun x y H Q => ∃ i j, x = .int i ∧ y = .int j ∧ Q (g i j) H
def rU (g : Int → V) : V → Hp → VK → Prop := fun x H Q => ∃ i, x = .int i ∧ Q (g i) H

section
variable {X : Cx} {a b c : Expr} {ta tb tc : TE} {pos : Pos}

theorem binT (ha : PE X a ta) (hb : PE X b tb) {pins : List (Addr × Obj)} {s : Shared} {σ : St} {H : Hp} {R : V → V → Hp → Prop} (I : Inv X pins σ H s)
    (h : ta σ H fun x H1 => tb σ H1 fun y H2 => R x y H2) {Q : Value → Shared → Prop} {f : Value → Value → Sem Value}
    (hf : ∀ v u s2 x y H2, Inv X pins σ H2 s2 → RelV x v → RelV y u → R x y H2 → wpAny (model X.prog X.w) X.A (f v u) Q X.xe s2) :
    wpAny (model X.prog X.w) X.A (eval a X.env) (fun v s₁ => wpAny (model X.prog X.w) X.A (eval b X.env) (fun u s₂ => wpAny (model X.prog X.w) X.A (f v u) Q X.xe s₂) X.xe s₁) X.xe s := by
  refine thn (ha pins s σ H _ I h) fun v s1 ⟨x, H1, I1, r1, q1⟩ => ?_
  refine thn (hb pins s1 σ H1 _ I1 q1) fun u s2 ⟨y, H2, I2, r2, q2⟩ => ?_
  exact hf v u s2 x y H2 I2 r1 r2 q2

theorem pe_op {op : Operator} {r : R2} (ho : OpR X (binaryOp op) r) (ha : PE X a ta) (hb : PE X b tb) : PE X (.BinOp a op b pos) (tOp r ta tb) := by
  intro pins s σ H Q I h
  exact wpAny_BinOp (binT ha hb I h fun v u s2 x y H2 I2 rx ry q => ho pins s2 σ H2 x y v u Q I2 rx ry q)
theorem pe_un {op : UnaryOp} {r : V → Hp → VK → Prop} (ho : UnR X (unaryOp op) r) (ha : PE X a ta) : PE X (.UnaryOp op a pos) (tUn r ta) := by
  intro pins s σ H Q I h
  exact UnaryOp_ (thn (ha pins s σ H _ I h) fun v s1 ⟨x, H1, I1, r1, q1⟩ => ho pins s1 σ H1 x v Q I1 r1 q1)
theorem opI {f : Value → Value → Sem Value} {C : Int → Int → Prop} {g : Int → Int → Int}
    (rule : ∀ (i j : Int) (t u : Tok) (s : Shared) (Q : Value → Shared → Prop) (E : Value → Shared → Prop), C i j → Q (.int (g i j) s.toks) { s with toks := s.toks + 1 } → wpAny (model X.prog X.w) X.A (f (.int i t) (.int j u)) Q E s) :
    OpR X f (rI C fun i j => .int (g i j)) := by
  intro pins s σ H x y v u Q I rx ry h
  obtain ⟨i, j, rfl, rfl, hc, q⟩ := h
  obtain ⟨t, rfl⟩ := rx
  obtain ⟨t', rfl⟩ := ry
  exact rule i j t t' s _ _ hc ⟨.int (g i j), H, I.tok _, ⟨_, rfl⟩, q⟩
theorem opI0 {f : Value → Value → Sem Value} {g : Int → Int → Int}
    (rule : ∀ (i j : Int) (t u : Tok) (s : Shared) (Q : Value → Shared → Prop) (E : Value → Shared → Prop), Q (.int (g i j) s.toks) { s with toks := s.toks + 1 } → wpAny (model X.prog X.w) X.A (f (.int i t) (.int j u)) Q E s) :
    OpR X f (rI0 fun i j => .int (g i j)) := by
  intro pins s σ H x y v u Q I rx ry h
  obtain ⟨i, j, rfl, rfl, q⟩ := h
  obtain ⟨t, rfl⟩ := rx
  obtain ⟨t', rfl⟩ := ry
  exact rule i j t t' s _ _ ⟨.int (g i j), H, I.tok _, ⟨_, rfl⟩, q⟩
theorem opB0 {f : Value → Value → Sem Value} {g : Int → Int → Bool}
    (rule : ∀ (i j : Int) (t u : Tok) (s : Shared) (Q : Value → Shared → Prop) (E : Value → Shared → Prop), Q (.bool (g i j)) s → wpAny (model X.prog X.w) X.A (f (.int i t) (.int j u)) Q E s) :
    OpR X f (rI0 fun i j => .bl (g i j)) := by
  intro pins s σ H x y v u Q I rx ry h
  obtain ⟨i, j, rfl, rfl, q⟩ := h
  obtain ⟨t, rfl⟩ := rx
  obtain ⟨t', rfl⟩ := ry
  exact rule i j t t' s _ _ ⟨.bl (g i j), H, I, rfl, q⟩

def CPow (i j : Int) : Prop := 0 ≤ j ∧ j ≤ 1000000 ∧ i.natAbs < 2 ^ 64
def CMul (i j : Int) : Prop := (-(2 ^ 64) < i ∧ i < 2 ^ 64) ∨ (-(2 ^ 64) < j ∧ j < 2 ^ 64)
theorem CMul.ok {i j : Int} (h : CMul i j) : IntMulOk i j := by
  rcases h with ⟨h1, h2⟩ | ⟨h1, h2⟩
  · exact .of_left (intBits_le_64 h1 h2)
  · exact .of_right (intBits_le_64 h1 h2)
theorem two_pow_nn (k : Nat) : (0 : Int) ≤ 2 ^ k := by
  rw [two_pow_cast]
  exact Int.natCast_nonneg _

theorem op_add : OpR X (binaryOp .Add) (rI0 fun i j => .int (i + j)) := opI0 fun _ _ _ _ _ _ _ q => add_int q
theorem op_sub : OpR X (binaryOp .Sub) (rI0 fun i j => .int (i - j)) := opI0 fun _ _ _ _ _ _ _ q => sub_int q
/-- % by a positive divisor of any size -/
theorem op_mod : OpR X (binaryOp .Mod) (rI (fun _ j => 0 < j) fun i j => .int (i % j)) := opI fun i j _ _ _ _ _ hc q => by
  have h1 : (0 : Int) < j := hc
  exact mod_int' (by omega) (by rw [Int.fmod_eq_emod_of_nonneg i (by omega)]; exact q)
theorem op_pow : OpR X (binaryOp .Pow) (rI CPow fun i j => .int (i ^ j.toNat)) := opI fun _ _ _ _ _ _ _ hc q => pow_int_small hc.1 hc.2.1 hc.2.2 q
theorem op_shr : OpR X (binaryOp .RShift) (rI (fun _ j => 0 ≤ j) fun i j => .int (i / 2 ^ j.toNat)) := opI fun i j _ _ _ _ _ hc q =>
  rshift_int hc (by rw [Int.fdiv_eq_ediv_of_nonneg i (two_pow_nn _)]; exact q)
theorem op_and : OpR X (binaryOp .BitAnd) (rI0 fun i j => .int (Builtin.bitAnd i j)) := opI0 fun _ _ _ _ _ _ _ q => and_int q
theorem unI {f : Value → Sem Value} {g : Int → Int}
    (rule : ∀ (i : Int) (t : Tok) (s : Shared) (Q : Value → Shared → Prop) (E : Value → Shared → Prop), Q (.int (g i) s.toks) { s with toks := s.toks + 1 } → wpAny (model X.prog X.w) X.A (f (.int i t)) Q E s) :
    UnR X f (rU fun i => .int (g i)) := by
  intro pins s σ H x v Q I rx h
  obtain ⟨i, rfl, q⟩ := h
  obtain ⟨t, rfl⟩ := rx
  exact rule i t s _ _ ⟨.int (g i), H, I.tok _, ⟨_, rfl⟩, q⟩
theorem un_neg : UnR X (unaryOp .USub) (rU fun i => .int (-i)) := unI fun _ _ _ _ _ q => neg_int q
end

/-- the scalars that == tells apart as data does -/
def scal : V → V → Bool
  | .non, .non => true | .non, .int _ => true | .int _, .non => true | .non, .bl _ => true | .bl _, .non => true | .non, .str _ => true | .str _, .non => true
  | .int _, .int _ => true | .bl _, .bl _ => true | .str _, .str _ => true | .byt _, .byt _ => true
  | .int _, .str _ => true | .str _, .int _ => true | .bl _, .str _ => true | .str _, .bl _ => true
  | _, _ => false
def rEq : R2 := fun x y H Q => scal x y = true ∧ Q (.bl (decide (x = y))) H
def rNe : R2 := fun x y H Q => scal x y = true ∧ Q (.bl (!decide (x = y))) H

theorem dec_int {i j : Int} : decide (V.int i = V.int j) = (i == j) := by
  rw [Bool.eq_iff_iff]
  simp
theorem dec_bl {i j : Bool} : decide (V.bl i = V.bl j) = (i == j) := by
  rw [Bool.eq_iff_iff]
  simp
theorem dec_str {i j : Str} : decide (V.str i = V.str j) = (i == j) := by
  rw [Bool.eq_iff_iff]
  simp
theorem dec_byt {i j : Array UInt8} : decide (V.byt i = V.byt j) = (i.toList == j.toList) := by
  rw [Bool.eq_iff_iff]
  cases i
  cases j
  simp

section
variable {X : Cx} {a b c : Expr} {ta tb tc : TE} {pos : Pos}
theorem fin_bl {pins : List (Addr × Obj)} {σ : St} {H : Hp} {s : Shared} {Q : VK} {k k' : Bool} (I : Inv X pins σ H s) (q : Q (.bl k) H) (e : k = k') : EP X pins σ Q (.bool k') s := by
  subst e
  exact ⟨.bl k, H, I, rfl, q⟩
theorem op_eq : OpR X (compareOp .Eq) rEq := by
  intro pins s σ H x y v u Q I rx ry h
  obtain ⟨hs, q⟩ := h
  cases x with
  | non =>
    cases rx
    cases y with
    | non => cases ry; exact PySem.EqNone.eq_none_none (fin_bl I q (by simp))
    | bl j => cases ry; exact PySem.EqNone.eq_none_bool (fin_bl I q (by simp))
    | int j => obtain ⟨t', rfl⟩ := ry; exact PySem.EqNone.eq_none_int (fin_bl I q (by simp))
    | str j => obtain ⟨t', rfl⟩ := ry; exact PySem.EqNone.eq_none_str (fin_bl I q (by simp))
    | _ => exact absurd (show false = true from hs) Bool.false_ne_true
  | bl i =>
    cases rx
    cases y with
    | non => cases ry; exact PySem.EqNone.eq_bool_none (fin_bl I q (by simp))
    | bl j => cases ry; exact eq_bool (fin_bl I q dec_bl)
    | str j => obtain ⟨t', rfl⟩ := ry; exact PySem.EqMixed.eq_bool_str (fin_bl I q (by simp))
    | _ => exact absurd (show false = true from hs) Bool.false_ne_true
  | int i =>
    obtain ⟨t, rfl⟩ := rx
    cases y with
    | non => cases ry; exact PySem.EqNone.eq_int_none (fin_bl I q (by simp))
    | int j => obtain ⟨t', rfl⟩ := ry; exact eq_int (fin_bl I q dec_int)
    | str j => obtain ⟨t', rfl⟩ := ry; exact PySem.EqMixed.eq_int_str (fin_bl I q (by simp))
    | _ => exact absurd (show false = true from hs) Bool.false_ne_true
  | str i =>
    obtain ⟨t, rfl⟩ := rx
    cases y with
    | non => cases ry; exact PySem.EqNone.eq_str_none (fin_bl I q (by simp))
    | bl j => cases ry; exact PySem.EqMixed.eq_str_bool (fin_bl I q (by simp))
    | int j => obtain ⟨t', rfl⟩ := ry; exact PySem.EqMixed.eq_str_int (fin_bl I q (by simp))
    | str j => obtain ⟨t', rfl⟩ := ry; exact eq_str (fin_bl I q dec_str)
    | _ => exact absurd (show false = true from hs) Bool.false_ne_true
  | byt i =>
    obtain ⟨t, rfl⟩ := rx
    cases y with
    | byt j => obtain ⟨t', rfl⟩ := ry; exact PySem.W.eq_bytes (fin_bl I q dec_byt)
    | _ => exact absurd (show false = true from hs) Bool.false_ne_true
  | _ => cases y <;> exact absurd (show false = true from hs) Bool.false_ne_true
theorem op_ne : OpR X (compareOp .NotEq) rNe := by
  intro pins s σ H x y v u Q I rx ry h
  obtain ⟨hs, q⟩ := h
  cases x with
  | non =>
    cases rx
    cases y with
    | non => cases ry; exact PySem.EqNone.ne_none_none (fin_bl I q (by simp))
    | bl j => cases ry; exact PySem.EqNone.ne_none_bool (fin_bl I q (by simp))
    | int j => obtain ⟨t', rfl⟩ := ry; exact PySem.EqNone.ne_none_int (fin_bl I q (by simp))
    | str j => obtain ⟨t', rfl⟩ := ry; exact PySem.EqNone.ne_none_str (fin_bl I q (by simp))
    | _ => exact absurd (show false = true from hs) Bool.false_ne_true
  | bl i =>
    cases rx
    cases y with
    | non => cases ry; exact PySem.EqNone.ne_bool_none (fin_bl I q (by simp))
    | bl j => cases ry; exact ne_bool (fin_bl I q (congrArg not dec_bl))
    | str j => obtain ⟨t', rfl⟩ := ry; exact PySem.EqMixed.ne_bool_str (fin_bl I q (by simp))
    | _ => exact absurd (show false = true from hs) Bool.false_ne_true
  | int i =>
    obtain ⟨t, rfl⟩ := rx
    cases y with
    | non => cases ry; exact PySem.EqNone.ne_int_none (fin_bl I q (by simp))
    | int j => obtain ⟨t', rfl⟩ := ry; exact ne_int (fin_bl I q (congrArg not dec_int))
    | str j => obtain ⟨t', rfl⟩ := ry; exact PySem.EqMixed.ne_int_str (fin_bl I q (by simp))
    | _ => exact absurd (show false = true from hs) Bool.false_ne_true
  | str i =>
    obtain ⟨t, rfl⟩ := rx
    cases y with
    | non => cases ry; exact PySem.EqNone.ne_str_none (fin_bl I q (by simp))
    | bl j => cases ry; exact PySem.EqMixed.ne_str_bool (fin_bl I q (by simp))
    | int j => obtain ⟨t', rfl⟩ := ry; exact PySem.EqMixed.ne_str_int (fin_bl I q (by simp))
    | str j => obtain ⟨t', rfl⟩ := ry; exact ne_str (fin_bl I q (congrArg not dec_str))
    | _ => exact absurd (show false = true from hs) Bool.false_ne_true
  | byt i =>
    obtain ⟨t, rfl⟩ := rx
    cases y with
    | byt j => obtain ⟨t', rfl⟩ := ry; exact PySem.W.ne_bytes (fin_bl I q (congrArg not dec_byt))
    | _ => exact absurd (show false = true from hs) Bool.false_ne_true
  | _ => cases y <;> exact absurd (show false = true from hs) Bool.false_ne_true

theorem op_lt : OpR X (compareOp .Lt) (rI0 fun i j => .bl (decide (i < j))) := opB0 fun _ _ _ _ _ _ _ q => lt_int q
theorem op_le : OpR X (compareOp .LtE) (rI0 fun i j => .bl (decide (i ≤ j))) := opB0 fun _ _ _ _ _ _ _ q => le_int q
theorem op_gt : OpR X (compareOp .Gt) (rI0 fun i j => .bl (decide (j < i))) := opB0 fun _ _ _ _ _ _ _ q => gt_int q
theorem op_ge : OpR X (compareOp .GtE) (rI0 fun i j => .bl (decide (j ≤ i))) := opB0 fun _ _ _ _ _ _ _ q => ge_int q
/-- the one string within the other -/
theorem op_in_str : OpR X (compareOp .In) (fun x y H Q => ∃ i j, x = .str i ∧ y = .str j ∧ Q (.bl (!(Builtin.Str.occurrences j i 0 j.length 1).isEmpty)) H) := by
  intro pins s σ H x y v u Q I rx ry h
  obtain ⟨i, j, rfl, rfl, q⟩ := h
  obtain ⟨t, rfl⟩ := rx
  obtain ⟨t', rfl⟩ := ry
  exact in_str (fin_bl I q rfl)

/-- is None, is not None: the right side a value none -/
theorem op_isN : OpR X (compareOp .Is) (fun x y H Q => y = .non ∧ Q (.bl (decide (x = .non))) H) := by
  intro pins s σ H x y v u Q I rx ry h
  obtain ⟨rfl, q⟩ := h
  cases ry
  refine is_none_gen (fin_bl I q ?_)
  cases x <;> first
    | (cases rx; rfl)
    | (obtain ⟨t, rfl⟩ := rx; rfl)
/-- two rules for one operation: by cases -/
theorem OpR.or {f : Value → Value → Sem Value} {r r' : R2} (h : OpR X f r) (h' : OpR X f r') : OpR X f (fun x y H Q => r x y H Q ∨ r' x y H Q) := by
  intro pins s σ H x y v u Q I rx ry q
  rcases q with q | q
  · exact h pins s σ H x y v u Q I rx ry q
  · exact h' pins s σ H x y v u Q I rx ry q

theorem nomark (b : Expr) {op : CmpOp} (h : op ≠ .In := by decide) (h2 : op ≠ .NotIn := by decide) : behindInMarks op b = false := by
  have e1 : (op == CmpOp.In) = false := by cases op <;> first | rfl | exact absurd rfl h
  have e2 : (op == CmpOp.NotIn) = false := by cases op <;> first | rfl | exact absurd rfl h2
  cases b <;> simp [behindInMarks, e1, e2]
/-- a comparison as a value; hm: nomark b, or (for in, not in) by with_unfolding_all rfl -/
theorem pe_cmpR {op : CmpOp} {r : R2} (ho : OpR X (compareOp op) r) (ha : PE X a ta) (hb : PE X b tb) (hm : behindInMarks op b = false) : PE X (.Compare a [op] [b] pos) (tOp r ta tb) := by
  intro pins s σ H Q I h
  exact wpAny_Compare1 (binT ha hb I h fun v u s2 x y H2 I2 rx ry q => ho pins s2 σ H2 x y v u Q I2 rx ry q) hm
/-- a reading of a value as a test -/
def tTest (t : TE) : TT := fun σ H Q => t σ H fun x H' => ∃ k, x = .bl k ∧ Q k H'
theorem pt_cmpR {op : CmpOp} {r : R2} (ho : OpR X (compareOp op) r) (ha : PE X a ta) (hb : PE X b tb) (hm : behindInMarks op b = false) : PT X (.Compare a [op] [b] pos) (tTest (tOp r ta tb)) := by
  intro pins s σ H Q I h
  refine wpAny_isTrue_Compare1 (thn (ha pins s σ H _ I h) fun v s1 ⟨x, H1, I1, r1, q1⟩ => thn (hb pins s1 σ H1 _ I1 q1) fun u s2 ⟨y, H2, I2, r2, q2⟩ =>
    thn (ho pins s2 σ H2 x y v u _ I2 r1 r2 q2) fun c s3 ⟨z, H3, I3, r3, k, e, q3⟩ => ?_) hm
  subst e
  cases r3
  exact wpAny_truthy_bool ⟨H3, I3, q3⟩
/-- a op1 b op2 c -/
def tChain (r r' : R2) (ta tb tc : TE) : TE := fun σ H Q => ta σ H fun x H1 => tb σ H1 fun y H2 => r x y H2 fun z H3 => ∃ k, z = .bl k ∧
  (if k = true then tc σ H3 fun w' H4 => r' y w' H4 Q else Q (.bl false) H3)
theorem pe_chain {op op' : CmpOp} {r r' : R2} (ho : OpR X (compareOp op) r) (ho' : OpR X (compareOp op') r') (ha : PE X a ta) (hb : PE X b tb) (hc : PE X c tc)
    (hm : lastMarks [op, op'] [b, c] = false := by with_unfolding_all rfl) : PE X (.Compare a [op, op'] [b, c] pos) (tChain r r' ta tb tc) := by
  intro pins s σ H Q I h
  refine Compare_chain (thn (ha pins s σ H _ I h) fun v s1 ⟨x, H1, I1, r1, q1⟩ => chain_link (thn (hb pins s1 σ H1 _ I1 q1) fun u s2 ⟨y, H2, I2, r2, q2⟩ =>
    thn (ho pins s2 σ H2 x y v u _ I2 r1 r2 q2) fun d s3 ⟨z, H3, I3, r3, k, e, q3⟩ => ?_)) hm
  subst e
  cases r3
  refine wpAny_truthy_bool ?_
  cases k with
  | false => exact ite_ff ⟨.bl false, H3, I3, rfl, q3⟩
  | true => exact ite_tt (chain_last (thn (hc pins s3 σ H3 _ I3 q3) fun w' s4 ⟨z', H4, I4, r4, q4⟩ => ho' pins s4 σ H4 y z' u w' Q I4 r2 r4 q4))
theorem line63 : (sizeLine : Nat) < 2 ^ 63 := by rw [sizeLine_eq]; decide
theorem op_add_str : OpR X (binaryOp .Add) (fun x y H Q => ∃ i j, x = .str i ∧ y = .str j ∧ i.length + j.length ≤ sizeLine ∧ Q (.str (i ++ j)) H) := by
  intro pins s σ H x y v u Q I rx ry h
  obtain ⟨i, j, rfl, rfl, hz, q⟩ := h
  obtain ⟨t, rfl⟩ := rx
  obtain ⟨t', rfl⟩ := ry
  exact add_str (fun t' tk => ⟨.str (i ++ j), H, I.tok _, ⟨_, rfl⟩, q⟩) hz
theorem vals1 {x : V} {us : List Value} (r : Vals [x] us) : ∃ u, us = [u] ∧ RelV x u := by
  cases r with
  | cons r1 r2 => cases r2; exact ⟨_, rfl, r1⟩
theorem vals2 {x y : V} {us : List Value} (r : Vals [x, y] us) : ∃ u w', us = [u, w'] ∧ RelV x u ∧ RelV y w' := by
  cases r with
  | cons r1 r2 =>
    cases r2 with
    | cons r3 r4 => cases r4; exact ⟨_, _, rfl, r1, r3⟩
theorem call_max2 (hc : X.calm = true) : CallR X (.builtin "max") (fun xs H Q => ∃ i j, xs = [.int i, .int j] ∧ Q (.int (if j > i then j else i)) H) := by
  intro pins s σ H xs us Q I r h
  obtain ⟨i, j, rfl, q⟩ := h
  obtain ⟨u, w', rfl, ⟨t, rfl⟩, ⟨t', rfl⟩⟩ := vals2 r
  refine max_two_ints (I.ok.hd hc) fun h' tk k => ⟨_, H, I.kept k, ?_, q⟩
  by_cases hj : j > i
  · rw [if_pos hj, if_pos hj]; exact ⟨_, rfl⟩
  · rw [if_neg hj, if_neg hj]; exact ⟨_, rfl⟩
theorem call_min2 (hc : X.calm = true) : CallR X (.builtin "min") (fun xs H Q => ∃ i j, xs = [.int i, .int j] ∧ Q (.int (if j < i then j else i)) H) := by
  intro pins s σ H xs us Q I r h
  obtain ⟨i, j, rfl, q⟩ := h
  obtain ⟨u, w', rfl, ⟨t, rfl⟩, ⟨t', rfl⟩⟩ := vals2 r
  refine min_two_ints (I.ok.hd hc) fun h' tk k => ⟨_, H, I.kept k, ?_, q⟩
  by_cases hj : j < i
  · rw [if_pos hj, if_pos hj]; exact ⟨_, rfl⟩
  · rw [if_neg hj, if_neg hj]; exact ⟨_, rfl⟩
theorem call_str_int : CallR X (.type "str") (fun xs H Q => ∃ i, xs = [.int i] ∧ i.natAbs.log2 < 1920 ∧ Q (.str (toString i)) H) := by
  intro pins s σ H xs us Q I r h
  obtain ⟨i, rfl, hz, q⟩ := h
  obtain ⟨u, rfl, t, rfl⟩ := vals1 r
  exact PySem.P.str_of_int hz ⟨.str _, H, I.tok _, ⟨_, rfl⟩, q⟩
end
end L2

namespace L2
open PySem PySem.Spec PyProof.Rows

structure ObjM (h : Heap) (x dx C : Addr) (mA : Str → Option Value) : Prop where
  obj : h.get? x = some (PySem.W.instObj C dx)
  ns : h.Ns1 dx mA
  ne : dx ≠ x

theorem lookIn_ns {h : Heap} {dx : Addr} {mA : Str → Option Value} (n : h.Ns1 dx mA) : ∃ od, h.get? dx = some od ∧ ∀ name, PySem.W.lookIn name od = some (mA name) := by
  obtain ⟨o, es, ep, ho, hd, hk, _, hm⟩ := n
  refine ⟨o, ho, fun name => ?_⟩
  have e := hm name
  unfold nsFind findBy at e
  rw [← Array.find?_toList] at e
  unfold PySem.W.lookIn
  rw [hd]
  dsimp only
  split
  · rename_i y q
    rw [q] at e
    exact congrArg some e
  · rename_i q
    rw [q] at e
    have a : es.toList.any (·.refKey) = false := by
      rw [List.any_eq_false]
      intro y hy
      obtain ⟨z, t, hkey⟩ := hk y (Array.mem_toList_iff.mp hy)
      simp [DictEntry.refKey, hkey]
    have a' : ¬ es.toList.any (·.refKey) = true := by rw [a]; exact Bool.false_ne_true
    rw [if_neg a']
    exact congrArg some e

theorem ObjM.look {h : Heap} {x dx C : Addr} {mA : Str → Option Value} (I : ObjM h x dx C mA) : ∃ od, PySem.W.InstAt h x (PySem.W.instObj C dx) C (some od) ∧ ∀ name, PySem.W.lookIn name od = some (mA name) :=
  let ⟨od, ho, hl⟩ := lookIn_ns I.ns
  ⟨od, ⟨I.obj, rfl, rfl, ho⟩, hl⟩

section
variable {prog : Program} {w : World} {A : Around} {E : Value → Shared → Prop} {s : Shared} {K : PySem.W.Frag} {x dx C f : Addr} {mA : Str → Option Value} {name : Str} {v : Value}

theorem get_map {expr : Bool} {Q : Value → Shared → Prop} (X : K.In s.heap) (I : ObjM s.heap x dx C mA) (hg : PySem.W.plainGet K C name = true) (hh : PySem.W.hasDictIn K C = true)
    (ha : PySem.W.findIn K (.ref C) name = some none) (hv : mA name = some v) (hv' : PySem.W.handedIn v = true) (h : Q v { s with toks := s.toks + 1 }) :
    wpAny (model prog w) A (getAttr (.ref x) name expr) Q E s := by
  obtain ⟨od, J, hl⟩ := I.look
  exact PySem.W.get_value X J (PySem.W.plainGet_of hg).1 (PySem.W.findObj_own hh ha rfl (by rw [hl, hv])) hv' h

theorem get_meth {pl : Sem Bool} {Q : Value × List Value → Shared → Prop} (X : K.In s.heap) (I : ObjM s.heap x dx C mA) (hg : PySem.W.plainGet K C name = true)
    (hf : PySem.W.findIn K (.ref C) name = some (some (.ref f))) (ht : PySem.W.isFn K (.ref f) = true) (hv : mA name = none) (h : Q (.ref f, [.ref x]) s) :
    wpAny (model prog w) A (getMethod (.ref x) name pl) Q E s := by
  obtain ⟨od, J, hl⟩ := I.look
  exact PySem.W.method_fn X J (PySem.W.plainGet_of hg).1 (PySem.W.plainGet_of hg).2 hf (beq_iff_eq.mp ht) (by show (PySem.W.lookIn name od).map (·.isSome) = some false; rw [hl, hv]; rfl) h

theorem set_map {ns : List Str} {Q : Unit → Shared → Prop} (X : K.In s.heap) (I : ObjM s.heap x dx C mA)
    (hs : PySem.W.findIn K (.ref C) "__setattr__" = some (some (.builtin "object.__setattr__"))) (hp : PySem.W.plainOver K C = true) (ht : PySem.W.takerIn K C name = some none) (hh : PySem.W.hasDictIn K C = true)
    (hw : PySem.Within mA ns) (hsz : ns.length ≤ sizeLine)
    (h : ∀ h', ObjM h' x dx C (fun y => if y = name then some v else mA y) → Heap.SameBut dx s.heap h' → Q () { s with heap := h', toks := s.toks + 2 }) :
    wpAny (model prog w) A (setAttr (.ref x) name v) Q E s := by
  obtain ⟨od, J, hl⟩ := I.look
  refine PySem.W.set_plain X J hs (PySem.W.osa_open (s := { s with toks := s.toks + 1 }) (r := none) X J hp ht fun b => ?_)
  obtain ⟨cd, hc, hd'⟩ := PySem.W.any_some hh
  have hx : s.heap.get? x = some ⟨.ref C, some dx, .plain, #[]⟩ := I.obj
  refine wpAny_bind (wpAny_pure (wpAny_bind (wpAny_bind (wpAny_loadPart hx (wpAny_bind (PySem.W.Looks.here (s := { s with toks := s.toks + 1 }) (PySem.W.looks_clsIn X hc) ?_))))))
  rw [hd']
  refine wpAny_pure (a := some dx) (wpAny_bind (wpAny_pure (wpAny_bind ?_)))
  refine wpAny_nsSet1 (s := { s with toks := s.toks + 1 }) I.ns fun h' hn2 hs2 => ?_
  obtain ⟨oD, esD, epD, hoD, hdD, hcD⟩ := hn2.count (PySem.Within.cons name v hw)
  refine wpAny_bind (wpAny_lookBehind hoD (by rw [hdD]; exact pastItsLine_dict (Nat.le_trans hcD (by rw [List.length_cons]; omega))) ?_)
  exact wpAny_pure (h _ ⟨(hs2.2 _ (Ne.symm I.ne)).trans I.obj, hn2, I.ne⟩ hs2)

/-- C(..): the dict at the heap's end, the instance behind it; then its __init__ -/
theorem make_map {R : Result → Shared → Prop} {vs : List Value} {kw : List (Str × Value)} (X : K.In s.heap) (hm : PySem.W.makesIn K C = true)
    (hi : PySem.W.findIn K (.ref C) "__init__" = some (some (.ref f))) (hf : PySem.W.typeIn K (.ref f) = some (.type "function"))
    (h : codeAny (model prog w) (A.under (.builtin "type.__call__" ⟨.ref C :: vs, kw⟩)) (.call (.ref f) ⟨.ref (s.heap.objs.size + 1) :: vs, kw⟩) (PySem.W.InitBack (s.heap.objs.size + 1) R)
      { s with heap := (s.heap.push PySem.W.emptyDict).push (PySem.W.instObj C s.heap.objs.size) }) :
    codeAny (model prog w) A (.call (.ref C) ⟨vs, kw⟩) R s := by
  obtain ⟨hh, g, d, t, os⟩ := s
  exact PySem.W.make_core (PySem.W.makes_of X hm) (PySem.W.looks_findIn X hi) (fun self => PySem.W.bind_fn X self hf) (.inl rfl) h
end

def putF (f : Str) (v : V) : List (Str × V) → List (Str × V)
  | [] => [(f, v)]
  | (g, x) :: r => if g = f then (g, v) :: r else (g, x) :: putF f v r
theorem lookup_putF (f g : Str) (v : V) : ∀ fs : List (Str × V), (putF f v fs).lookup g = if g = f then some v else fs.lookup g
  | [] => by
    show List.lookup g [(f, v)] = _
    by_cases h : g = f
    · have hb : (g == f) = true := beq_iff_eq.mpr h
      simp only [List.lookup, hb, if_pos h]
    · have hb : (g == f) = false := beq_eq_false_iff_ne.mpr h
      simp only [List.lookup, hb, if_neg h]
  | (k, x) :: r => by
    have ih := lookup_putF f g v r
    rw [show putF f v ((k, x) :: r) = (if k = f then (k, v) :: r else (k, x) :: putF f v r) from rfl]
    by_cases hk : k = f
    · rw [if_pos hk]
      by_cases h : g = k
      · have hb : (g == k) = true := beq_iff_eq.mpr h
        simp only [List.lookup, hb, if_pos (h.trans hk)]
      · have hb : (g == k) = false := beq_eq_false_iff_ne.mpr h
        simp only [List.lookup, hb, if_neg (fun e : g = f => h (e.trans hk.symm))]
    · rw [if_neg hk]
      by_cases h : g = k
      · have hb : (g == k) = true := beq_iff_eq.mpr h
        simp only [List.lookup, hb, if_neg (fun e : g = f => hk (h.symm.trans e))]
      · have hb : (g == k) = false := beq_eq_false_iff_ne.mpr h
        simp only [List.lookup, hb]
        exact ih
theorem keys_putF (f : Str) (v : V) : ∀ fs : List (Str × V), f ∈ (putF f v fs).map (·.1) ∧ ∀ g, g ∈ fs.map (·.1) → g ∈ (putF f v fs).map (·.1)
  | [] => ⟨by simp [putF], fun g h => by simp at h⟩
  | (k, x) :: r => by
    obtain ⟨i1, i2⟩ := keys_putF f v r
    rw [show putF f v ((k, x) :: r) = (if k = f then (k, v) :: r else (k, x) :: putF f v r) from rfl]
    by_cases hk : k = f
    · rw [if_pos hk]
      subst hk
      exact ⟨by simp, fun g h => by simpa using h⟩
    · rw [if_neg hk]
      refine ⟨?_, fun g h => ?_⟩
      · rw [List.map_cons]
        exact List.mem_cons_of_mem _ i1
      · rw [List.map_cons] at h ⊢
        rcases List.mem_cons.mp h with e | e
        · exact List.mem_cons.mpr (.inl e)
        · exact List.mem_cons_of_mem _ (i2 g e)
theorem length_putF (f : Str) (v : V) : ∀ fs : List (Str × V), (putF f v fs).length ≤ fs.length + 1
  | [] => by simp [putF]
  | (k, x) :: r => by
    have ih := length_putF f v r
    rw [show putF f v ((k, x) :: r) = (if k = f then (k, v) :: r else (k, x) :: putF f v r) from rfl]
    by_cases hk : k = f
    · rw [if_pos hk, List.length_cons, List.length_cons]; omega
    · rw [if_neg hk, List.length_cons, List.length_cons]; omega

theorem RelO.some_of {v : V} {o : Option Value} (r : RelO (some v) o) : ∃ u, o = some u ∧ RelV v u := by
  cases o with
  | none => exact (show False from r).elim
  | some u => exact ⟨u, rfl, r⟩
theorem RelO.none_of {o : Option Value} (r : RelO none o) : o = none := by
  cases o with
  | none => rfl
  | some u => exact (show False from r).elim
theorem handed_of {v : V} {u : Value} (r : RelV v u) : PySem.W.handedIn u = true := by
  cases v with
  | non => cases (show u = Value.none from r); rfl
  | bl b => cases (show u = Value.bool b from r); rfl
  | int i => obtain ⟨t, e⟩ := (show ∃ t, u = Value.int i t from r); cases e; rfl
  | str x => obtain ⟨t, e⟩ := (show ∃ t, u = Value.str x t from r); cases e; rfl
  | byt b => obtain ⟨t, e⟩ := (show ∃ t, u = Value.bytes b t from r); cases e; rfl
  | flt b => obtain ⟨t, e⟩ := (show ∃ t, u = Value.float b t from r); cases e; rfl
  | ref a => cases (show u = Value.ref a from r); rfl
  | ty n => cases (show u = Value.type n from r); rfl

section
variable {P : Program} {w : World} {H H' : Hp} {h h' : Heap} {a C dx : Addr} {fs fs' : List (Str × V)}
theorem ins_get (hok : HOk P w H h) (e : H a = some (.ins C dx fs)) : ∃ mA, ObjM h a dx C mA ∧ (∀ f, RelO (fs.lookup f) (mA f)) ∧ PySem.Within mA (fs.map (·.1)) ∧ fs.length ≤ 1000 ∧ H dx = some (.own a) := by
  obtain ⟨d, z, ne, ob, mA, n, r, q⟩ := (show ObjOk P w H h a (.ins C dx fs) from hok a _ e)
  exact ⟨mA, ⟨ob, n, ne⟩, r, q, z, d⟩
end

structure Cls (K : PySem.W.Frag) (C : Addr) : Prop where
  pg : PySem.W.plainGet K C Str.empty = true
  hd : PySem.W.hasDictIn K C = true
  po : PySem.W.plainOver K C = true
  sa : PySem.W.findIn K (.ref C) "__setattr__" = some (some (.builtin "object.__setattr__"))
theorem Cls.get {K : PySem.W.Frag} {C : Addr} (c : Cls K C) (f : Str) : PySem.W.plainGet K C f = true := c.pg
/-- no class of it has the name -/
def NoAttr (K : PySem.W.Frag) (C : Addr) (f : Str) : Prop := PySem.W.findIn K (.ref C) f = some none
theorem NoAttr.taker {K : PySem.W.Frag} {C : Addr} {f : Str} (n : NoAttr K C f) : PySem.W.takerIn K C f = some none := by
  unfold PySem.W.takerIn
  rw [show PySem.W.findIn K (.ref C) f = some none from n]
  rfl
/-- a method: a plain def of the class or of one above it -/
structure Meth (K : PySem.W.Frag) (C : Addr) (m : Str) (f : Addr) : Prop where
  at_ : PySem.W.findIn K (.ref C) m = some (some (.ref f))
  fn : PySem.W.isFn K (.ref f) = true
  kp : PySem.W.keepIn K (.ref f) = true

section
variable {X : Cx} {pins : List (Addr × Obj)} {σ : St} {H : Hp} {s : Shared} {a C dx : Addr} {fs : List (Str × V)} {f : Str} {v : V} {A : Around} {E : Value → Shared → Prop}

theorem getattr_ok {b : Bool} {Q : Value → Shared → Prop} (I : Inv X pins σ H s) (e : H a = some (.ins C dx fs)) (c : Cls X.K C) (n : NoAttr X.K C f) (l : fs.lookup f = some v)
    (h : ∀ u s', Inv X pins σ H s' → RelV v u → Q u s') : wpAny (model X.prog X.w) A (getAttr (.ref a) f b) Q E s := by
  obtain ⟨mA, O, r, _, _, _⟩ := ins_get I.hok e
  obtain ⟨u, hu, ru⟩ := RelO.some_of (v := v) (o := mA f) (by rw [← l]; exact r f)
  exact get_map I.kIn O (c.get f) c.hd n hu (handed_of ru) (h u _ (I.tok _) ru)

theorem getmeth_ok {m : Str} {g : Addr} {pl : Sem Bool} {Q : Value × List Value → Shared → Prop} (I : Inv X pins σ H s) (e : H a = some (.ins C dx fs)) (c : Cls X.K C) (k : Meth X.K C m g) (l : fs.lookup m = none)
    (h : Q (.ref g, [.ref a]) s) : wpAny (model X.prog X.w) A (getMethod (.ref a) m pl) Q E s := by
  obtain ⟨mA, O, r, _, _, _⟩ := ins_get I.hok e
  have hn : mA m = none := RelO.none_of (by rw [← l]; exact r m)
  exact get_meth I.kIn O (c.get m) k.at_ k.fn hn h

theorem setattr_ok {y : V} {u : Value} {Q : Unit → Shared → Prop} (I : Inv X pins σ H s) (e : H a = some (.ins C dx fs)) (c : Cls X.K C) (n : NoAttr X.K C f) (hl : fs.length < 1000) (ry : RelV y u)
    (h : ∀ s', Inv X pins σ (upd H a (.ins C dx (putF f y fs))) s' → Q () s') : wpAny (model X.prog X.w) A (setAttr (.ref a) f u) Q E s := by
  obtain ⟨mA, O, r, wi, _, ho⟩ := ins_get I.hok e
  have hz : (fs.map (·.1)).length ≤ sizeLine := by rw [List.length_map, sizeLine_eq]; omega
  refine set_map I.kIn O c.sa c.po n.taker c.hd wi hz fun h' O' sb => h _ ?_
  have hd : ∃ o, h'.get? dx = some o := let ⟨o, _, _, e', _⟩ := O'.ns; ⟨o, e'⟩
  refine I.write (x := a) (e := dx) (by rw [e]; exact True.intro) (.inr ho) (fun b q hb z => (sb.2 b hb).trans z) hd ?_
  refine ⟨by rw [upd_ne O.ne]; exact ho, ?_, O.ne, O'.obj, _, O'.ns, fun g => ?_, fun g hg => ?_⟩
  · have := length_putF f y fs; omega
  · show RelO ((putF f y fs).lookup g) (if g = f then some u else mA g)
    rw [lookup_putF]
    by_cases q : g = f
    · rw [if_pos q, if_pos q]; exact ry
    · rw [if_neg q, if_neg q]; exact r g
  · by_cases q : g = f
    · rw [q]; exact (keys_putF f y fs).1
    · refine (keys_putF f y fs).2 g (wi g fun z => hg ?_)
      show (if g = f then some u else mA g) = none
      rw [if_neg q]; exact z

/-- a new instance, tracked, without attributes -/
theorem Inv.made (I : Inv X pins σ H s) : Inv X pins σ (upd (upd H s.heap.objs.size (.own (s.heap.objs.size + 1))) (s.heap.objs.size + 1) (.ins C s.heap.objs.size []))
    { s with heap := (s.heap.push PySem.W.emptyDict).push (PySem.W.instObj C s.heap.objs.size) } := by
  have e1 : (s.heap.push PySem.W.emptyDict).get? s.heap.objs.size = some PySem.W.emptyDict := Heap.get?_push_size s.heap rfl
  have e2 : ((s.heap.push PySem.W.emptyDict).push (PySem.W.instObj C s.heap.objs.size)).get? (s.heap.objs.size + 1) = some (PySem.W.instObj C s.heap.objs.size) := by
    have := Heap.get?_push_size (s.heap.push PySem.W.emptyDict) (o := PySem.W.instObj C s.heap.objs.size) rfl
    rwa [Heap.size_push] at this
  have e3 : (s.heap.push PySem.W.emptyDict).Ns s.heap.objs.size (fun _ => none) := ⟨PySem.W.emptyDict, #[], _, e1, rfl, (fun e he => absurd he (by simp)), fun _ => rfl⟩
  have I1 := I.laid (a := s.heap.objs.size) (o := .own (s.heap.objs.size + 1)) (h' := s.heap.push PySem.W.emptyDict) (t' := s.toks) (fun b u q => Heap.get?_push_of_some _ q) (Nat.le_refl _) ⟨_, e1⟩
  refine I1.laid (a := s.heap.objs.size + 1) (o := .ins C s.heap.objs.size []) (t' := s.toks) (fun b u q => Heap.get?_push_of_some _ q) (Nat.le_of_eq (Heap.size_push _ _)) ?_
  have ne : s.heap.objs.size ≠ s.heap.objs.size + 1 := Nat.ne_of_lt (Nat.lt_succ_self _)
  refine ⟨by rw [upd_ne ne, upd_same], Nat.zero_le _, ne, e2, fun _ => none, (Heap.Ns1.of_empty e3).at fun o q => Heap.get?_push_of_some _ q, fun _ => True.intro, fun y hy => absurd rfl hy⟩

/-- e.f where nothing but the object is asked: through attributeBase (super) and the last hold -/
theorem attr_of {prog : Program} {w : World} {env : Env} {e : Expr} {f : Str} {pos : Pos} {s : Shared} {Q : Value → Shared → Prop} (hb : attributeBase e f env (eval e env) = eval e env)
    (h : wpAny (model prog w) A (eval e env) (fun o s₁ => wpAny (model prog w) A (getAttr o f true) Q E s₁) E s) : wpAny (model prog w) A (eval (.Attribute e f pos) env) Q E s :=
  Attribute_any_ h (by rw [arm_eval_Attribute, hb])
end

/-- e.f, an attribute of the instance -/
def tFld (K : PySem.W.Frag) (ta : TE) (f : Str) : TE := fun σ H Q => ta σ H fun x H1 => ∃ a C dx fs v, x = .ref a ∧ H1 a = some (.ins C dx fs) ∧ Cls K C ∧ NoAttr K C f ∧ fs.lookup f = some v ∧ Q v H1
/-- e.f = value -/
def sFld (K : PySem.W.Frag) (ta tv : TE) (f : Str) : TS := fun D σ H => tv σ H fun y H1 => ta σ H1 fun x H2 => ∃ a C dx fs, x = .ref a ∧ H2 a = some (.ins C dx fs) ∧ Cls K C ∧ NoAttr K C f ∧ fs.length < 1000 ∧
  D.nx σ (upd H2 a (.ins C dx (putF f y fs)))
section
variable {X : Cx} {o e value : Expr} {f : Str} {pos pos' tpos : Pos} {ta tv : TE}
theorem pe_fld (he : PE X e ta) (hb : attributeBase e f X.env (eval e X.env) = eval e X.env) : PE X (.Attribute e f pos) (tFld X.K ta f) := by
  intro pins s σ H Q I h
  refine attr_of hb (thn (he pins s σ H _ I h) fun u s1 ⟨x, H1, I1, rx, a, C, dx, fs, v, ex, ea, c, n, l, q⟩ => ?_)
  subst ex
  obtain rfl : u = Value.ref a := rx
  exact getattr_ok I1 ea c n l fun u' s2 I2 ru => ⟨v, H1, I2, ru, q⟩
theorem ps_fld (ha : PE X o ta) (hv : PE X value tv) (hs : swapsWith value (some (.Attribute o f pos')) pos.line X.env = pure false) : PS X (.Assign [.Attribute o f pos'] value pos) (sFld X.K ta tv f) := by
  intro pins s σ H D I h
  refine plainObj_wpAny_Assign_Attribute (thn (hv pins s σ H _ I h) fun u s1 ⟨y, H1, I1, ry, q⟩ => thn (ha pins s1 σ H1 _ I1 q) fun ov s2 ⟨x, H2, I2, rx, a, C, dx, fs, ex, ea, c, n, l, q2⟩ => ?_) hs
  subst ex
  obtain rfl : ov = Value.ref a := rx
  exact setattr_ok I2 ea c n l ry fun s3 I3 => ⟨σ, _, I3, q2⟩
end

section
variable {X : Cx} {pins : List (Addr × Obj)} {σ : St} {H : Hp} {s : Shared} {A : Around} {E : Value → Shared → Prop} {Q : Value → Shared → Prop} {c : Value} {b : Bool}
/-- the type of a value, as the fragment's deciders take it; for an instance its class -/
inductive TyOf (K : PySem.W.Frag) (H : Hp) : V → Value → Prop where
  | non : TyOf K H .non (.type "NoneType")
  | bl (x : Bool) : TyOf K H (.bl x) (.type "bool")
  | int (i : Int) : TyOf K H (.int i) (.type "int")
  | str (x : Str) : TyOf K H (.str x) (.type "str")
  | flt (x : UInt64) : TyOf K H (.flt x) (.type "float")
  | lst {a : Addr} {xs : List V} (e : H a = some (.lst xs)) : TyOf K H (.ref a) (.type "list")
  | frz {a : Addr} {o : Obj} {xs : List V} (e : H a = some (.frz o (.lst xs))) : TyOf K H (.ref a) (.type "list")
  | tup {a : Addr} {xs : List V} (e : H a = some (.tup xs)) : TyOf K H (.ref a) (.type "tuple")
  | dK {a : Addr} {kvs : List (Key × V)} (e : H a = some (.dK kvs)) : TyOf K H (.ref a) (.type "dict")
  | dT {a : Addr} {kvs : List (List Key × V)} (e : H a = some (.dT kvs)) : TyOf K H (.ref a) (.type "dict")
  | ins {a C dx : Addr} {fs : List (Str × V)} (e : H a = some (.ins C dx fs)) (cl : Cls K C) (ha : PySem.W.findIn K (.ref C) "__class__" = some (some (.builtin "object.__class__")))
      (hn : PySem.W.specialIn K (.builtin "object.__class__") "__get__" = some (some (.builtin "getset_descriptor.__get__"))) (htk : PySem.W.takesIn K (.builtin "object.__class__") = some true)
      (hm : PySem.W.mroIn K C (.type "object") = some true) : TyOf K H (.ref a) (.ref C)
/-- isinstance(x, c) for one class c, a built-in or an own one: kitOne's answer -/
theorem isinst_ok {x : V} {u t : Value} (I : Inv X pins σ H s) (rx : RelV x u) (ty : TyOf X.K H x t) (e : PySem.W.kitOne X.K t c = some b) (h : ∀ tk, Q (.bool b) { s with toks := tk }) :
    wpAny (model X.prog X.w) A (call (.builtin "isinstance") [u, c]) Q E s := by
  cases ty with
  | non => cases (show u = Value.none from rx); exact PySem.W.kia_one PySem.W.kitx_none I.kIn True.intro e (fun z => nomatch z) h
  | bl y => cases (show u = Value.bool y from rx); exact PySem.W.kia_one PySem.W.kitx_bool I.kIn True.intro e (fun z => nomatch z) h
  | int i => obtain ⟨t, q⟩ := (show ∃ t, u = Value.int i t from rx); cases q; exact PySem.W.kia_one PySem.W.kitx_int I.kIn True.intro e (fun z => nomatch z) h
  | str y => obtain ⟨t, q⟩ := (show ∃ t, u = Value.str y t from rx); cases q; exact PySem.W.kia_one PySem.W.kitx_str I.kIn True.intro e (fun z => nomatch z) h
  | flt y => obtain ⟨t, q⟩ := (show ∃ t, u = Value.float y t from rx); cases q; exact PySem.W.kia_one PySem.W.kitx_float I.kIn True.intro e (fun z => nomatch z) h
  | @lst a xs ea =>
    cases (show u = Value.ref a from rx)
    obtain ⟨_, _, n, _, h1⟩ := (show ObjOk X.prog X.w H s.heap a (.lst xs) from I.hok a _ ea)
    exact PySem.W.kia_one PySem.W.kitx_list I.kIn ⟨_, h1, rfl⟩ e (fun z => nomatch z) h
  | @frz a ob xs ea =>
    cases (show u = Value.ref a from rx)
    obtain ⟨_, _, _, n, _, h1⟩ := (show ObjOk X.prog X.w H s.heap a (.frz ob (.lst xs)) from I.hok a _ ea)
    exact PySem.W.kia_one PySem.W.kitx_list I.kIn ⟨_, h1, rfl⟩ e (fun z => nomatch z) h
  | @tup a xs ea =>
    cases (show u = Value.ref a from rx)
    obtain ⟨_, _, _, p⟩ := (show ObjOk X.prog X.w H s.heap a (.tup xs) from I.hok a _ ea)
    obtain ⟨o, h1, h2, _⟩ := p
    exact PySem.W.kia_one PySem.W.kitx_tuple I.kIn ⟨o, h1, h2⟩ e (fun z => nomatch z) h
  | @dK a kvs ea =>
    cases (show u = Value.ref a from rx)
    obtain ⟨_, _, vs, _, p⟩ := (show ObjOk X.prog X.w H s.heap a (.dK kvs) from I.hok a _ ea)
    obtain ⟨o, es, ep, h1, h2, _⟩ := p
    exact PySem.W.kia_one PySem.W.kitx_dict I.kIn ⟨o, h1, h2.1⟩ e (fun z => nomatch z) h
  | @dT a kvs ea =>
    cases (show u = Value.ref a from rx)
    obtain ⟨_, _, xs, _, o, es, ep, h1, h2, _⟩ := (show ObjOk X.prog X.w H s.heap a (.dT kvs) from I.hok a _ ea)
    exact PySem.W.kia_one PySem.W.kitx_dict I.kIn ⟨o, h1, h2.1⟩ e (fun z => nomatch z) h
  | @ins a C dx fs ea cl ha hn htk hm =>
    cases (show u = Value.ref a from rx)
    obtain ⟨mA, O, _⟩ := ins_get I.hok ea
    obtain ⟨od, J, _⟩ := O.look
    exact PySem.W.kia_one (PySem.W.kitx_own (cl.get _) cl.hd ha hn htk hm) I.kIn J e (fun z => nomatch z) h
end
end L2

namespace L2
open PySem PySem.Spec PyProof.Rows

structure Room (k : Nat) (A : Around) : Prop where
  hd : A.handled = none
  dp : A.depth + 3 * k + 5 < recursionLimit
  un : A.units + 16 * k + 200 < cLine
  gd : A.guards = some []
theorem Room.mono {j k : Nat} {A : Around} (r : Room k A) (h : j ≤ k) : Room j A := ⟨r.hd, by have := r.dp; omega, by have := r.un; omega, r.gd⟩
theorem Room.deeper {k : Nat} {A : Around} (r : Room (k + 1) A) (env : Env) : Room k (A.deeper env) :=
  ⟨r.hd, by have := r.dp; show A.depth + 1 + 3 * k + 5 < _; omega, by have := r.un; show A.units + 3 + 16 * k + 200 < _; omega, r.gd⟩
theorem Room.in1 {k : Nat} {A : Around} (r : Room (k + 1) A) : Room k A.in1 :=
  ⟨r.hd, by have := r.dp; show A.depth + 3 * k + 5 < _; omega, by have := r.un; show A.units + 1 + 16 * k + 200 < _; omega, r.gd⟩
theorem make_depth {A : Around} {C : Addr} {us : List Value} {kw : List (Str × Value)} : (A.under (.builtin "type.__call__" ⟨.ref C :: us, kw⟩)).depth = A.depth + 1 := by
  first | rfl | simp [Around.under, Code.weight, Code.isCreation, Code.isGuard, Code.isCaller, Code.frames, Code.isFrame, guardIds]
theorem make_units {A : Around} {C : Addr} {us : List Value} {kw : List (Str × Value)} : (A.under (.builtin "type.__call__" ⟨.ref C :: us, kw⟩)).units = A.units + 1 := by
  first | rfl | simp [Around.under, Code.cUnits, Code.frames, Code.isFrame]
theorem make_guards {A : Around} {C : Addr} {us : List Value} {kw : List (Str × Value)} (h : A.guards = some []) : (A.under (.builtin "type.__call__" ⟨.ref C :: us, kw⟩)).guards = some [] := by
  have e : (Code.builtin "type.__call__" ⟨.ref C :: us, kw⟩).guards = [] := by
    unfold Code.guards
    rw [if_neg (by show ¬ guardIds.contains "type.__call__" = true; decide)]
  have e2 : (A.under (.builtin "type.__call__" ⟨.ref C :: us, kw⟩)).guards = pushGuards (Code.builtin "type.__call__" ⟨.ref C :: us, kw⟩).guards A.guards := rfl
  rw [e2, e, h]; rfl
theorem Room.make {k : Nat} {A : Around} (r : Room (k + 1) A) (C : Addr) (us : List Value) (kw : List (Str × Value)) : Room k (A.under (.builtin "type.__call__" ⟨.ref C :: us, kw⟩)) :=
  ⟨r.hd, by have := r.dp; rw [make_depth]; omega, by have := r.un; rw [make_units]; omega, make_guards r.gd⟩
theorem Room.depth {k : Nat} {A : Around} (r : Room k A) : A.depth < recursionLimit := by have := r.dp; omega
theorem Room.units {k : Nat} {A : Around} (r : Room k A) : A.units + 64 < cLine := by have := r.un; omega
theorem Room.units0 {k : Nat} {A : Around} (r : Room k A) : A.units < cLine := by have := r.un; omega

def tNil : TA := fun _ H Q => Q [] H
def tCons (ta : TE) (tr : TA) : TA := fun σ H Q => ta σ H fun x H1 => tr σ H1 fun xs H2 => Q (x :: xs) H2
section
variable {X : Cx} {e : Expr} {es : List Expr} {te : TE} {t : TA} {pos : Pos}
theorem pa_nil : PA X [] tNil := fun _ _ _ _ H Q I h => Calls.spliced_nil ⟨[], H, I, .nil, h⟩
theorem pa_cons (ha : PE X e te) (hr : PA X es t) (hs : starEach (e :: es) X.env = (false, eval e X.env) :: starEach es X.env := by rfl) : PA X (e :: es) (tCons te t) := by
  intro pos pins s σ H Q I h
  rw [hs]
  show wpAny _ _ (spliced ((false, eval e X.env) :: backTo pos (starEach es X.env))) _ _ s
  refine Calls.spliced_cons (thn (ha pins s σ H _ I h) fun u s1 ⟨x, H1, I1, r1, q1⟩ => ?_)
  exact thn (hr pos pins s1 σ H1 _ I1 q1) fun us s2 ⟨xs, H2, I2, r2, q2⟩ => ⟨x :: xs, H2, I2, .cons r1 r2, q2⟩

/-- a tuple, a list of written items -/
def tTup (t : TA) : TE := fun σ H Q => t σ H fun xs H1 => xs.length ≤ sizeLine ∧ ∀ p, H1 p = none → Q (.ref p) (upd H1 p (.tup xs))
def tLst (t : TA) : TE := fun σ H Q => t σ H fun xs H1 => xs.length ≤ sizeLine ∧ ∀ p, H1 p = none → Q (.ref p) (upd H1 p (.lst xs))
theorem pe_tup {x1} (h : PA X es t) : PE X (.Tuple es x1 pos) (tTup t) := by
  intro pins s σ H Q I hq
  refine wpAny_Tuple_spliced (thn (h pos pins s σ H _ I hq) fun us s1 ⟨xs, H1, I1, r, z, q⟩ => ⟨by rw [← r.length]; exact z, ?_⟩)
  have hf : H1 s1.heap.objs.size = none := I1.hok.fresh (Nat.le_refl _)
  refine ⟨.ref s1.heap.objs.size, upd H1 s1.heap.objs.size (.tup xs), I1.laid (t' := s1.toks) (fun b u e => Heap.get?_push_of_some _ e) (Nat.le_refl _) ?_, rfl, q _ hf⟩
  exact ⟨z, us, r, ⟨_, Heap.get?_push_size _ rfl, rfl, _, rfl⟩⟩
theorem pe_lst (h : PA X es t) : PE X (.List es pos) (tLst t) := by
  intro pins s σ H Q I hq
  refine wpAny_List_spliced (thn (h pos pins s σ H _ I hq) fun us s1 ⟨xs, H1, I1, r, z, q⟩ => ⟨by rw [← r.length]; exact z, ?_⟩)
  have hf : H1 s1.heap.objs.size = none := I1.hok.fresh (Nat.le_refl _)
  refine ⟨.ref s1.heap.objs.size, upd H1 s1.heap.objs.size (.lst xs), I1.laid (t' := s1.toks) (fun b u e => Heap.get?_push_of_some _ e) (Nat.le_refl _) ?_, rfl, q _ hf⟩
  exact ⟨z, us, 0, r, Heap.get?_push_size _ rfl⟩
end

/-- a def's promise: the bound arguments in the parameters' order, the heap, the wanted end, the wanted exception -/
abbrev Sp := List V → Hp → VK → XK → Prop
/-- how an exception lies behind a call (file 08 gives it): the callers' frames, abstract heap and state ahead of the call, the wish, the exception, the state -/
abbrev CXT := List Env → Hp → Shared → XK → Value → Shared → Prop

/-- the state at a call -/
structure Env0 (P : Program) (w : World) (K : PySem.W.Frag) (mg : Str → Option Value) (base : Heap) (A : Around) (outer : List Env) (s : Shared) (H : Hp) : Prop where
  frames : A.frames = some outer
  mod : Mod K mg base
  bs : ∀ b o, base.get? b = some o → s.heap.get? b = some o ∧ H b = none
  bsz : base.objs.size ≤ s.heap.objs.size
  funs : s.heap.FunFrames base outer
  frf : ∀ b ∈ frs outer, H b = none
  hok : HOk P w H s.heap
  bare : AllBare s.gens
/-- a call's end -/
def CE (outer : List Env) (P : Program) (w : World) (H : Hp) (s : Shared) (Q : VK) (u : Value) (s' : Shared) : Prop :=
  ∃ v H', s'.os = s.os ∧ AllBare s'.gens ∧ Un (frs outer) [] H H' s.heap s'.heap ∧ HOk P w H' s'.heap ∧ RelV v u ∧ Q v H'
def CR (CX : CXT) (outer : List Env) (P : Program) (w : World) (H : Hp) (s : Shared) (Q : VK) (E : XK) (r : Result) (s' : Shared) : Prop :=
  match r with
  | .ok (.ret u) => CE outer P w H s Q u s'
  | .ok _ => False
  | .error e => CX outer H s E e s'
structure FnOk (P : Program) (w : World) (K : PySem.W.Frag) (mg : Str → Option Value) (base : Heap) (CX : CXT) (k : Nat) (f : Addr) (fd : FuncData) (ps : List Str) (sp : Sp) : Prop where
  len : ∀ vs H Q E, sp vs H Q E → vs.length = ps.length
  run : ∀ (A : Around) (outer : List Env) (s : Shared) (H : Hp) (args : Args) (us : List Value) (vs : List V) (Q : VK) (E : XK), Room k A → Env0 P w K mg base A outer s H → BindsTo s fd args (ps.zip us) → Vals vs us → sp vs H Q E →
    codeAny (model P w) A (.call (.ref f) args) (CR CX outer P w H s Q E) s
theorem FnOk.mono {P : Program} {w : World} {K : PySem.W.Frag} {mg : Str → Option Value} {base : Heap} {CX : CXT} {j k : Nat} {f : Addr} {fd : FuncData} {ps : List Str} {sp : Sp} (F : FnOk P w K mg base CX j f fd ps sp) (h : j ≤ k) :
    FnOk P w K mg base CX k f fd ps sp := ⟨F.len, fun A outer s H args us vs Q E hr => F.run A outer s H args us vs Q E (hr.mono h)⟩
theorem Env0.make {P : Program} {w : World} {K : PySem.W.Frag} {mg : Str → Option Value} {base : Heap} {A : Around} {outer : List Env} {s : Shared} {H : Hp} (e : Env0 P w K mg base A outer s H) (C : Addr) (us : List Value) (kw : List (Str × Value)) :
    Env0 P w K mg base (A.under (.builtin "type.__call__" ⟨.ref C :: us, kw⟩)) outer s H := ⟨by first | exact e.frames | (simpa [Around.under, Code.envs, Code.isFrame, pushEnvs] using e.frames), e.mod, e.bs, e.bsz, e.funs, e.frf, e.hok, e.bare⟩
theorem Env0.in1 {P : Program} {w : World} {K : PySem.W.Frag} {mg : Str → Option Value} {base : Heap} {A : Around} {outer : List Env} {s : Shared} {H : Hp} (e : Env0 P w K mg base A outer s H) :
    Env0 P w K mg base A.in1 outer s H := ⟨e.frames, e.mod, e.bs, e.bsz, e.funs, e.frf, e.hok, e.bare⟩

section
variable {X : Cx} {pins : List (Addr × Obj)} {σ : St} {H : Hp} {s s' : Shared}
/-- from a body: what a callee wants -/
theorem Inv.env0 (I : Inv X pins σ H s) : Env0 X.prog X.w X.K X.mg X.base X.A X.stack s H :=
  ⟨I.ok.frames, I.ok.mod, I.bs, Nat.le_trans I.ok.bsz I.sz, I.stack, I.stkFree, I.hok, I.bare⟩
/-- behind a call -/
theorem Inv.after {Q : VK} {u : Value} (I : Inv X pins σ H s) (h : CE X.stack X.prog X.w H s Q u s') : EP X pins σ Q u s' := by
  obtain ⟨v, H', os, bare, un, hok, r, q⟩ := h
  obtain ⟨hh, g, d, t, os'⟩ := s'
  obtain rfl : os' = s.os := os
  exact ⟨v, H', I.call (h' := hh) (g' := g) (d' := d) (t' := t) (ch := []) un hok bare (fun b z => absurd z (by simp)), r, q⟩
end

/-- f(..): the written arguments, then the defaults dvs; E: what is wanted of an exception -/
def tCall (sp : Sp) (dvs : List V) (E : XK) (t : TA) : TE := fun σ H Q => t σ H fun vs H1 => sp (vs ++ dvs) H1 Q E
/-- o.m(..) of an instance of the class at C -/
def tMeth (C : Addr) (m : Str) (sp : Sp) (dvs : List V) (E : XK) (ta : TE) (t : TA) : TE := fun σ H Q => ta σ H fun x H1 => ∃ a dx fs, x = .ref a ∧ H1 a = some (.ins C dx fs) ∧ fs.lookup m = none ∧
  t σ H1 fun vs H2 => sp (x :: (vs ++ dvs)) H2 Q E
/-- C(..): a new instance and its dict, then __init__ -/
def tMake (C : Addr) (sp : Sp) (dvs : List V) (E : XK) (t : TA) : TE := fun σ H Q => t σ H fun vs H1 => ∀ x dx, H1 x = none → H1 dx = none → dx ≠ x →
  sp (.ref x :: (vs ++ dvs)) (upd (upd H1 dx (.own x)) x (.ins C dx [])) (fun v H2 => v = .non ∧ Q (.ref x) H2) E

/-- how the parameters are bound: us the positional arguments, kw the keywords' values by name, ds the defaults that fill up -/
def Binds (K : PySem.W.Frag) (fd : FuncData) (ps : List Str) (ds : List Value) : Prop :=
  ∀ (s : Shared) (us : List Value), K.In s.heap → (us ++ ds).length = ps.length → BindsTo s fd ⟨us, []⟩ (ps.zip (us ++ ds))
/-- every parameter is given -/
theorem Binds.all {K : PySem.W.Frag} {fd : FuncData} {ps : List Str} (h : ∀ us : List Value, us.length = ps.length → bindArgs fd ⟨us, []⟩ = pure (ps.zip us)) : Binds K fd ps [] := fun s us _ hl => by
  rw [List.append_nil] at hl ⊢
  exact .of_eq (h us hl)

/-- an exception of a callee reaches what this body wants of exceptions -/
def Passes (CX : CXT) (X : Cx) (E : XK) : Prop := ∀ (pins : List (Addr × Obj)) (σ : St) (H : Hp) (s : Shared) (e : Value) (s' : Shared), Inv X pins σ H s → CX X.stack H s E e s' → X.xe e s'

section
variable {X : Cx} {CX : CXT} {k : Nat} {f C : Addr} {fd : FuncData} {ps : List Str} {sp : Sp} {dvs : List V} {ds : List Value} {E : XK} {x m : Str} {p pos apos : Pos} {e o : Expr} {es : List Expr} {ta : TE} {t : TA}

/-- the callee runs -/
theorem run_fn {pins : List (Addr × Obj)} {σ : St} {H : Hp} {s : Shared} {Q : VK} {us : List Value} {vs : List V} (F : FnOk X.prog X.w X.K X.mg X.base CX k f fd ps sp) (hr : Room k X.A) (hb : Binds X.K fd ps ds) (hd : Vals dvs ds) (hx : Passes CX X E)
    (I : Inv X pins σ H s) (r : Vals vs us) (h : sp (vs ++ dvs) H Q E) : wpAny (model X.prog X.w) X.A (call (.ref f) us) (EP X pins σ Q) X.xe s := by
  have r2 : Vals (vs ++ dvs) (us ++ ds) := r.append hd
  have hl : (us ++ ds).length = ps.length := by rw [← r2.length]; exact F.len _ _ _ _ h
  refine wpAny_call (codeAny_mono (F.run X.A X.stack s H ⟨us, []⟩ (us ++ ds) (vs ++ dvs) Q E hr I.env0 (hb s us I.kIn hl) r2 h) fun r s' hq => ?_)
  cases r with
  | error e => exact hx pins σ H s e s' I hq
  | ok fl =>
    cases fl with
    | ret u => exact I.after hq
    | next => exact False.elim hq
    | brk => exact False.elim hq
    | cont => exact False.elim hq

theorem pe_call (F : FnOk X.prog X.w X.K X.mg X.base CX k f fd ps sp) (hr : Room k X.A) (hg : Gl X x) (hm : X.mg x = some (.ref f)) (hk : PySem.W.keepIn X.K (.ref f) = true) (hb : Binds X.K fd ps ds) (hd : Vals dvs ds) (hx : Passes CX X E)
    (ha : PA X (e :: es) t) (hdb : (x == ("__debug__" : Str)) = false := by decide) (he : starEach (e :: es) X.env = (false, eval e X.env) :: starEach es X.env := by rfl) (hpl : (backTo pos (starEach es X.env)).any (·.1) = false := by rfl) :
    PE X (.Call (.Name x p) (e :: es) [] pos) (tCall sp dvs E t) := by
  intro pins s σ H Q I h
  refine wpAny_Call_Name_kw (ld_glob I hg hm ?_ hdb)
  refine PySem.W.callWith_K (h₀ := X.base) I.ok.mod.kin hk (thn (ha pos pins s σ H _ I h) fun us s1 ⟨vs, H1, I1, r, q⟩ => ⟨I1.kIn, ?_⟩) he hpl
  exact run_fn F hr hb hd hx I1 r q
/-- o.m(e, ..) -/
theorem pe_meth {pl : Sem Bool} (he : PE X o ta) (c : Cls X.K C) (hm : Meth X.K C m f) (F : FnOk X.prog X.w X.K X.mg X.base CX k f fd ps sp) (hr : Room k X.A) (hb : Binds X.K fd ps ds) (hd : Vals dvs ds) (hx : Passes CX X E) (ha : PA X (e :: es) t)
    (hst : starEach (e :: es) X.env = (false, eval e X.env) :: starEach es X.env := by rfl) (hpl : (backTo pos (starEach es X.env)).any (·.1) = false := by rfl)
    (ht : eval (.Call (.Attribute o m apos) (e :: es) [] pos) X.env = (do
      let ov ← eval o X.env
      standAt apos.atName
      let (f, first) ← holding [ov] (getMethod ov m pl)
      callWith pos f first (backTo pos (starEach (e :: es) X.env)) (backToKw pos (keywordEach [] X.env))) := by rfl) :
    PE X (.Call (.Attribute o m apos) (e :: es) [] pos) (tMeth C m sp dvs E ta t) := by
  intro pins s σ H Q I h
  refine PySem.W.methodCall_KW (pl := pl) (thn (he pins s σ H _ I h) fun u s1 ⟨x, H1, I1, rx, a, dx, fs, ex, ea, l, q⟩ => ?_) ht
  subst ex
  obtain rfl : u = Value.ref a := rx
  refine getmeth_ok I1 ea c hm l ?_
  refine PySem.W.callWith_K (first := [.ref a]) (h₀ := X.base) I.ok.mod.kin hm.kp (thn (ha pos pins s1 σ H1 _ I1 q) fun us s2 ⟨vs, H2, I2, r, q2⟩ => ⟨I2.kIn, ?_⟩) hst hpl
  exact run_fn (us := .ref a :: us) (vs := .ref a :: vs) F hr hb hd hx I2 (.cons rfl r) q2
/-- o.m() -/
theorem pe_meth0 {pl : Sem Bool} (he : PE X o ta) (c : Cls X.K C) (hm : Meth X.K C m f) (F : FnOk X.prog X.w X.K X.mg X.base CX k f fd ps sp) (hr : Room k X.A) (hb : Binds X.K fd ps ds) (hd : Vals dvs ds) (hx : Passes CX X E)
    (ht : eval (.Call (.Attribute o m apos) [] [] pos) X.env = (do
      let ov ← eval o X.env
      standAt apos.atName
      let (f, first) ← holding [ov] (getMethod ov m pl)
      callWith pos f first (backTo pos (starEach [] X.env)) (backToKw pos (keywordEach [] X.env))) := by rfl) :
    PE X (.Call (.Attribute o m apos) [] [] pos) (tMeth C m sp dvs E ta tNil) := by
  intro pins s σ H Q I h
  refine PySem.W.methodCall_KW (pl := pl) (thn (he pins s σ H _ I h) fun u s1 ⟨x, H1, I1, rx, a, dx, fs, ex, ea, l, q⟩ => ?_) ht
  subst ex
  obtain rfl : u = Value.ref a := rx
  refine getmeth_ok I1 ea c hm l ?_
  exact PySem.W.callWith_K0 (first := [.ref a]) I1.kIn hm.kp (run_fn (us := [.ref a]) (vs := [.ref a]) F hr hb hd hx I1 (.cons rfl .nil) q)

/-- what a class must have to be made -/
structure Mk (K : PySem.W.Frag) (C f : Addr) : Prop where
  makes : PySem.W.makesIn K C = true
  init : PySem.W.findIn K (.ref C) "__init__" = some (some (.ref f))
  fn : PySem.W.isFn K (.ref f) = true
  kp : PySem.W.keepIn K (.ref C) = true

theorem run_make {pins : List (Addr × Obj)} {σ : St} {H : Hp} {s : Shared} {Q : VK} {us : List Value} {vs : List V} (M : Mk X.K C f) (F : FnOk X.prog X.w X.K X.mg X.base CX k f fd ps sp) (hr : Room (k + 1) X.A) (hb : Binds X.K fd ps ds) (hd : Vals dvs ds)
    (hx : Passes CX X E) (I : Inv X pins σ H s) (r : Vals vs us)
    (h : ∀ x dx, H x = none → H dx = none → dx ≠ x → sp (.ref x :: (vs ++ dvs)) (upd (upd H dx (.own x)) x (.ins C dx [])) (fun v H2 => v = .non ∧ Q (.ref x) H2) E) :
    wpAny (model X.prog X.w) X.A (call (.ref C) us) (EP X pins σ Q) X.xe s := by
  have hq := h (s.heap.objs.size + 1) s.heap.objs.size (I.hok.fresh (Nat.le_succ _)) (I.hok.fresh (Nat.le_refl _)) (Nat.ne_of_lt (Nat.lt_succ_self _))
  have I2 := Inv.made (C := C) I
  have r2 : Vals (V.ref (s.heap.objs.size + 1) :: (vs ++ dvs)) (Value.ref (s.heap.objs.size + 1) :: (us ++ ds)) := .cons rfl (r.append hd)
  have hl : (Value.ref (s.heap.objs.size + 1) :: us ++ ds).length = ps.length := by
    have e := r2.length
    rw [F.len _ _ _ _ hq] at e
    exact e.symm
  refine wpAny_call (make_map (f := f) I.kIn M.makes M.init (beq_iff_eq.mp M.fn) (codeAny_mono (F.run _ X.stack _ _ ⟨Value.ref (s.heap.objs.size + 1) :: us, []⟩ (Value.ref (s.heap.objs.size + 1) :: (us ++ ds)) _ _ E (hr.make C us [])
    (I2.env0.make C us []) (hb _ (Value.ref (s.heap.objs.size + 1) :: us) I2.kIn hl) r2 hq) fun r s' hq' => ?_))
  cases r with
  | error e => exact hx pins σ _ _ e s' I2 hq'
  | ok fl =>
    cases fl with
    | ret u =>
      obtain ⟨v, H', I3, rv, ev, q3⟩ := I2.after hq'
      subst ev
      exact ⟨rv, ⟨V.ref (s.heap.objs.size + 1), H', I3, rfl, q3⟩⟩
    | next => exact False.elim hq'
    | brk => exact False.elim hq'
    | cont => exact False.elim hq'
theorem pe_make (M : Mk X.K C f) (F : FnOk X.prog X.w X.K X.mg X.base CX k f fd ps sp) (hr : Room (k + 1) X.A) (hg : Gl X x) (hm : X.mg x = some (.ref C)) (hb : Binds X.K fd ps ds) (hd : Vals dvs ds) (hx : Passes CX X E)
    (ha : PA X (e :: es) t) (hdb : (x == ("__debug__" : Str)) = false := by decide) (he : starEach (e :: es) X.env = (false, eval e X.env) :: starEach es X.env := by rfl) (hpl : (backTo pos (starEach es X.env)).any (·.1) = false := by rfl) :
    PE X (.Call (.Name x p) (e :: es) [] pos) (tMake C sp dvs E t) := by
  intro pins s σ H Q I h
  refine wpAny_Call_Name_kw (ld_glob I hg hm ?_ hdb)
  refine PySem.W.callWith_K (h₀ := X.base) I.ok.mod.kin M.kp (thn (ha pos pins s σ H _ I h) fun us s1 ⟨vs, H1, I1, r, q⟩ => ⟨I1.kIn, ?_⟩) he hpl
  exact run_make M F hr hb hd hx I1 r q
end

section
variable {X : Cx} {CX : CXT} {k : Nat} {f C : Addr} {fd : FuncData} {ps ks : List Str} {sp : Sp} {E : XK} {x m : Str} {p pos apos kpos : Pos} {e o : Expr} {es : List Expr} {kws : List Keyword} {te ta : TE} {t tk : TA} {nm : Option Str}
variable {g : List Value → List Value → List Value} {gV : List V → List V → List V}
end

/-- names: the parameters first -/
structure FnScope (N P : List Str) (sc : Scope) : Prop where
  kind : sc.kind = .function
  co : sc.isCoroutine = false
  gen : sc.isGenerator = false
  nd : N.Nodup
  pre : N.take P.length = P
  par : ∀ x ∈ P, sc.names.lookup x = some .local ∨ sc.names.lookup x = some .cell
  nofree : ∀ y ∈ sc.names, y.2 ≠ .free

theorem bindL_out {kindOf : Str → Option NameKind} {x : Str} : ∀ {binds : List (Str × Value)} {m : Str → Option Value}, (∀ v, (x, v) ∉ binds) → bindL kindOf binds m x = m x
  | [], _, _ => rfl
  | (n, v) :: r, m, h => by
    unfold bindL
    rw [bindL_out fun w hw => h w (List.mem_cons_of_mem _ hw)]
    split
    · have : x ≠ n := by rintro rfl; exact h v List.mem_cons_self
      simp [this]
    · rfl
theorem bindC_out {kindOf : Str → Option NameKind} {x : Str} : ∀ {binds : List (Str × Value)} {m : Str → Option Value}, (∀ v, (x, v) ∉ binds) → bindC kindOf binds m x = m x
  | [], _, _ => rfl
  | (n, v) :: r, m, h => by
    unfold bindC
    rw [bindC_out fun w hw => h w (List.mem_cons_of_mem _ hw)]
    split
    · rfl
    · have : x ≠ n := by rintro rfl; exact h v List.mem_cons_self
      simp [this]
theorem bindL_get {kindOf : Str → Option NameKind} {x : Str} {v : Value} : ∀ {P : List Str} {vs : List Value} {i : Nat} {m : Str → Option Value}, P.Nodup → P[i]? = some x → vs[i]? = some v → kindOf x = some .local →
    bindL kindOf (P.zip vs) m x = some v
  | [], _, _, _, _, h, _, _ => by simp at h
  | _ :: _, [], _, _, _, _, h, _ => by simp at h
  | p :: P, w :: vs, 0, m, nd, h1, h2, hk => by
    simp at h1 h2; subst h1; subst h2
    show bindL kindOf ((p, w) :: P.zip vs) m p = _
    unfold bindL
    rw [bindL_out fun v hv => (List.nodup_cons.mp nd).1 (List.of_mem_zip hv).1, if_pos hk]
    simp
  | p :: P, w :: vs, i + 1, m, nd, h1, h2, hk => by
    show bindL kindOf ((p, w) :: P.zip vs) m x = _
    unfold bindL
    exact bindL_get (i := i) (List.nodup_cons.mp nd).2 (by simpa using h1) (by simpa using h2) hk
theorem bindC_get {kindOf : Str → Option NameKind} {x : Str} {v : Value} : ∀ {P : List Str} {vs : List Value} {i : Nat} {m : Str → Option Value}, P.Nodup → P[i]? = some x → vs[i]? = some v → kindOf x ≠ some .local →
    bindC kindOf (P.zip vs) m x = some v
  | [], _, _, _, _, h, _, _ => by simp at h
  | _ :: _, [], _, _, _, _, h, _ => by simp at h
  | p :: P, w :: vs, 0, m, nd, h1, h2, hk => by
    simp at h1 h2; subst h1; subst h2
    show bindC kindOf ((p, w) :: P.zip vs) m p = _
    unfold bindC
    rw [bindC_out fun v hv => (List.nodup_cons.mp nd).1 (List.of_mem_zip hv).1, if_neg hk]
    simp
  | p :: P, w :: vs, i + 1, m, nd, h1, h2, hk => by
    show bindC kindOf ((p, w) :: P.zip vs) m x = _
    unfold bindC
    exact bindC_get (i := i) (List.nodup_cons.mp nd).2 (by simpa using h1) (by simpa using h2) hk

/-- the names' values at the entry -/
def start (N : List Str) (vs : List V) : St := vs.map some ++ List.replicate (N.length - vs.length) none

/-- the context of a def's body, at its entry; an exception leaves the frame, then lies as CX says -/
def cxOf (CX : CXT) (P : Program) (w : World) (K : PySem.W.Frag) (mg : Str → Option Value) (base : Heap) (N : List Str) (qual : Str) (scope : Scope) (f : Addr) (cd : Value) (A : Around) (outer : List Env) (s : Shared) (H : Hp) (E : XK) : Cx where
  prog := P
  w := w
  K := K
  mg := mg
  base := base
  A := A.deeper (envOfC qual scope s.heap.objs.size f cd)
  N := N
  s₀ := s
  H₀ := H
  env := envOfC qual scope s.heap.objs.size f cd
  outer := outer
  stack := envOfC qual scope s.heap.objs.size f cd :: outer
  ex := []
  calm := true
  fn := fun _ => true
  pn := []
  xe := fun e s' => wpAny (model P w) (A.deeper (envOfC qual scope s.heap.objs.size f cd)) (leaving (envOfC qual scope s.heap.objs.size f cd) e) (fun _ s'' => CX outer H s E e s'') (fun e' s'' => CX outer H s E e' s'') s'

theorem cell_has {sc : Scope} {n : Nat} {x : Str} (h : sc.names.lookup x = some .cell) : ∃ c, (cellsFrom n sc.names []).lookup x = some c := by
  have q := PySem.W.cellsFrom_some sc.names n [] (.inl h)
  exact Option.isSome_iff_exists.mp q

theorem inv_start {CX : CXT} {P : Program} {w : World} {K : PySem.W.Frag} {mg : Str → Option Value} {base : Heap} {N ps : List Str} {qual : Str} {scope : Scope} {f : Addr} {cd : Value} {A : Around} {outer : List Env} {s s1 : Shared} {H : Hp} {E : XK} {us : List Value} {vs : List V}
    (S : FnScope N ps scope) (hd : A.handled = none) (e0 : Env0 P w K mg base A outer s H) (hl : vs.length = ps.length) (r : Vals vs us)
    (x : InCallC s s.heap.objs.size (bindL (envOfC qual scope s.heap.objs.size f cd).kindOf (ps.zip us) fun _ => none) (cellsFrom (s.heap.objs.size + 1) scope.names []) (bindC (envOfC qual scope s.heap.objs.size f cd).kindOf (ps.zip us) fun _ => none) s1) :
    Inv (cxOf CX P w K mg base N qual scope f cd A outer s H E) [] (start N vs) H s1 := by
  have hpl : ps.length ≤ N.length := by have := congrArg List.length S.pre; rw [List.length_take] at this; omega
  obtain ⟨h1, tk, rfl, hk⟩ := x.done
  have noA : ∀ b : Addr, b ∉ (cxOf CX P w K mg base N qual scope f cd A outer s H E).ex := fun b z => absurd (show b ∈ ([] : List Addr) from z) (by simp)
  refine ⟨⟨e0.mod, S.kind, rfl, rfl, Nat.le_refl _, fun y z c h1 h2 => ?_, fun y hy => ?_, fun y c _ h => ?_, fun _ => hd, Around.frames_deeper e0.frames, .inr ⟨rfl, rfl⟩, fun b z => absurd z (noA b), e0.bs, e0.bsz, fun b _ _ => noA b, fun b z => absurd z (noA b), e0.funs, e0.frf⟩,
    rfl, e0.bare, Un.kept hk, ⟨_, x.toInCall.ns, fun i y v h1 h2 h3 => ?_⟩, fun y c h => ⟨_, x.cell y c h⟩, e0.hok.fresh (Nat.le_refl _), fun y c h => ?_, fun p hp => absurd (show p ∈ ([] : List (Addr × Obj)) from hp) (by simp), e0.hok.kept hk, ?_⟩
  · exact name_of_addr x.apart (PySem.mem_of_lookup h1) (PySem.mem_of_lookup h2)
  · have hy : scope.names.lookup y = some .cell ∨ scope.names.lookup y = some .free := hy
    rcases hy with hy | hy
    · exact cell_has hy
    · exact absurd rfl (S.nofree _ (PySem.mem_of_lookup hy))
  · exact Nat.le_of_lt (x.above y c (PySem.mem_of_lookup h))
  · have hi : i < vs.length := by
      unfold start at h2
      by_cases hi : i < vs.length
      · exact hi
      · rw [List.getElem?_append_right (by simpa using hi)] at h2
        rw [List.getElem?_replicate] at h2
        split at h2 <;> cases h2
    have ha : vs[i]? = some v := by
      unfold start at h2
      rw [List.getElem?_append_left (by simpa using hi), List.getElem?_map] at h2
      cases e : vs[i]? with
      | none => rw [e] at h2; cases h2
      | some a => rw [e] at h2; cases h2; rfl
    obtain ⟨u, hu, rv⟩ := r.get ha
    have hp : ps[i]? = some y := by
      rw [← S.pre, List.getElem?_take_of_lt (by omega)]; exact h1
    have ndP : ps.Nodup := by rw [← S.pre]; exact S.nd.sublist (List.take_sublist _ _)
    refine ⟨u, rv, ?_⟩
    rcases S.par y (List.mem_of_getElem? hp) with k | k
    · exact .inl ⟨k, bindL_get ndP hp hu k⟩
    · obtain ⟨c, e⟩ := cell_has (n := s.heap.objs.size + 1) k
      refine .inr ⟨.inl k, c, e, ?_⟩
      have q := x.cell y c e
      rw [bindC_get ndP hp hu (by show scope.names.lookup y ≠ _; rw [k]; decide)] at q
      exact q
  · exact e0.hok.fresh (Nat.le_of_lt (x.above y c (PySem.mem_of_lookup h)))
  · unfold start
    show _ = N.length
    rw [List.length_append, List.length_map, List.length_replicate]
    omega

/-- THE RULE: a def (or a method) of the text, by its body. The body's reading t is chosen for each entry; it is run at the parameters' values -/
theorem fn_of {CX : CXT} {P : Program} {w : World} {K : PySem.W.Frag} {mg : Str → Option Value} {base : Heap} {k : Nat} {f : Addr} {name qual : Str} {params : Arguments} {body : List Stmt} {scope : Scope} {dV kV doc pm cdv ct oc : Value} {an od : Option Addr}
    {osl : Array (Option Value)} {N ps : List Str} {sp : Sp} (lk : K.lookup f = some ⟨oc, od, .func (PySem.W.fnOf name qual params body scope dV kV doc pm an cdv ct), osl⟩) (hcd : PySem.W.codeIn K cdv qual = true) (S : FnScope N ps scope)
    (len : ∀ vs H Q E, sp vs H Q E → vs.length = ps.length)
    (hbody : ∀ (A : Around) (outer : List Env) (s : Shared) (H : Hp) (vs : List V) (Q : VK) (E : XK), Room k (A.deeper (envOfC qual scope s.heap.objs.size f cdv)) → sp vs H Q E →
      ∃ t, PSs (cxOf CX P w K mg base N qual scope f cdv A outer s H E) body t ∧ t { nx := fun _ H' => Q .non H', rt := Q } (start N vs) H) :
    FnOk P w K mg base CX (k + 1) f (PySem.W.fnOf name qual params body scope dV kV doc pm an cdv ct) ps sp := by
  refine ⟨len, fun A outer s H args us vs Q E hr e0 hb r hsp => ?_⟩
  have hl := len _ _ _ _ hsp
  have KX : K.In s.heap := e0.mod.kin.keeps fun b o e => (e0.bs b o e).1
  have lim : s.heap.NoLimit := e0.mod.nolimit.keeps fun b o e => (e0.bs b o e).1
  have hkind : ∀ y ∈ ps.zip us, scope.names.lookup y.1 = some .local ∨ (scope.names.lookup y.1 = some .cell ∧ ((cellsFrom (s.heap.objs.size + 1) scope.names []).lookup y.1).isSome = true) := fun ⟨n, v⟩ hy => by
    rcases S.par n (List.of_mem_zip hy).1 with q | q
    · exact .inl q
    · exact .inr ⟨q, PySem.W.cellsFrom_some _ _ _ (.inl q)⟩
  refine codeAny_call_function hr.depth (KX _ _ lk) rfl S.co S.gen rfl (PySem.W.codeRec_of KX hcd) (hb _ _ _ _ ?_)
  refine wpAny_newFunctionEnv_cells S.kind hkind fun env he s1 x => ?_
  subst he
  refine ⟨lim.keeps x.toInCall.keep, codeAny_func ?_⟩
  obtain ⟨t, ht, hq⟩ := hbody A outer s H vs Q E (hr.deeper _) hsp
  have I : Inv (cxOf CX P w K mg base N qual scope f cdv A outer s H E) [] (start N vs) H s1 := inv_start S hr.hd e0 hl r x
  refine wpAny_mono (ht [] s1 (start N vs) H _ I hq) (fun fl s' hs => ?_) fun e s' hs => hs
  have fin : ∀ {σ' : St} {H' : Hp} {v : V} {u : Value}, Inv (cxOf CX P w K mg base N qual scope f cdv A outer s H E) [] σ' H' s' → RelV v u → Q v H' → CE outer P w H s Q u s' :=
    fun {σ' H' v u} J rv q => ⟨v, H', J.os, J.bare, J.base, J.hok, rv, q⟩
  cases fl with
  | ret u =>
    obtain ⟨v, σ', H', J, rv, q⟩ := hs
    exact fin J rv q
  | next =>
    obtain ⟨σ', H', J, q⟩ := hs
    exact fin (v := V.non) (u := Value.none) J rfl q
  | brk =>
    obtain ⟨_, _, _, q⟩ := hs
    exact False.elim q
  | cont =>
    obtain ⟨_, _, _, q⟩ := hs
    exact False.elim q
end L2

namespace L2
open PySem PySem.Spec PyProof.Rows
section
variable {X : Cx} {x : Str} {p pos : Pos} {e : Expr} {es : List Expr} {t : TA} {id T : String} {r : List V → Hp → VK → Prop}

def tCB (r : List V → Hp → VK → Prop) (t : TA) : TE := fun σ H Q => t σ H fun vs H1 => r vs H1 Q
/-- f(e, ..), f a built-in function -/
theorem pe_callB (hc : CallR X (.builtin id) r) (hg : Gl X x) (hm : X.mg x = none) (hv : bootBuiltins x = some (.builtin id)) (ha : PA X (e :: es) t) (hn : x ≠ "__name__" := by decide) (hdb : (x == ("__debug__" : Str)) = false := by decide)
    (he : starEach (e :: es) X.env = (false, eval e X.env) :: starEach es X.env := by rfl) (hpl : (backTo pos (starEach es X.env)).any (·.1) = false := by rfl) : PE X (.Call (.Name x p) (e :: es) [] pos) (tCB r t) := by
  intro pins s σ H Q I h
  refine wpAny_Call_Name_kw (ld_blt I hg hm hv ?_ hn hdb)
  exact PyProof.Rows.callWith_builtin1 (thn (ha pos pins s σ H _ I h) fun us s1 ⟨vs, H1, I1, r1, q1⟩ => hc pins s1 σ H1 vs us Q I1 r1 q1) he hpl
/-- T(e, ..), T a built-in type -/
theorem pe_callTy (hc : CallR X (.type T) r) (hg : Gl X x) (hm : X.mg x = none) (hv : bootBuiltins x = some (.type T)) (ha : PA X (e :: es) t) (hn : x ≠ "__name__" := by decide) (hdb : (x == ("__debug__" : Str)) = false := by decide)
    (he : starEach (e :: es) X.env = (false, eval e X.env) :: starEach es X.env := by rfl) (hpl : (backTo pos (starEach es X.env)).any (·.1) = false := by rfl) : PE X (.Call (.Name x p) (e :: es) [] pos) (tCB r t) := by
  intro pins s σ H Q I h
  refine wpAny_Call_Name_kw (ld_blt I hg hm hv ?_ hn hdb)
  exact PyProof.Rows.callWith_type1 (thn (ha pos pins s σ H _ I h) fun us s1 ⟨vs, H1, I1, r1, q1⟩ => hc pins s1 σ H1 vs us Q I1 r1 q1) he hpl
end
end L2

namespace HT
open PySem PyProof.Rows

section
open PySem.SeqAt
open PySem.AutoSeq1 (wpAny_loadPart')
open PySem.MeetsSeq PySem.MeetsSeq2 PySem.MeetsSeq3

end

section
variable {prog : Program} {w : World} {A : Around} {E : Value → Shared → Prop} {s : Shared}

/-- a slice's bound as a place among n (d where it is left out) -/
def sIx (n d : Nat) : Option Int → Nat
  | none => d
  | some v => if v < 0 then (v + (n : Int)).toNat else min v.toNat n
theorem sIx_none (n d : Nat) : sIx n d none = d := rfl
theorem sIx_nat (n d k : Nat) : sIx n d (some (k : Int)) = min k n := by
  show (if (k : Int) < 0 then ((k : Int) + (n : Int)).toNat else min (k : Int).toNat n) = min k n
  rw [if_neg (by omega), Int.toNat_natCast]
theorem sIx_le (n d : Nat) (hd : d ≤ n) (o : Option Int) : sIx n d o ≤ n := by
  cases o with
  | none => exact hd
  | some v =>
    show (if v < 0 then (v + (n : Int)).toNat else min v.toNat n) ≤ n
    by_cases hv : v < 0
    · rw [if_pos hv]; omega
    · rw [if_neg hv]; exact Nat.min_le_right _ _
theorem clip_eq (v : Int) (n d : Nat) : (if v < 0 then max (v + (n : Int)) 0 else min v (n : Int)) = ((sIx n d (some v) : Nat) : Int) := by
  show (if v < 0 then max (v + (n : Int)) 0 else min v (n : Int)) = (((if v < 0 then (v + (n : Int)).toNat else min v.toNat n) : Nat) : Int)
  by_cases hv : v < 0
  · simp only [if_pos hv]; omega
  · simp only [if_neg hv]; omega
theorem adjust_gen (lo hi : Option Int) (n : Nat) : Builtin.Slice.sliceAdjust lo hi 1 (n : Int) = (((sIx n 0 lo : Nat) : Int), ((sIx n n hi : Nat) : Int)) := by
  have h1 : ¬ ((1 : Int) < 0) := by omega
  unfold Builtin.Slice.sliceAdjust
  simp only [h1, if_false]
  refine Prod.ext ?_ ?_
  · cases lo with
    | none => rfl
    | some v => exact clip_eq v n 0
  · cases hi with
    | none => rfl
    | some v => exact clip_eq v n n
theorem places_gen (i j : Nat) : Builtin.Slice.slicePlaces (i : Int) (j : Int) 1 = j - i := by
  unfold Builtin.Slice.slicePlaces
  have h1 : (1 : Int) > 0 := by omega
  simp only [h1, if_true, Int.ediv_one]
  split <;> omega
theorem slicePart_ {v : Value} {o : Option Int} {Q : Option Int → Shared → Prop} (p : IsPart v o) (h : Q o s) : wpAny (model prog w) A (Builtin.Slice.slicePartIndex v) Q E s := by
  cases p with
  | none => exact slicePart_none h
  | int i t => exact slicePart_int h
theorem sliceApplied_gen {sl : Addr} {vl vu : Value} {lo hi : Option Int} {n : Nat} {Q : Int × Int × Nat → Shared → Prop} (hs : s.heap.IsSliceOf sl vl vu .none) (pl : IsPart vl lo) (pu : IsPart vu hi)
    (h : Q (((sIx n 0 lo : Nat) : Int), 1, sIx n n hi - sIx n 0 lo) s) : wpAny (model prog w) A (Builtin.Slice.sliceApplied (.ref sl) (pure (n : Int))) Q E s := by
  obtain ⟨os, hos, hcs, hds⟩ := id hs
  unfold Builtin.Slice.sliceApplied Builtin.Slice.sliceFields
  refine wpAny_bind (wpAny_bind (wpAny_field hos hds (x := vl) rfl (wpAny_bind (wpAny_field hos hds (x := vu) rfl (wpAny_bind (wpAny_field hos hds (x := .none) rfl (wpAny_pure ?_)))))))
  refine wpAny_bind (slicePart_none ?_)
  show wpAny _ _ (if ((1 : Int) == 0) = true then _ else _) _ _ s
  rw [if_neg (by decide)]
  refine wpAny_bind (slicePart_ pl (wpAny_bind (slicePart_ pu (wpAny_bind (wpAny_pure ?_)))))
  show wpAny _ _ (match Builtin.Slice.sliceAdjust lo hi 1 (n : Int) with | (lo, hi) => pure (lo, (1 : Int), Builtin.Slice.slicePlaces lo hi 1)) _ _ s
  rw [adjust_gen lo hi n]
  show wpAny _ _ (pure (((sIx n 0 lo : Nat) : Int), (1 : Int), Builtin.Slice.slicePlaces ((sIx n 0 lo : Nat) : Int) ((sIx n n hi : Nat) : Int) 1)) _ _ s
  rw [places_gen]
  exact wpAny_pure h
theorem pick_gen (xs : Array Value) (i k : Nat) : ((List.range k).filterMap fun (m : Nat) => xs[((i : Int) + (m : Int) * 1).toNat]?).toArray = ((xs.toList.drop i).take k).toArray := by
  have e : (fun (m : Nat) => xs[((i : Int) + (m : Int) * 1).toNat]?) = fun m => xs[i + m]? := by
    funext m
    have : ((i : Int) + (m : Int) * 1).toNat = i + m := by omega
    rw [this]
  rw [e]
  have := pick_run xs i k
  rw [List.filterMap_map] at this
  have e2 : ((fun x => xs[x]?) ∘ fun x => i + x) = fun m => xs[i + m]? := rfl
  rw [e2] at this
  rw [this]

theorem getItem_tuple_cut {t sl : Addr} {items : Array Value} {vl vu : Value} {lo hi : Option Int} {Q : Value → Shared → Prop} (ht : IsTup s.heap t items) (hs : s.heap.IsSliceOf sl vl vu .none) (pl : IsPart vl lo) (pu : IsPart vu hi)
    (hw : ¬ (sIx items.size 0 lo = 0 ∧ sIx items.size items.size hi = items.size))
    (h : Q (.ref s.heap.objs.size) { s with heap := s.heap.push { cls := .type "tuple", data := .seq ((items.toList.drop (sIx items.size 0 lo)).take (sIx items.size items.size hi - sIx items.size 0 lo)).toArray } })
    (hsz : items.size ≤ sizeLine) : wpAny (model prog w) A (getItem (.ref t) (.ref sl)) Q E s := by
  have htake : sizeOk (.seq ((items.toList.drop (sIx items.size 0 lo)).take (sIx items.size items.size hi - sIx items.size 0 lo)).toArray) := by
    show ((items.toList.drop (sIx items.size 0 lo)).take (sIx items.size items.size hi - sIx items.size 0 lo)).toArray.size ≤ sizeLine
    rw [List.size_toArray, List.length_take, List.length_drop, Array.length_toList]
    omega
  have hj : sIx items.size items.size hi ≤ items.size := sIx_le _ _ (Nat.le_refl _) hi
  obtain ⟨os, hos, hcs, hds⟩ := id hs
  have hTs : s.TypeIs (.ref sl) "slice" := ⟨os, hos, hcs⟩
  unfold getItem
  try with_reducible refine wpAny_holding ?_
  first | refine wpAny_bind (wpAny_pure ?_) | skip
  refine wpAny_bind (wpAny_sequenceKey ht.typeIs (by decide) ?_)
  refine wpAny_bind (wpAny_callSpecial?_slot (name := Str.ofString "__getitem__") ht.typeIs PyProof.Rows.slot_tuple_getitem
    (wpAny_call_entry PyProof.Rows.slot_tuple_getitem ht.typeIs entry_tuple_getitem ?_ (args_tuple_getitem _ _)))
  show wpAny _ _ (Builtin.Tuple.tupleItemsOf (.ref t) >>= _) _ _ s
  refine wpAny_bind (tupleItemsOf_ ht ?_)
  refine wpAny_bind (wpAny_typeOf hTs ?_)
  rw [if_pos (by decide)]
  refine wpAny_bind (sliceApplied_gen hs pl pu ?_)
  have hno : ¬ ((((sIx items.size 0 lo : Nat) : Int) == 0 && (1 : Int) == 1 && (sIx items.size items.size hi - sIx items.size 0 lo) == items.size) = true) := by
    intro q
    rw [Bool.and_eq_true, Bool.and_eq_true] at q
    have q1 : ((sIx items.size 0 lo : Nat) : Int) = 0 := eq_of_beq q.1.1
    have q2 : sIx items.size items.size hi - sIx items.size 0 lo = items.size := eq_of_beq q.2
    exact hw ⟨by omega, by omega⟩
  show wpAny _ _ (if (((sIx items.size 0 lo : Nat) : Int) == 0 && (1 : Int) == 1 && (sIx items.size items.size hi - sIx items.size 0 lo) == items.size) = true then _ else _) _ _ s
  rw [if_neg hno, pick_gen]
  first
    | exact wpAny_bind (m := Builtin.Tuple.tupleExact _) (wpAny_newObj_type (wpAny_pure ⟨_, rfl, wpAny_pure h⟩) htake)
    | exact wpAny_bind (m := Builtin.Tuple.tupleExact _) (wpAny_newObj_type (wpAny_bind (wpAny_pure (wpAny_pure ⟨_, rfl, wpAny_pure h⟩))) htake)
    | exact wpAny_bind (wpAny_bind (m := Builtin.Tuple.tupleExact _) (wpAny_newObj_type (wpAny_pure (wpAny_pure ⟨_, rfl, wpAny_pure h⟩)) htake))
    | exact wpAny_bind (wpAny_bind (m := Builtin.Tuple.tupleExact _) (wpAny_newObj_type (wpAny_pure ⟨_, rfl, wpAny_pure h⟩) htake))
end
end HT

namespace L2
open PySem PySem.Spec PyProof.Rows

abbrev TO := St → Hp → (Option Int → Hp → Prop) → Prop
/-- a slice's part (left out, or an int) -/
def PO (X : Cx) (e : Option Expr) (t : TO) : Prop :=
  ∀ (pins : List (Addr × Obj)) (s : Shared) (σ : St) (H : Hp) (Q : Option Int → Hp → Prop), Inv X pins σ H s → t σ H Q →
    wpAny (model X.prog X.w) X.A (evalPart e X.env) (fun u s' => ∃ o H', Inv X pins σ H' s' ∧ IsPart u o ∧ Q o H') X.xe s
def tNoPart : TO := fun _ H Q => Q none H
def tPart (t : TE) : TO := fun σ H Q => t σ H fun x H1 => ∃ i, x = .int i ∧ Q (some i) H1

theorem intsAre_of {ns : List Int} : ∀ {us : List Value}, Vals (ns.map V.int) us → IntsAre us ns := by
  induction ns with
  | nil => intro us r; rw [List.map_nil] at r; cases r; exact .nil
  | cons n ns ih =>
    intro us r
    rw [List.map_cons] at r
    cases r with
    | cons r1 r2 =>
      obtain ⟨t, e⟩ := r1
      subst e
      exact .cons n t (ih r2)

section
variable {X : Cx} {e : Expr} {te : TE} {lo hi : Option Expr} {tl th : TO} {pos p2 : Pos}

theorem po_none : PO X none tNoPart := by
  intro pins s σ H Q I h
  rw [evalPart_none]
  exact wpAny_pure ⟨none, H, I, .none, h⟩
theorem po_some (h : PE X e te) : PO X (some e) (tPart te) := by
  intro pins s σ H Q I hw
  rw [evalPart_some]
  refine thn (h pins s σ H _ I hw) fun u s1 ⟨x, H1, I1, r1, q1⟩ => ?_
  obtain ⟨i, rfl, q⟩ := q1
  obtain ⟨t, rfl⟩ := r1
  exact ⟨some i, H1, I1, .int i t, q⟩

/-- what a slice of a value is, by values: the slice object stands at sl -/
def SlR (X : Cx) (r : V → Option Int → Option Int → Hp → VK → Prop) : Prop :=
  ∀ (pins : List (Addr × Obj)) (s : Shared) (σ : St) (H : Hp) (x : V) (v vl vu : Value) (lo hi : Option Int) (sl : Addr) (Q : VK), Inv X pins σ H s → RelV x v → s.heap.IsSliceOf sl vl vu .none → IsPart vl lo → IsPart vu hi → r x lo hi H Q →
    ∃ T id, typeLookup (.type T) "__getitem__" = pure (some (.builtin id)) ∧ s.TypeIs v T ∧ wpAny (model X.prog X.w) X.A (getItem v (.ref sl)) (EP X pins σ Q) X.xe s
theorem SlR.or {r r' : V → Option Int → Option Int → Hp → VK → Prop} (h : SlR X r) (h' : SlR X r') : SlR X (fun x lo hi H Q => r x lo hi H Q ∨ r' x lo hi H Q) := by
  intro pins s σ H x v vl vu lo hi sl Q I rx hs pl pu q
  rcases q with q | q
  · exact h pins s σ H x v vl vu lo hi sl Q I rx hs pl pu q
  · exact h' pins s σ H x v vl vu lo hi sl Q I rx hs pl pu q
def tSl (r : V → Option Int → Option Int → Hp → VK → Prop) (te : TE) (tl th : TO) : TE := fun σ H Q => te σ H fun x H1 => tl σ H1 fun l H2 => th σ H2 fun u H3 => r x l u H3 Q
/-- a[lo:hi], any a -/
theorem pe_slice {r : V → Option Int → Option Int → Hp → VK → Prop} (hr : SlR X r) (he : PE X e te) (hl : PO X lo tl) (hu : PO X hi th) : PE X (.Subscript e (.Slice lo hi none p2) pos) (tSl r te tl th) := by
  intro pins s σ H Q I h
  refine Subscript_ (thn (he pins s σ H _ I h) fun v s1 ⟨x, H1, I1, r1, q1⟩ => ?_)
  refine wpAny_Slice (thn (hl pins s1 σ H1 _ I1 q1) fun vl s2 ⟨l, H2, I2, pl, q2⟩ => thn (hu pins s2 σ H2 _ I2 q2) fun vu s3 ⟨u, H3, I3, pu, q3⟩ => ?_)
  rw [evalPart_none]
  refine wpAny_pure ?_
  have I4 : Inv X pins σ H3 { s3 with heap := s3.heap.push { cls := .type "slice", data := .fields #[vl, vu, .none] } } := I3.kept (t' := s3.toks) fun b ob q => Heap.get?_push_of_some _ q
  obtain ⟨T, id, hT, ht, hg⟩ := hr pins { s3 with heap := s3.heap.push { cls := .type "slice", data := .fields #[vl, vu, .none] } } σ H3 x v vl vu l u s3.heap.objs.size Q I4 r1 (Heap.IsSliceOf.new ..) pl pu q3
  show wpAny (model X.prog X.w) X.A (subscriptTail e (.Slice lo hi none p2) v (.ref s3.heap.objs.size)) (EP X pins σ Q) X.xe { s3 with heap := s3.heap.push { cls := .type "slice", data := .fields #[vl, vu, .none] } }
  exact tail_any (ops := [.ref s3.heap.objs.size, v]) ht hT hg (by with_unfolding_all rfl)

/-- the items of xs[lo:hi] -/
def cutV (xs : List V) (lo hi : Option Int) : List V := (xs.drop (HT.sIx xs.length 0 lo)).take (HT.sIx xs.length xs.length hi - HT.sIx xs.length 0 lo)
theorem cutV_length (xs : List V) (lo hi : Option Int) : (cutV xs lo hi).length ≤ xs.length := by
  unfold cutV
  rw [List.length_take, List.length_drop]
  omega
/-- t[lo:hi], not the whole of it (the whole would be t itself) -/
def rSlT (K : PySem.W.Frag) : V → Option Int → Option Int → Hp → VK → Prop := fun x lo hi H Q => ∃ a xs, x = .ref a ∧ SqT K H a xs ∧
  ¬ (HT.sIx xs.length 0 lo = 0 ∧ HT.sIx xs.length xs.length hi = xs.length) ∧ ∀ p, H p = none → Q (.ref p) (upd H p (.tup (cutV xs lo hi)))
theorem sl_tup : SlR X (rSlT X.K) := by
  intro pins s σ H x v vl vu lo hi sl Q I rx hs pl pu h
  obtain ⟨a, xs, rfl, hx, hw, q⟩ := h
  cases rx
  obtain ⟨its, r, ht, hz⟩ := I.tuple hx
  have hlen : its.toArray.size = xs.length := by rw [List.size_toArray]; exact r.length.symm
  refine ⟨"tuple", _, PyProof.Rows.slot_tuple_getitem.lookup, ht.typeIs, ?_⟩
  refine HT.getItem_tuple_cut ht hs pl pu (by rw [hlen]; exact hw) ?_ (by rw [hlen]; exact hz)
  rw [hlen]
  refine ⟨.ref s.heap.objs.size, _, I.laid (t' := s.toks) (o := .tup (cutV xs lo hi)) (fun b ob q => Heap.get?_push_of_some _ q) (Nat.le_refl _) ?_, rfl, q _ (I.hok.fresh (Nat.le_refl _))⟩
  exact ⟨Nat.le_trans (cutV_length xs lo hi) hz, _, (r.drop (HT.sIx xs.length 0 lo)).take (HT.sIx xs.length xs.length hi - HT.sIx xs.length 0 lo), IsTup.new _ _⟩

end
end L2

namespace L2
open PySem PySem.Spec PyProof.Rows

/-- the place that an index of any sign means -/
def ixN (n : Nat) (i : Int) : Option Nat := if 0 ≤ i then (if i < n then some i.toNat else none) else if -(n : Int) ≤ i then some (i + n).toNat else none
def atI {α : Type} (xs : List α) (i : Int) : Option α := (ixN xs.length i).bind fun j => xs[j]?
theorem ixN_seq {n : Nat} {i : Int} {j : Nat} (h : ixN n i = some j) : seqIndex? i n = some j ∧ j < n ∧ -(n : Int) ≤ i ∧ i < n := by
  unfold ixN at h
  by_cases h0 : 0 ≤ i
  · rw [if_pos h0] at h
    by_cases h1 : i < n
    · rw [if_pos h1] at h
      have e : i.toNat = j := Option.some.inj h
      exact ⟨by rw [seqIndex_of h0 h1, e], by omega, by omega, h1⟩
    · rw [if_neg h1] at h; cases h
  · rw [if_neg h0] at h
    by_cases h1 : -(n : Int) ≤ i
    · rw [if_pos h1] at h
      have e : (i + n).toNat = j := Option.some.inj h
      exact ⟨by rw [seqIndex_neg (by omega) h1, e], by omega, h1, by omega⟩
    · rw [if_neg h1] at h; cases h
theorem atI_get {α : Type} {xs : List α} {i : Int} {v : α} (h : atI xs i = some v) : ∃ j, seqIndex? i xs.length = some j ∧ xs[j]? = some v ∧ j < xs.length ∧ -(xs.length : Int) ≤ i ∧ i < xs.length := by
  unfold atI at h
  cases e : ixN xs.length i with
  | none => rw [e] at h; cases h
  | some j =>
    rw [e] at h
    obtain ⟨h1, h2, h3, h4⟩ := ixN_seq e
    exact ⟨j, h1, h, h2, h3, h4⟩
theorem atI_nat {α : Type} {xs : List α} {j : Nat} {v : α} (h : xs[j]? = some v) : atI xs (j : Int) = some v := by
  have hj : j < xs.length := (List.getElem?_eq_some_iff.mp h).1
  have e : ixN xs.length (j : Int) = some j := by
    unfold ixN
    rw [if_pos (by omega), if_pos (by omega)]; simp
  unfold atI; rw [e]; exact h
/-- what stands as an index of a plain subscript -/
def PlainIx (b : Expr) : Prop := ∀ o i, subscripted b false o i = operate [o, i] (getItem o i)
/-- a subscript by values -/
def IxR (X : Cx) (r : R2) : Prop :=
  ∀ (value slice : Expr) (pins : List (Addr × Obj)) (s : Shared) (σ : St) (H : Hp) (x y : V) (v u : Value) (Q : VK), Inv X pins σ H s → RelV x v → RelV y u → r x y H Q →
    subscripted slice false v u = operate [v, u] (getItem v u) → wpAny (model X.prog X.w) X.A (subscriptTail value slice v u) (EP X pins σ Q) X.xe s
/-- a call of a builtin's method by values: the receiver, the arguments -/
def MtR (X : Cx) (id : String) (r : V → List V → Hp → VK → Prop) : Prop :=
  ∀ (pins : List (Addr × Obj)) (s : Shared) (σ : St) (H : Hp) (x : V) (xs : List V) (v : Value) (us : List Value) (Q : VK), Inv X pins σ H s → RelV x v → Vals xs us → r x xs H Q →
    wpAny (model X.prog X.w) X.A (call (.builtin id) (v :: us)) (EP X pins σ Q) X.xe s
section
variable {X : Cx} {a b : Expr} {ta tb : TE} {pos : Pos}
theorem IxR.or {r r' : R2} (h : IxR X r) (h' : IxR X r') : IxR X (fun x y H Q => r x y H Q ∨ r' x y H Q) := by
  intro value slice pins s σ H x y v u Q I rx ry q hs
  rcases q with q | q
  · exact h value slice pins s σ H x y v u Q I rx ry q hs
  · exact h' value slice pins s σ H x y v u Q I rx ry q hs
theorem MtR.or {id : String} {r r' : V → List V → Hp → VK → Prop} (h : MtR X id r) (h' : MtR X id r') : MtR X id (fun x xs H Q => r x xs H Q ∨ r' x xs H Q) := by
  intro pins s σ H x xs v us Q I rx rs q
  rcases q with q | q
  · exact h pins s σ H x xs v us Q I rx rs q
  · exact h' pins s σ H x xs v us Q I rx rs q
/-- a[b] -/
theorem pe_ix {r : R2} (hr : IxR X r) (ha : PE X a ta) (hb : PE X b tb) (hs : PlainIx b) : PE X (.Subscript a b pos) (tOp r ta tb) := by
  intro pins s σ H Q I h
  exact Subscript_ (binT ha hb I h fun v u s2 x y H2 I2 rx ry q => hr a b pins s2 σ H2 x y v u Q I2 rx ry q (hs _ _))

def rIxL (K : PySem.W.Frag) : R2 := fun x y H Q => ∃ p xs i v, x = .ref p ∧ y = .int i ∧ SqL K H p xs ∧ atI xs i = some v ∧ Q v H
def rIxT (K : PySem.W.Frag) : R2 := fun x y H Q => ∃ p xs i v, x = .ref p ∧ y = .int i ∧ SqT K H p xs ∧ atI xs i = some v ∧ Q v H
def rIxS : R2 := fun x y H Q => ∃ z i c, x = .str z ∧ y = .int i ∧ z.length ≤ sizeLine ∧ atI z.cps.toList i = some c ∧ Q (.str ⟨#[c]⟩) H
theorem ix_list : IxR X (rIxL X.K) := by
  intro value slice pins s σ H x y v u Q I rx ry h hs
  obtain ⟨p, xs, i, z, rfl, rfl, hq, he, q⟩ := h
  cases rx
  obtain ⟨t, rfl⟩ := ry
  obtain ⟨its, r, pl, hz⟩ := I.list hq
  obtain ⟨j, h1, h2, h3, h4, h5⟩ := atI_get he
  obtain ⟨w, ew, rw'⟩ := r.get h2
  have hl := r.length
  have hn := line63
  have fin : EP X pins σ Q w s := ⟨z, H, I, rw', q⟩
  by_cases h0 : 0 ≤ i
  · have hj : i.toNat = j := by
      rw [seqIndex_of h0 h5] at h1
      exact Option.some.inj h1
    exact item_listR pl.isList h0 (by omega) (by rw [hj]; simpa using ew) fin hs
  · have hj : (i + (its.toArray.size : Int)).toNat = j := by
      rw [seqIndex_neg (by omega) h4] at h1
      rw [List.size_toArray, ← hl]
      exact Option.some.inj h1
    exact subscriptTail_builtinR (x := w) pl.isList.typeIs slot_list_getitem.lookup
      (wpAny_getItem_list_neg (Q := fun r s' => r = w ∧ EP X pins σ Q r s') pl.isList (by omega) (by rw [List.size_toArray] <;> omega) (by omega) (by rw [hj]; simpa using ew) ⟨rfl, fin⟩) hs
theorem ix_tup : IxR X (rIxT X.K) := by
  intro value slice pins s σ H x y v u Q I rx ry h hs
  obtain ⟨p, xs, i, z, rfl, rfl, hq, he, q⟩ := h
  cases rx
  obtain ⟨t, rfl⟩ := ry
  obtain ⟨its, r, pl, hz⟩ := I.tuple hq
  obtain ⟨j, h1, h2, h3, h4, h5⟩ := atI_get he
  obtain ⟨w, ew, rw'⟩ := r.get h2
  have hl := r.length
  have hn := line63
  have fin : EP X pins σ Q w s := ⟨z, H, I, rw', q⟩
  exact subscriptTail_builtinR (x := w) pl.typeIs slot_tuple_getitem.lookup
    (getItem_tuple (j := j) (Q := fun r s' => r = w ∧ EP X pins σ Q r s') pl (by omega) (by omega) (by rw [List.size_toArray, ← hl]; exact h1) (by simpa using ew) ⟨rfl, fin⟩) hs
theorem ix_str : IxR X rIxS := by
  intro value slice pins s σ H x y v u Q I rx ry h hs
  obtain ⟨z, i, c, rfl, rfl, hz, he, q⟩ := h
  obtain ⟨t, rfl⟩ := rx
  obtain ⟨t', rfl⟩ := ry
  obtain ⟨j, h1, h2, h3, h4, h5⟩ := atI_get he
  have hl : z.cps.toList.length = z.length := by simp [Str.length]
  rw [hl] at h1 h4 h5
  have hn := line63
  exact tail_any (typeIs_str s z t) slot_str_getitem.lookup (getItem_str (c := c) (by
    have e1 : decide (i < -(2 ^ 63 : Int)) = false := decide_eq_false (by omega)
    have e2 : decide (i ≥ 2 ^ 63) = false := decide_eq_false (by omega)
    rw [e1, e2, Bool.or_false]) (by rw [h1]; simpa using h2) ⟨.str ⟨#[c]⟩, H, I.tok _, ⟨_, rfl⟩, q⟩) hs
/-- the list's object behind a store -/
theorem mapSeq_set (its : List Value) (n j : Nat) (u : Value) : Obj.mapSeq (·.setIfInBounds j u) { cls := .type "list", data := .seq its.toArray n } = { cls := .type "list", data := .seq (its.set j u).toArray n } := by
  simp [Obj.mapSeq]
theorem Inv.lst {pins : List (Addr × Obj)} {σ : St} {H : Hp} {s : Shared} {p : Addr} {xs : List V} (I : Inv X pins σ H s) (h : H p = some (.lst xs)) :
    ∃ (its : List Value) (n : Nat), Vals xs its ∧ s.heap.get? p = some { cls := .type "list", data := .seq its.toArray n } ∧ xs.length ≤ sizeLine := by
  obtain ⟨z, its, n, r, e⟩ := I.hok p _ h
  exact ⟨its, n, r, e, z⟩
/-- the list at p is written by an update of its object -/
theorem Inv.lstUpd {pins : List (Addr × Obj)} {σ : St} {H : Hp} {s : Shared} {p : Addr} {xs ys : List V} {its its' : List Value} {n n' : Nat} {f : Obj → Obj} (I : Inv X pins σ H s) (h : H p = some (.lst xs))
    (ho : s.heap.get? p = some { cls := .type "list", data := .seq its.toArray n }) (hf : f { cls := .type "list", data := .seq its.toArray n } = { cls := .type "list", data := .seq its'.toArray n' }) (r : Vals ys its') (hz : ys.length ≤ sizeLine) (t : Nat) :
    Inv X pins σ (upd H p (.lst ys)) { s with heap := s.heap.update p f, toks := t } := by
  have e : (s.heap.update p f).get? p = some { cls := .type "list", data := .seq its'.toArray n' } := by
    rw [Heap.get?_update_self f ho (by rw [hf] <;> rfl), hf]
  refine I.write (x := p) (e := p) (by rw [h]; trivial) (.inl rfl) (fun b u hb q => (Heap.get?_update_other _ _ (Ne.symm hb)).trans q) ⟨_, e⟩ ?_
  exact ⟨hz, its', n', r, e⟩
def rSetL : V → V → V → Hp → (Hp → Prop) → Prop := fun o i v H Q => ∃ p xs k j, o = .ref p ∧ i = .int k ∧ H p = some (.lst xs) ∧ ixN xs.length k = some j ∧ Q (upd H p (.lst (xs.set j v)))
theorem set_list : PSet X rSetL := by
  intro pins s σ H o i v ov iv u Q I ro ri rv h
  obtain ⟨p, xs, k, j, rfl, rfl, hp, hj, q⟩ := h
  cases ro
  obtain ⟨t, rfl⟩ := ri
  obtain ⟨its, n, r, ho, hz⟩ := I.lst hp
  obtain ⟨h1, h2, h3, h4⟩ := ixN_seq hj
  have hl := r.length
  have hn := line63
  have I' : Inv X pins σ (upd H p (.lst (xs.set j v))) { s with heap := s.heap.update p (Obj.mapSeq (·.setIfInBounds j u)) } :=
    I.lstUpd hp ho (mapSeq_set its n j u) (r.set rv j) (by rw [List.length_set]; exact hz) s.toks
  by_cases h0 : 0 ≤ k
  · have hk : k.toNat = j := by
      rw [seqIndex_of h0 h4] at h1
      exact Option.some.inj h1
    exact PySem.W.ki_setAt ho h0 (by omega) (by rw [List.size_toArray, ← hl]; exact h4) (by rw [hk]; exact ⟨_, I', q⟩)
  · have hk : (k + (its.toArray.size : Int)).toNat = j := by
      rw [seqIndex_neg (by omega) h3] at h1
      rw [List.size_toArray, ← hl]
      exact Option.some.inj h1
    exact PySem.W.ki_setBack ho (by omega) (by rw [List.size_toArray, ← hl]; exact h3) (by omega) (by rw [hk]; exact ⟨_, I', q⟩)

theorem slice_bounds (lo hi : Option Int) (n : Nat) : (sliceBounds lo hi none n).1 = ((HT.sIx n 0 lo : Nat) : Int) ∧ (sliceBounds lo hi none n).2.1 = ((HT.sIx n n hi : Nat) : Int) ∧ (sliceBounds lo hi none n).2.2 = 1 := by
  refine ⟨?_, ?_, rfl⟩
  · cases lo with
    | none => simp [sliceBounds, HT.sIx]
    | some i =>
      simp only [sliceBounds, HT.sIx, Option.getD_none, show (1 : Int) > 0 by decide, if_true]
      by_cases h : i < 0
      · simp only [h, if_true] <;> omega
      · simp only [h, if_false] <;> omega
  · cases hi with
    | none => simp [sliceBounds, HT.sIx]
    | some i =>
      simp only [sliceBounds, HT.sIx, Option.getD_none, show (1 : Int) > 0 by decide, if_true]
      by_cases h : i < 0
      · simp only [h, if_true] <;> omega
      · simp only [h, if_false] <;> omega
theorem slicePick_cut (its : List Value) (lo hi : Option Int) : slicePick its.toArray lo hi none = ((its.drop (HT.sIx its.length 0 lo)).take (HT.sIx its.length its.length hi - HT.sIx its.length 0 lo)).toArray := by
  obtain ⟨h1, h2, h3⟩ := slice_bounds lo hi its.toArray.size
  unfold slicePick
  rw [h1, h2, h3]
  simp only [sliceRange_one, pick_run, List.size_toArray] <;> rfl
/-- xs[lo:hi] of a list: a new list -/
def rSlL (K : PySem.W.Frag) : V → Option Int → Option Int → Hp → VK → Prop := fun x lo hi H Q => ∃ a xs, x = .ref a ∧ SqL K H a xs ∧ ∀ p, H p = none → Q (.ref p) (upd H p (.lst (cutV xs lo hi)))
theorem sl_list : SlR X (rSlL X.K) := by
  intro pins s σ H x v vl vu lo hi sl Q I rx hs pl pu h
  obtain ⟨a, xs, rfl, hx, q⟩ := h
  cases rx
  obtain ⟨its, r, ht, hz⟩ := I.list hx
  have hlen := r.length
  refine ⟨"list", _, slot_list_getitem.lookup, ht.isList.typeIs, ?_⟩
  refine wpAny_getItem_list_slice ht.isList hs pl pu .none (by simp) ?_ (by rw [List.size_toArray] <;> omega)
  rw [slicePick_cut, ← hlen]
  refine ⟨.ref s.heap.objs.size, _, I.laid (t' := s.toks) (o := .lst (cutV xs lo hi)) (fun b ob q => Heap.get?_push_of_some _ q) (Nat.le_refl _) ?_, rfl, q _ (I.hok.fresh (Nat.le_refl _))⟩
  exact ⟨Nat.le_trans (cutV_length xs lo hi) hz, _, 0, (r.drop (HT.sIx xs.length 0 lo)).take (HT.sIx xs.length xs.length hi - HT.sIx xs.length 0 lo), Heap.get?_push_size _ rfl⟩

def flatV : V → Bool
  | .non => true
  | .bl _ => true
  | .int _ => true
  | .str _ => true
  | _ => false
/-- == of flat values -/
def eqV : V → V → Bool
  | .non, .non => true
  | .bl a, .bl b => a == b
  | .bl a, .int b => (if a then 1 else 0) == b
  | .int a, .bl b => a == (if b then 1 else 0)
  | .int a, .int b => a == b
  | .str a, .str b => a == b
  | _, _ => false
theorem eqAt_V {A : Around} {s : Shared} {y x : V} {u v : Value} (ry : RelV y u) (rx : RelV x v) (fy : flatV y = true) (fx : flatV x = true) : SeqAt.EqAt A s u v (eqV y x) := by
  cases y with
  | non =>
    cases ry
    cases x with
    | non => cases rx; exact SeqAt.EqAt.same _
    | bl b => cases rx; exact SeqAt.EqAt.none_bool b
    | int b => obtain ⟨t, rfl⟩ := rx; exact SeqAt.EqAt.none_int b t
    | str b => obtain ⟨t, rfl⟩ := rx; exact SeqAt.EqAt.none_str b t
    | _ => exact absurd (show false = true from fx) Bool.false_ne_true
  | bl a =>
    cases ry
    cases x with
    | non => cases rx; exact SeqAt.EqAt.bool_none a
    | bl b => cases rx; exact SeqAt.EqAt.bool_bool a b
    | int b => obtain ⟨t, rfl⟩ := rx; exact SeqAt.EqAt.bool_int a b t
    | str b => obtain ⟨t, rfl⟩ := rx; exact SeqAt.EqAt.bool_str a b t
    | _ => exact absurd (show false = true from fx) Bool.false_ne_true
  | int a =>
    obtain ⟨t', rfl⟩ := ry
    cases x with
    | non => cases rx; exact SeqAt.EqAt.int_none a t'
    | bl b => cases rx; exact SeqAt.EqAt.int_bool a t' b
    | int b => obtain ⟨t, rfl⟩ := rx; exact SeqAt.EqAt.int_int a t' b t
    | str b => obtain ⟨t, rfl⟩ := rx; exact SeqAt.EqAt.int_str a t' b t
    | _ => exact absurd (show false = true from fx) Bool.false_ne_true
  | str a =>
    obtain ⟨t', rfl⟩ := ry
    cases x with
    | non => cases rx; exact SeqAt.EqAt.str_none a t'
    | bl b => cases rx; exact SeqAt.EqAt.str_bool a t' b
    | int b => obtain ⟨t, rfl⟩ := rx; exact SeqAt.EqAt.str_int a t' b t
    | str b => obtain ⟨t, rfl⟩ := rx; exact SeqAt.EqAt.str_str a t' b t
    | _ => exact absurd (show false = true from fx) Bool.false_ne_true
  | _ => exact absurd (show false = true from fy) Bool.false_ne_true
theorem call_len_seq : CallR X (.builtin "len") (fun xs H Q => ∃ p ys, xs = [.ref p] ∧ (SqL X.K H p ys ∨ SqT X.K H p ys) ∧ Q (.int ys.length) H) := by
  intro pins s σ H xs us Q I r h
  obtain ⟨p, ys, rfl, hq, q⟩ := h
  obtain ⟨u, rfl, rx⟩ := vals1 r
  cases rx
  have hn := line63
  rcases hq with hq | hq
  · obtain ⟨its, r', pl, hz⟩ := I.list hq
    have hlen := r'.length
    exact Calls.call_len_list pl.isList (by simp only [List.size_toArray] <;> omega) ⟨.int ys.length, H, I.tok _, ⟨s.toks + 1, by rw [List.size_toArray, hlen]⟩, q⟩
  · obtain ⟨its, r', pl, hz⟩ := I.tuple hq
    have hlen := r'.length
    exact len_tuple pl (by simp only [List.size_toArray] <;> omega) ⟨.int ys.length, H, I.tok _, ⟨s.toks + 1, by rw [List.size_toArray, hlen]⟩, q⟩
theorem call_len_str : CallR X (.builtin "len") (fun xs H Q => ∃ z, xs = [.str z] ∧ z.length ≤ sizeLine ∧ Q (.int z.length) H) := by
  intro pins s σ H xs us Q I r h
  obtain ⟨z, rfl, hz, q⟩ := h
  obtain ⟨u, rfl, t, rfl⟩ := vals1 r
  have hn := line63
  exact len_str (by omega) ⟨.int z.length, H, I.tok _, ⟨_, rfl⟩, q⟩
theorem CallR.or {f : Value} {r r' : List V → Hp → VK → Prop} (h : CallR X f r) (h' : CallR X f r') : CallR X f (fun xs H Q => r xs H Q ∨ r' xs H Q) := by
  intro pins s σ H xs us Q I rs q
  rcases q with q | q
  · exact h pins s σ H xs us Q I rs q
  · exact h' pins s σ H xs us Q I rs q
theorem call_list_of : CallR X (.type "list") (fun xs H Q => ∃ p ys, xs = [.ref p] ∧ (SqL X.K H p ys ∨ SqT X.K H p ys) ∧ ∀ l, H l = none → Q (.ref l) (upd H l (.lst ys))) := by
  intro pins s σ H xs us Q I r h
  obtain ⟨p, ys, rfl, hq, q⟩ := h
  obtain ⟨u, rfl, rx⟩ := vals1 r
  cases rx
  have fin : ∀ (its : List Value), Vals ys its → ys.length ≤ sizeLine → ∀ (h' : Heap) (c' : Nat), (∀ b o', s.heap.get? b = some o' → h'.get? b = some o') →
      h'.get? s.heap.objs.size = some { cls := .type "list", dict := none, data := .seq its.toArray c', slots := #[] } → EP X pins σ Q (.ref s.heap.objs.size) { s with heap := h' } := fun its r' hz h' c' kp e =>
    ⟨.ref s.heap.objs.size, _, I.laid (t' := s.toks) kp (Nat.le_refl _) (show ObjOk X.prog X.w _ h' _ (.lst ys) from ⟨hz, its, c', r', e⟩), rfl, q _ (I.hok.fresh (Nat.le_refl _))⟩
  rcases hq with hq | hq
  · obtain ⟨its, r', pl, hz⟩ := I.list hq
    have hlen := r'.length
    obtain ⟨o, ho, hc, n, hd⟩ := pl.isList
    exact call_list_seq p (.inl rfl) ho hc hd (fun h' c' kp e => fin its r' hz h' c' kp e) (by simp only [List.size_toArray] <;> omega)
  · obtain ⟨its, r', pl, hz⟩ := I.tuple hq
    have hlen := r'.length
    obtain ⟨o, ho, hc, n, hd⟩ := pl
    exact call_list_seq p (.inr rfl) ho hc hd (fun h' c' kp e => fin its r' hz h' c' kp e) (by simp only [List.size_toArray] <;> omega)
theorem call_tuple_of : CallR X (.type "tuple") (fun xs H Q => ∃ p ys, xs = [.ref p] ∧ ((SqL X.K H p ys ∧ ∀ l, H l = none → Q (.ref l) (upd H l (.tup ys))) ∨ (SqT X.K H p ys ∧ Q (.ref p) H))) := by
  intro pins s σ H xs us Q I r h
  obtain ⟨p, ys, rfl, h⟩ := h
  obtain ⟨u, rfl, rx⟩ := vals1 r
  cases rx
  rcases h with ⟨hq, q⟩ | ⟨hq, q⟩
  · obtain ⟨its, r', pl, hz⟩ := I.list hq
    have hlen := r'.length
    refine call_tuple_list pl.isList (fun h' kp => ?_) (by simp only [List.size_toArray] <;> omega)
    have I1 : Inv X pins σ H { s with heap := h' } := I.kept (t' := s.toks) kp
    have I2 : Inv X pins σ (upd H h'.objs.size (.tup ys)) { s with heap := h'.push { cls := .type "tuple", data := .seq its.toArray } } :=
      I1.laid (t' := s.toks) (fun b o e => Heap.get?_push_of_some _ e) (Nat.le_refl _) (show ObjOk X.prog X.w _ _ _ (.tup ys) from ⟨hz, its, r', IsTup.new _ _⟩)
    exact ⟨.ref h'.objs.size, _, I2, rfl, q _ (I1.hok.fresh (Nat.le_refl _))⟩
  · obtain ⟨its, r', pl, hz⟩ := I.tuple hq
    exact call_tuple_same pl ⟨.ref p, H, I, rfl, q⟩

/-- the value is of that builtin type -/
def tyV (K : PySem.W.Frag) (T : String) (x : V) (H : Hp) : Prop := match x with
  | .str _ => T = "str"
  | .int _ => T = "int"
  | .ref p => (T = "list" ∧ ∃ xs, SqL K H p xs) ∨ (T = "tuple" ∧ ∃ o, K.lookup p = some o ∧ o.cls = .type "tuple" ∧ o.dict = none) ∨
      (T = "dict" ∧ ((∃ kvs, H p = some (.dK kvs)) ∨ ∃ kvs, H p = some (.dT kvs))) ∨ (T = "set" ∧ ∃ S n, H p = some (.set S n))
  | _ => False
theorem tyV_is {pins : List (Addr × Obj)} {σ : St} {H : Hp} {s : Shared} {T : String} {x : V} {v : Value} (I : Inv X pins σ H s) (r : RelV x v) (ty : tyV X.K T x H) :
    s.TypeIs v T ∧ ∀ a, v = .ref a → ∃ ob, s.heap.get? a = some ob ∧ ob.dict = none := by
  cases x with
  | str z =>
    obtain ⟨t, rfl⟩ := r
    cases (show T = "str" from ty)
    exact ⟨typeIs_str s z t, fun _ e => nomatch e⟩
  | int i =>
    obtain ⟨t, rfl⟩ := r
    cases (show T = "int" from ty)
    exact ⟨typeIs_int s i t, fun _ e => nomatch e⟩
  | ref p =>
    cases r
    rcases ty with ⟨rfl, xs, hq⟩ | ⟨rfl, o, hk, hc, hd⟩ | ⟨rfl, hk⟩ | ⟨rfl, S, n, hk⟩
    · obtain ⟨its, _, pl, _⟩ := I.list hq
      refine ⟨pl.isList.typeIs, fun a e => ?_⟩
      cases e
      obtain ⟨o, n, e, c, hd, _⟩ := pl
      exact ⟨o, e, hd⟩
    · refine ⟨⟨o, I.kIn p o hk, hc⟩, fun a e => ?_⟩
      cases e
      exact ⟨o, I.kIn _ o hk, hd⟩
    · have z : ∃ o, s.heap.get? p = some o ∧ o.ExactDict := by
        rcases hk with ⟨kvs, hk⟩ | ⟨kvs, hk⟩
        · obtain ⟨_, _, _, _, o, _, _, e, ex, _⟩ := I.hok p _ hk
          exact ⟨o, e, ex⟩
        · obtain ⟨_, _, _, _, o, _, _, e, ex, _⟩ := I.hok p _ hk
          exact ⟨o, e, ex⟩
      obtain ⟨o, e, ex⟩ := z
      refine ⟨⟨o, e, ex.1⟩, fun a e2 => ?_⟩
      cases e2
      exact ⟨o, e, ex.2.1⟩
    · obtain ⟨o, _, _, _, e, ex, _⟩ := I.hok p _ hk
      refine ⟨⟨o, e, ex.1⟩, fun a e2 => ?_⟩
      cases e2
      exact ⟨o, e, ex.2.1⟩
  | _ => exact False.elim ty
def tBM0 (K : PySem.W.Frag) (T : String) (r : V → List V → Hp → VK → Prop) (to : TE) : TE := fun σ H Q => to σ H fun x H1 => tyV K T x H1 ∧ r x [] H1 Q
def tBM (K : PySem.W.Frag) (T : String) (r : V → List V → Hp → VK → Prop) (to : TE) (t : TA) : TE := fun σ H Q => to σ H fun x H1 => tyV K T x H1 ∧ t σ H1 fun xs H2 => r x xs H2 Q
variable {o e : Expr} {es : List Expr} {to : TE} {t : TA} {name : Str} {apos cpos : Pos} {T id : String} {r : V → List V → Hp → VK → Prop}
theorem pe_bm (pa : PlainAttrs T) (slot : Slot T name id) (hty : typeOf (.builtin id) = pure (.type "method_descriptor")) (hm : MtR X id r) (ho : PE X o to) (ha : PA X (e :: es) t)
    (hbase : attributeBase o name X.env (eval o X.env) = eval o X.env := by rfl)
    (hfew : ((backTo cpos (starEach (e :: es) X.env)).all (fun x => !x.1) && (backToKw cpos (keywordEach [] X.env)).all (fun x => x.1.isSome)
      && decide ((e :: es).length + ([] : List Keyword).length + (if ([] : List Keyword).isEmpty then 0 else 1) < 30)) = true := by rfl)
    (hline : (apos.endLine == cpos.line) = true := by rfl) (hs : starEach (e :: es) X.env = (false, eval e X.env) :: starEach es X.env := by rfl) (hplain : (backTo cpos (starEach es X.env)).any (·.1) = false := by rfl) :
    PE X (.Call (.Attribute o name apos) (e :: es) [] cpos) (tBM X.K T r to t) := by
  intro pins s σ H Q I h
  refine wpAny_Call_method_late hbase hfew hline rfl (thn (ho pins s σ H _ I h) fun v s1 ⟨x, H1, I1, r1, ty, q1⟩ => ?_)
  obtain ⟨h1, h2⟩ := tyV_is I1 r1 ty
  refine ⟨T, id, pa, slot, hty, h1, h2, ?_⟩
  have hA := ha cpos pins s1 σ H1 _ I1 q1
  rw [hs] at hA ⊢
  refine Calls.callWith_builtin (by show (false || (backTo cpos (starEach es X.env)).any (·.1)) = false; rw [hplain] <;> rfl) (Calls.evalArgs_plain ?_)
  exact thn hA fun us s2 ⟨vs, H2, I2, r2, q2⟩ => hm pins s2 σ H2 x vs v us Q I2 r1 r2 q2
end
end L2

namespace L2
open PySem PySem.Spec PyProof.Rows

def MtM (X : Cx) (id : String) (r : V → List V → Hp → VK → Prop) : Prop :=
  ∀ (pins : List (Addr × Obj)) (s : Shared) (σ : St) (H : Hp) (x : V) (xs : List V) (v : Value) (us : List Value) (Q : VK), Inv X pins σ H s → RelV x v → Vals xs us → r x xs H Q →
    wpAny (model X.prog X.w) X.A (call (.builtin id) (v :: us)) (EP X pins σ Q) X.xe s

theorem Vals.one : ∀ {x : V} {us : List Value}, Vals [x] us → ∃ u, us = [u] ∧ RelV x u
  | _, _, .cons r .nil => ⟨_, rfl, r⟩
theorem Vals.two : ∀ {x y : V} {us : List Value}, Vals [x, y] us → ∃ u v, us = [u, v] ∧ RelV x u ∧ RelV y v
  | _, _, _, .cons r (.cons q .nil) => ⟨_, _, rfl, r, q⟩
theorem Vals.zero : ∀ {us : List Value}, Vals [] us → us = []
  | _, .nil => rfl
section
variable {X : Cx} {pins : List (Addr × Obj)} {σ : St} {H : Hp} {s : Shared} {l b : Addr} {xs ys zs : List V}

theorem Inv.lset {its its' : List Value} {n : Nat} {f : Array Value → Array Value} {t' : Nat} (I : Inv X pins σ H s) (hH : H l = some (.lst xs))
    (e : s.heap.get? l = some { cls := .type "list", data := .seq its.toArray n }) (hf : f its.toArray = its'.toArray) (hv : Vals ys its') (hz : ys.length ≤ sizeLine) :
    Inv X pins σ (upd H l (.lst ys)) { s with heap := s.heap.update l (Obj.mapSeq f), toks := t' } := by
  have q := PySem.IsL.update e f
  rw [hf] at q
  refine I.write (x := l) (e := l) (by rw [hH]; exact trivial) (.inl rfl) (fun b' u hb hu => (Heap.get?_update_other s.heap (Obj.mapSeq f) (Ne.symm hb)).trans hu) ⟨_, q⟩ ?_
  exact ⟨hz, its', _, hv, q⟩
theorem Inv.lnew {its : List Value} {t' : Nat} (I : Inv X pins σ H s) (hv : Vals ys its) (hz : ys.length ≤ sizeLine) :
    Inv X pins σ (upd H s.heap.objs.size (.lst ys)) { s with heap := s.heap.push { cls := .type "list", data := .seq its.toArray }, toks := t' } :=
  I.laid (fun _ _ q => Heap.get?_push_of_some _ q) (Nat.le_refl _) ⟨hz, its, 0, hv, Heap.get?_push_size _ rfl⟩
theorem Inv.fresh (I : Inv X pins σ H s) : H s.heap.objs.size = none := I.hok.fresh (Nat.le_refl _)
theorem Inv.lstM (I : Inv X pins σ H s) (hH : H l = some (.lst xs)) : xs.length ≤ sizeLine ∧ ∃ (its : List Value) (n : Nat), Vals xs its ∧ xs.length = its.length ∧ s.heap.get? l = some { cls := .type "list", data := .seq its.toArray n } := by
  obtain ⟨z, its, n, r, e⟩ := I.hok l _ hH
  exact ⟨z, its, n, r, r.length, e⟩

end

section
variable {X : Cx}

def rAppend : V → List V → Hp → VK → Prop := fun x vs H Q => ∃ l xs y, x = .ref l ∧ vs = [y] ∧ H l = some (.lst xs) ∧ xs.length < sizeLine ∧ Q .non (upd H l (.lst (xs ++ [y])))
theorem mt_append : MtM X "list.append" rAppend := by
  intro pins s σ H x vs v us Q I rx rv h
  obtain ⟨l, xs, y, rfl, rfl, hH, hz, q⟩ := h
  cases rx
  obtain ⟨u, rfl, ru⟩ := rv.one
  obtain ⟨z, its, n, r, hl, e⟩ := I.lstM hH
  refine call_meets F.slot_list_append ⟨_, e, rfl⟩ F.entry_list_append (F.args_list_append_2 _ _) (PySem.list_append l its.toArray n u (by rw [List.size_toArray]; omega)) ⟨e, ?_⟩
  refine ⟨.non, _, I.lset (its' := its ++ [u]) hH e (by simp) (r.append (.cons ru .nil)) ?_, rfl, q⟩
  rw [List.length_append, List.length_singleton]
  omega

def rCat : R2 := fun x y H Q => ∃ l b xs zs, x = .ref l ∧ y = .ref b ∧ H l = some (.lst xs) ∧ H b = some (.lst zs) ∧ xs.length + zs.length ≤ sizeLine ∧ ∀ p, H p = none → Q (.ref p) (upd H p (.lst (xs ++ zs)))
theorem op_cat : OpR X (binaryOp .Add) rCat := by
  intro pins s σ H x y v u Q I rx ry h
  obtain ⟨l, b, xs, zs, rfl, rfl, hH, hB, hz, q⟩ := h
  cases rx
  cases ry
  obtain ⟨z, its, n, r, hl, e⟩ := I.lstM hH
  obtain ⟨z2, its2, n2, r2, hl2, e2⟩ := I.lstM hB
  refine PySem.P.add_list e e2 ?_ (by rw [List.size_toArray, List.size_toArray]; omega)
  have ea : its.toArray ++ its2.toArray = (its ++ its2).toArray := by simp
  rw [ea]
  exact ⟨.ref _, _, I.lnew (t' := s.toks) (r.append r2) (by rw [List.length_append]; omega), rfl, q _ I.fresh⟩
end

section
variable {prog : Program} {w : World} {A : Around} {E : Value → Shared → Prop} {s : Shared}
end

section
variable {X : Cx}
end
end L2

namespace Att
open PySem PySem.W PySem.Calls PyProof.Rows

theorem ints_of_wellAll {P : Params} {h : Heap} : ∀ (ns : List Int) (vs : List Value), WellAll P h vs (ns.map WData.int) → IntsAre vs ns := by
  intro ns
  induction ns with
  | nil =>
    intro vs w
    rw [List.map_nil] at w
    cases w
    exact .nil
  | cons n ns ih =>
    intro vs w
    rw [List.map_cons] at w
    cases w with
    | cons a b =>
      cases a
      exact .cons _ _ (ih _ b)

theorem script_of {l : OpenLaw} {n : Nat} (hn : l.most = some n) {P : Params} {h : Heap} {args : List WData} {vals : List Value}
    (hpre : l.row.toRowW.claim.pre args = true) (hwl : WellAll P h vals args) :
    ∃ a vs ns, vals = [Value.ref a] ∧ args = [WData.list (ns.map WData.int)] ∧ h.get? a = some { cls := .type "list", data := .seq vs.toArray } ∧ IntsAre vs ns ∧ ns.length ≤ n := by
  have hsh : WShape.hasAll [] args [.list .int] = true := (pre_splitW hpre).1
  have hc : l.pre.holds [] { args := args } = true := (pre_splitW hpre).2
  obtain ⟨d, r, rfl, h1, h2⟩ := hasAllW_cons hsh
  obtain rfl := hasAllW_nil h2
  obtain ⟨xs, rfl, h3⟩ := hasW_list h1
  obtain ⟨ns, rfl⟩ := items_int h3
  have hlen : ns.length ≤ n := by
    unfold OpenLaw.pre at hc
    have h4 : (WTm.not (.lt (.lit (.int (n : Int))) (.len (.arg 0)))).holds [] { args := [.list (ns.map .int)] } = true := by
      have h4 := (holds_andW hc).1
      rw [hn] at h4
      exact h4
    have h5 := condW_of h4 (w_not (w_lt w_lit (w_len_list (w_arg rfl))))
    rw [List.length_map] at h5
    refine Nat.le_of_not_lt fun q => ?_
    have q' : (n : Int) < ((ns.length : Nat) : Int) := by omega
    first
      | (rw [decide_eq_true q'] at h5; exact absurd h5 (by decide))
      | (simp at h5; omega)
  cases hwl with
  | cons w1 w2 =>
    cases w2
    cases w1 with
    | list ho hall => exact ⟨_, _, ns, rfl, rfl, ho, ints_of_wellAll ns _ hall, hlen⟩

theorem post_true (l : OpenLaw) (args : List WData) : l.row.toRowW.claim.post args (.bool true) args = true :=
  postW_of (r := l.row.toRowW) (X := (true == true))
    (show WShape.has [] (.bool true) .bool = true by first | rfl | decide | simp [WShape.has, WShape.arms, WShape.armsAll])
    (show (WTm.eq .res (.lit (.bool true))).value [] { args := args, res := some (.bool true), after := args } = some (.bool (true == true)) from w_eq_bool (w_res rfl) w_lit) rfl

/-- the same from a codeAny of the CALL (for a layer whose function contracts speak of calls) -/
theorem attach_call {l : OpenLaw} {n : Nat} {q : Program} {loose : List Str} {XP : (Str → Option Value) → Heap → Prop} {YP : World → Heap → Prop} {d : DefRec}
    (hn : l.most = some n) (hdf : d.params.defaults = [])
    (call : ∀ (w : World) (s₀ s₁ : Shared) (mg mb : Str → Option Value) (fa : Addr) (o : Obj) (pm cd doc : Value) (a : Addr) (vs : List Value) (ns : List Int),
      Ground q loose [] XP w s₀ mg mb s₁.heap → YP w s₁.heap →
      s₁.heap.get? fa = some o → o.data = .func (docDef d.name d.params d.body d.scope pm cd doc) → s₁.heap.CodeRec cd d.name → mg d.name = some (.ref fa) →
      s₁.heap.get? a = some { cls := .type "list", data := .seq vs.toArray } → IntsAre vs ns → ns.length ≤ n → s₁.gens = #[] →
      codeAny (model l.prog w) callerA (.call (.ref fa) ⟨[.ref a], []⟩) (fun r s' => r = .ok (.ret (.bool true)) ∧ OldK s₁.heap s'.heap ∧ s'.os = s₁.os ∧ AllBare s'.gens) s₁) :
    WalkO q loose XP YP l.row.toRowW d [] (fun f vs => PySem.call f vs) := by
  intro w s₀ s₁ mg mb G Y fa o pm cd doc dV kV ho hd hcd hD hmg hg args vals as hpre hlay hrd hwl hlo
  obtain rfl : dV = .none := Dflts.none hD hdf
  obtain rfl : kV = .none := Dflts.noKw hD
  obtain ⟨a, vs, ns, rfl, rfl, hobj, hints, hlen⟩ := script_of hn hpre hwl
  refine enter_call (codeAny_mono (call w s₀ s₁ mg mb fa o pm cd doc a vs ns G Y ho (fd_plain hd) hcd hmg hobj hints hlen hg) fun r s' hq => ?_)
  obtain ⟨rfl, h2, h3, h4⟩ := hq
  exact ⟨.inl ⟨.bool true, .bool true, [], rfl, fun _ => rfl, .bool true, post_true l _, fun _ => ⟨List.Pairwise.nil, fun _ hm => (nomatch hm)⟩⟩, h2, h3, h4⟩

section
variable {prog : Program} {w : World} {A : Around} {E : Value → Shared → Prop} {s : Shared} {K : Frag}

end
end Att

namespace L2
open PySem PySem.Spec PyProof.Rows

theorem vals_ints : ∀ {vs : List Value} {ns : List Int}, IntsAre vs ns → Vals (ns.map V.int) vs
  | _, _, .nil => .nil
  | _, _, .cons n t h => .cons ⟨t, rfl⟩ (vals_ints h)

/-- nothing is tracked but the script, known to the object (or it is an object of the module) -/
def Only (H : Hp) : Prop := ∀ b, H b = none ∨ ∃ o xs, H b = some (.frz o (.lst xs))

/-- THE HEAD: the law's promise, at the heap behind the top. F, the promise of the law's def, may use that base is part of the heap (so K.In base, base.Ns mainGlobals mg stand in Mod) -/
theorem law_call {P : Program} {w : World} {K : PySem.W.Frag} {mg mb : Str → Option Value} {CX : CXT} {k : Nat} {fa a : Addr} {fd : FuncData} {x : Str} {sp : Sp} {s₁ : Shared} {vs : List Value} {ns : List Int}
    (KX : K.In s₁.heap) (hns : s₁.heap.Ns mainGlobals mg) (hb : s₁.heap.Ns builtinsNs mb) (hbb : ∀ x : Str, x ≠ "__name__" → mb x = bootBuiltins x) (hlim : s₁.heap.NoLimit) (hg : s₁.gens = #[])
    (ha : s₁.heap.get? a = some { cls := .type "list", data := .seq vs.toArray }) (hi : IntsAre vs ns) (hl : ns.length ≤ sizeLine) (hr : Room k callerA)
    (F : ∀ base : Heap, K.In base → base.Ns mainGlobals mg → FnOk P w K mg base CX k fa fd [x] sp) (hbind : ∀ (s : Shared) (u : Value), BindsTo s fd ⟨[u], []⟩ [(x, u)])
    (hsp : ∀ H : Hp, Only H → SqL K H a (ns.map V.int) → sp [.ref a] H (fun v _ => v = .bl true) fun _ _ _ => False)
    (hCX : ∀ H e s', CX [] H s₁ (fun _ _ _ => False) e s' → False) :
    codeAny (model P w) callerA (.call (.ref fa) ⟨[.ref a], []⟩) (fun r s' => r = .ok (.ret (.bool true)) ∧ OldK s₁.heap s'.heap ∧ s'.os = s₁.os ∧ AllBare s'.gens) s₁ := by
  have rv := vals_ints hi
  have lenV := hi.length
  -- from an abstract heap in which nothing but the script may be tracked
  have core : ∀ H : Hp, Only H → SqL K H a (ns.map V.int) → HOk P w H s₁.heap → (∀ b, H b ≠ none → b = a) → (H a ≠ none → K.lookup a = none) →
      codeAny (model P w) callerA (.call (.ref fa) ⟨[.ref a], []⟩) (fun r s' => r = .ok (.ret (.bool true)) ∧ OldK s₁.heap s'.heap ∧ s'.os = s₁.os ∧ AllBare s'.gens) s₁ := by
    intro H hO hS hok hA hK
    have base_of : ∀ {b : Addr} {o : Obj}, s₁.heap.get? b = some o → H b = none → (hidT s₁.heap H).get? b = some o := fun e n => hidT_get e n
    have noA : ∀ {b : Addr} {o : Obj} {es : Array DictEntry} {ep : Nat}, s₁.heap.get? b = some o → o.data = .dict es ep → H b = none := fun {b o es ep} e d => by
      cases q : H b with
      | none => rfl
      | some u =>
        have e' : b = a := hA b (by rw [q]; simp)
        subst e'
        rw [ha] at e; cases e
        have d' : Data.seq vs.toArray _ = Data.dict es ep := d
        cases d'
    have nsK : ∀ {b : Addr} {m : Str → Option Value}, s₁.heap.Ns b m → (hidT s₁.heap H).Ns b m := fun {b m} ⟨o, es, ep, e, d, r⟩ => ⟨o, es, ep, base_of e (noA e d), d, r⟩
    have hKb : K.In (hidT s₁.heap H) := fun b o e => base_of (KX b o e) (by
      cases q : H b with
      | none => rfl
      | some u =>
        have e' : b = a := hA b (by rw [q]; simp)
        subst e'
        rw [hK (by rw [q]; simp)] at e; cases e)
    have hM : Mod K mg (hidT s₁.heap H) := ⟨hKb, nsK hns, ⟨mb, nsK hb, hbb⟩, let ⟨mc, h1, h2⟩ := hlim; ⟨mc, nsK h1, h2⟩⟩
    have e0 : Env0 P w K mg (hidT s₁.heap H) callerA [] s₁ H := ⟨rfl, hM, fun b o e => of_hidT e, Nat.le_of_eq (hidT_size _ _), trivial, fun b hb => absurd (show b ∈ ([] : List Addr) from hb) (by simp), hok, .of_eq hg⟩
    refine codeAny_mono ((F _ hKb (nsK hns)).run callerA [] s₁ H ⟨[.ref a], []⟩ [.ref a] [.ref a] _ _ hr e0 (hbind s₁ (.ref a)) (.cons rfl .nil) (hsp H hO hS)) fun r s' h => ?_
    cases r with
    | error e => exact (hCX H e s' h).elim
    | ok fl =>
      cases fl with
      | next => exact False.elim h
      | brk => exact False.elim h
      | cont => exact False.elim h
      | ret u =>
        obtain ⟨v, H', os, bare, un, hok', r', q⟩ := h
        have q' : v = .bl true := q
        subst q'
        obtain rfl : u = Value.bool true := r'
        refine ⟨rfl, OldK.of_keep fun b o e => ?_, os, bare⟩
        cases q : H b with
        | none => exact un.keep b o e q (by intro z; exact absurd (show b ∈ ([] : List Addr) from z) (by simp)) (by simp)
        | some u =>
          rcases hO b with z | ⟨ob, xs, z⟩
          · rw [q] at z; cases z
          · have z2 := un.frzs b ob _ z
            obtain ⟨e1, _⟩ := hok b _ z
            obtain ⟨e2, _⟩ := hok' b _ z2
            rw [e] at e1; cases e1
            exact e2
  cases hk : K.lookup a with
  | some o =>
    -- the script is one of the module's own objects
    have e := KX a o hk
    rw [ha] at e
    cases e
    refine core (fun _ => none) (fun _ => .inl rfl) (.inr ⟨_, vs.toArray, _, hk, rfl, rfl, rfl, by rw [List.size_toArray, lenV]; exact hl, by simpa using rv⟩) (fun b u z => by have z' : (none : Option HO) = some u := z; cases z') (fun b z => absurd rfl z) fun z => absurd rfl z
  | none =>
    refine core (fun b => if b = a then some (.frz { cls := .type "list", data := .seq vs.toArray } (.lst (ns.map V.int))) else none) (fun b => ?_) (.inl (.inr ⟨{ cls := .type "list", data := .seq vs.toArray }, if_pos rfl⟩)) (fun b u z => ?_) (fun b z => ?_) fun _ => hk
    · by_cases hb : b = a
      · exact .inr ⟨_, _, if_pos hb⟩
      · exact .inl (if_neg hb)
    · by_cases hb : b = a
      · have z' := (if_pos hb).symm.trans z
        cases z'
        subst hb
        exact ⟨ha, by rw [List.length_map]; exact hl, vs, _, rv, ha⟩
      · have z' := (if_neg hb).symm.trans z
        cases z'
    · by_cases hb : b = a
      · exact hb
      · exact absurd (if_neg hb) z
end L2

namespace L2
open PySem PySem.Spec PyProof.Rows

abbrev KOf {K : PySem.W.Frag} {h : Heap} (_ : K.In h) : PySem.W.Frag := K

/-- the goal that k_head leaves (case hc), from the law's promise. F gives the function object fd (K's own) once, then the promise over every base -/
theorem walk_of {l : PySem.W.OpenLaw} {n k : Nat} {q : Program} {loose : List Str} {XP : (Str → Option Value) → Heap → Prop} {YP : World → Heap → Prop} {d : DefRec} {K : Params → PySem.W.Frag} {CX : World → CXT} {sp : World → Sp} {x : Str}
    (hn : l.most = some n) (hn2 : n ≤ sizeLine) (hdf : d.params.defaults = []) (hr : Room k callerA)
    (hY : ∀ (w : World) (h : Heap), YP w h → (K w.params).In h)
    (F : ∀ (w : World) (mg : Str → Option Value) (fa : Addr) (h : Heap), (K w.params).In h → h.Ns mainGlobals mg → mg d.name = some (.ref fa) →
      ∃ fd : FuncData, (∀ (s : Shared) (u : Value), BindsTo s fd ⟨[u], []⟩ [(x, u)]) ∧
        ∀ base : Heap, (K w.params).In base → base.Ns mainGlobals mg → FnOk l.prog w (K w.params) mg base (CX w) k fa fd [x] (sp w))
    (hsp : ∀ (w : World) (H : Hp) (a : Addr) (ns : List Int), ns.length ≤ n → Only H → SqL (K w.params) H a (ns.map V.int) → sp w [.ref a] H (fun v _ => v = .bl true) fun _ _ _ => False)
    (hCX : ∀ (w : World) (H : Hp) (s : Shared) (e : Value) (s' : Shared), CX w [] H s (fun _ _ _ => False) e s' → False) :
    PySem.W.WalkO q loose XP YP l.row.toRowW d [] (fun f vs => PySem.call f vs) := by
  refine Att.attach_call hn hdf fun w s₀ s₁ mg mb fa o pm cd doc a vs ns G Y ho hd hcd hmg hobj hints hlen hg => ?_
  have KX := hY w _ Y
  obtain ⟨fd, hb, hF⟩ := F w mg fa _ KX G.T.g hmg
  exact law_call KX G.T.g G.T.b G.T.builtins G.T.nolimit hg hobj hints (Nat.le_trans hlen hn2) hr hF hb (fun H hO hS => hsp w H a ns hlen hO hS) fun H e s' => hCX w H s₁ e s'
end L2

/- THE LAST THEOREM (shape; LID, My.* are yours):
   My.Adr: a structure of the addresses that your layer names (classes, functions); My.Txt K t: a structure (Prop) of the equations over K;
   My.txt_mk : {K} {implicit addresses ..} (e1 : nsIn K mainGlobals "law" = some (some (.ref f))) (e2 : K.lookup f = some ⟨oc, od, .func (fnOf "law" "law" params body scope dV kV doc pm an cdv ct), sl⟩) (e3 : codeIn K cdv "law" = true) .. : ∃ t, My.Txt K t

set_option maxRecDepth 100000 in
set_option maxHeartbeats 0 in
theorem PySem.Challenge.cw_LID_holds : PySem.Challenge.rw_LID.Holds := by
  w_on; o_law; k_head; (case hw => w_witness2)
  k_fill
  refine L2.walk_of (l := PySem.Challenge.rw_LID) (n := 63) (k := 40) (x := "script") (CX := fun w => ..) (sp := fun _ => My.sp_law) rfl (by decide) rfl ⟨rfl, by decide, by decide⟩ (fun w h Y => PySem.W.kIn_of Y) ?F ?S ?C
  case F =>
    intro w mg fa h KX G hmg
    have T : ∃ t, My.Txt (L2.KOf KX) t := by
      dsimp only [L2.KOf]                          -- K must stand as «<heap const> w.params» for k_is
      refine' My.txt_mk ?e1 ?e2 ?e3 ..
      (case e1 => PySem.W.k_is)                    -- in the order: a name -> its address -> its object -> its parts
      (case e2 => PySem.W.k_is)
      ..
    obtain ⟨t, T⟩ := T
    have e0 := hmg.symm.trans (PySem.W.mg_of KX G T.law)
    cases e0                                       -- fa is the law's own address
    exact ⟨_, fun s u => .of_eq rfl, fun base kb nb => My.law_fn T kb nb⟩     -- if «.of_eq rfl» comes too early: refine' ⟨_, ?b, fun base kb nb => My.law_fn T kb nb⟩; exact fun s u => .of_eq rfl
  case S => exact fun w H a ns hl hO hS => ..
  case C => exact ..
(the tactic k_is has no namespace: write k_is) -/

namespace L2
open PySem PySem.Spec PyProof.Rows

/-- the j-th statement of a class's body -/
def inClass (s : Stmt) (j : Nat) : Stmt := match s with
  | .ClassDef _ _ _ body _ _ _ _ _ _ _ => body.getD j (.Pass ⟨0, 0, 0, 0⟩)
  | _ => .Pass ⟨0, 0, 0, 0⟩
def defArgs (s : Stmt) : Arguments := match s with
  | .FunctionDef _ a _ _ _ _ _ _ _ _ => a
  | _ => { posonlyargs := [], args := [], vararg := none, kwonlyargs := [], kw_defaults := [], kwarg := none, defaults := [] }
def defBody (s : Stmt) : List Stmt := match s with
  | .FunctionDef _ _ b _ _ _ _ _ _ _ => b
  | _ => []
def defScope (s : Stmt) : Scope := match s with
  | .FunctionDef _ _ _ _ _ _ sc _ _ _ => sc
  | _ => { kind := .function, names := [], isGenerator := false, isCoroutine := false }

abbrev CX0 : CXT := fun _ _ _ _ _ _ => False
abbrev E0 : XK := fun _ _ _ => False
theorem pass0 {X : Cx} : Passes CX0 X E0 := fun _ _ _ _ _ _ _ h => h.elim

structure Fun (K : PySem.W.Frag) (x qual : Str) (st : Stmt) (f : Addr) (fd : FuncData) : Prop where
  ex : ∃ (oc : Value) (od : Option Addr) (kV doc pm : Value) (an : Option Addr) (cdv ct : Value) (osl : Array (Option Value)),
    fd = PySem.W.fnOf x qual (defArgs st) (defBody st) (defScope st) .none kV doc pm an cdv ct ∧ K.lookup f = some ⟨oc, od, .func fd, osl⟩ ∧ PySem.W.codeIn K cdv qual = true
  kp : PySem.W.keepIn K (.ref f) = true
section
variable {P : Program} {w : World} {K : PySem.W.Frag} {mg : Str → Option Value} {base : Heap}
/-- THE RULE for a def: its body as a term of rules, and the reading of that term -/
theorem Fun.ok {x qual : Str} {st : Stmt} {f : Addr} {fd : FuncData} {N ps : List Str} {k : Nat} {sp : Sp} (F : Fun K x qual st f fd) (S : FnScope N ps (defScope st)) (len : ∀ vs H Q E, sp vs H Q E → vs.length = ps.length)
    (hbody : ∀ (cdv : Value) (A : Around) (outer : List Env) (s : Shared) (H : Hp) (vs : List V) (Q : VK) (E : XK), Room k (A.deeper (envOfC qual (defScope st) s.heap.objs.size f cdv)) → sp vs H Q E →
      ∃ t, PSs (cxOf CX0 P w K mg base N qual (defScope st) f cdv A outer s H E).nox (defBody st) t ∧ t { nx := fun _ H' => Q .non H', rt := Q } (start N vs) H) : FnOk P w K mg base CX0 (k + 1) f fd ps sp := by
  obtain ⟨oc, od, kV, doc, pm, an, cdv, ct, osl, rfl, lk, hcd⟩ := F.ex
  refine fn_of lk hcd S len fun A outer s H vs Q E hr hsp => ?_
  obtain ⟨t, h, q⟩ := hbody cdv A outer s H vs Q E hr hsp
  exact ⟨t, h.nox, q⟩
/-- how its arguments bind (no defaults): h is «fun _ _ _ _ _ _ us hl => match us, hl with | [_, _], _ => rfl», one _ a parameter -/
theorem Fun.binds {x qual : Str} {st : Stmt} {f : Addr} {fd : FuncData} {ps : List Str} (F : Fun K x qual st f fd)
    (h : ∀ (kV doc pm : Value) (an : Option Addr) (cdv ct : Value) (us : List Value), us.length = ps.length → bindArgs (PySem.W.fnOf x qual (defArgs st) (defBody st) (defScope st) .none kV doc pm an cdv ct) ⟨us, []⟩ = pure (ps.zip us)) : Binds K fd ps [] := by
  obtain ⟨oc, od, kV, doc, pm, an, cdv, ct, osl, rfl, lk, hcd⟩ := F.ex
  exact .all (h kV doc pm an cdv ct)
theorem fun_mk {x qual : Str} {st : Stmt} {f : Addr} {oc : Value} {od an : Option Addr} {osl : Array (Option Value)} {kV doc pm cdv ct : Value} (l : K.lookup f = some ⟨oc, od, .func (PySem.W.fnOf x qual (defArgs st) (defBody st) (defScope st) .none kV doc pm an cdv ct), osl⟩)
    (c : PySem.W.codeIn K cdv qual = true) (k : PySem.W.keepIn K (.ref f) = true) : Fun K x qual st f (PySem.W.fnOf x qual (defArgs st) (defBody st) (defScope st) .none kV doc pm an cdv ct) := ⟨⟨oc, od, kV, doc, pm, an, cdv, ct, osl, rfl, l, c⟩, k⟩
end
theorem small1000 {n : Nat} (h : n ≤ 1000) : n < sizeLine := Nat.lt_of_le_of_lt h (by decide)

section
variable {X : Cx}
theorem pv (i : Nat) {x : Str} {pos : Pos} (hN : X.N[i]? = some x := by rfl) (hv : Vis X.env.scope x := by first | exact Or.inl rfl | exact Or.inr (Or.inl rfl) | exact Or.inr (Or.inr rfl)) (hd : (x == ("__debug__" : Str)) = false := by decide)
    (hcd : (x == ("__classdict__" : Str)) = false := by decide) : PE X (.Name x pos) (tVar i) := pe_var hN hv hd hcd
end

theorem iteF {A B : Prop} (h : B) : if false = true then A else B := by
  rw [if_neg Bool.false_ne_true]
  exact h
theorem iteT {A B : Prop} (h : A) : if true = true then A else B := by
  rw [if_pos rfl]
  exact h
theorem iteNS {c A B : Prop} [Decidable c] (hc : c) (h : B) : if (!decide c) = true then A else B := by
  rw [decide_eq_true hc]
  exact iteF h

/-- all that was tracked is as it was -/
def Same (H H' : Hp) : Prop := ∀ b o, H b = some o → H' b = some o
theorem Same.refl (H : Hp) : Same H H := fun _ _ h => h
theorem Same.trans {H H1 H2 : Hp} (a : Same H H1) (b : Same H1 H2) : Same H H2 := fun c o h => b c o (a c o h)
theorem Same.free {H H' : Hp} (e : Same H H') {l : Addr} (h : H' l = Option.none) : H l = Option.none := by
  cases q : H l with
  | none => rfl
  | some o =>
    rw [e l o q] at h
    cases h
theorem Same.seq {K : PySem.W.Frag} {H H' : Hp} {a : Addr} {xs : List V} (e : Same H H') (h : SqL K H a xs) : SqL K H' a xs := by
  rcases h with (h | ⟨o, h⟩) | h
  · exact .inl (.inl (e _ _ h))
  · exact .inl (.inr ⟨o, e _ _ h⟩)
  · exact .inr h

end L2

set_option Elab.async false
set_option linter.all false
set_option maxRecDepth 100000
set_option maxHeartbeats 4000000
namespace L2
open PySem PySem.Spec PyProof.Rows

def Bt (k : Nat) (x : Int) : Prop := x.natAbs < 2 ^ k
theorem Bt.bits {k : Nat} {x : Int} (h : Bt k x) : Builtin.Int.intBits x ≤ k := PySem.intBits_le_iff.mpr h
theorem Bt.mono {k m : Nat} {x : Int} (h : Bt k x) (l : k ≤ m) : Bt m x := Nat.lt_of_lt_of_le h (Nat.pow_le_pow_right (by decide) l)
theorem Bt.le {k : Nat} {x y : Int} (h : Bt k y) (l : x.natAbs ≤ y.natAbs) : Bt k x := Nat.lt_of_le_of_lt l h
theorem Bt.mul {k m : Nat} {x y : Int} (h : Bt k x) (g : Bt m y) : Bt (k + m) (x * y) := by
  unfold Bt at *
  rw [Int.natAbs_mul, Nat.pow_add]
  exact Nat.mul_lt_mul'' h g
theorem Bt.add {k : Nat} {x y : Int} (h : Bt k x) (g : Bt k y) : Bt (k + 1) (x + y) := by
  unfold Bt at *
  have := Int.natAbs_add_le x y
  rw [Nat.pow_succ]; omega
theorem Bt.neg {k : Nat} {x : Int} (h : Bt k x) : Bt k (-x) := by unfold Bt at *; omega
def CMulB (i j : Int) : Prop := ∃ n m : Nat, Bt n i ∧ Bt m j ∧ n + m ≤ 134217728
theorem CMulB.ok {i j : Int} (h : CMulB i j) : IntMulOk i j := by
  obtain ⟨n, m, h1, h2, h3⟩ := h
  have a := h1.bits
  have b := h2.bits
  have hs : ((Builtin.Int.intBits i + Builtin.Int.intBits j : Nat) : Int) ≤ 2 ^ 27 := by
    have e : (2 : Int) ^ 27 = 134217728 := by decide
    rw [e]; omega
  have hb : Builtin.Int.intTooBig ((Builtin.Int.intBits i + Builtin.Int.intBits j : Nat) : Int) = false := decide_eq_false (Int.not_lt.mpr hs)
  unfold IntMulOk
  first
    | (rw [show (((Builtin.Int.intBits i : Nat) : Int) + ((Builtin.Int.intBits j : Nat) : Int)) = ((Builtin.Int.intBits i + Builtin.Int.intBits j : Nat) : Int) by omega, hb]; simp)
    | (rw [hb]; simp)
    | (intro z; simp only [Bool.and_eq_true] at z; simp_all)
section
variable {X : Cx} {a b c : Expr} {ta tb tc : TE} {pos : Pos}
theorem op_mulB : OpR X (binaryOp .Mult) (rI CMulB fun i j => .int (i * j)) := opI fun _ _ _ _ _ _ _ hc q => mul_int q hc.ok
theorem log2_lt9000 {j : Int} (h : Bt 9000 j) : j.natAbs.log2 < 9000 := by
  by_cases h0 : j.natAbs = 0
  · rw [h0]; decide +kernel
  · exact (Nat.log2_lt h0).mpr h
def CDivB (_ j : Int) : Prop := 0 < j ∧ Bt 9000 j
def CDivF (_ j : Int) : Prop := j ≠ 0 ∧ Bt 9000 j
theorem op_fdivB : OpR X (binaryOp .FloorDiv) (rI CDivB fun i j => .int (i / j)) := opI fun i j _ _ _ _ _ hc q => by
  have h1 : (0 : Int) < j := hc.1
  exact floordiv_int (by omega) (by rw [Int.fdiv_eq_ediv_of_nonneg i (by omega)]; exact q) (.inl (PyProof.noPylong_of_log2 (log2_lt9000 hc.2)))
theorem op_fdivF : OpR X (binaryOp .FloorDiv) (rI CDivF fun i j => .int (i.fdiv j)) := opI fun i j _ _ _ _ _ hc q =>
  floordiv_int hc.1 q (.inl (PyProof.noPylong_of_log2 (log2_lt9000 hc.2)))
def rIsi (K : PySem.W.Frag) : List V → Hp → VK → Prop := fun xs H Q => ∃ x c t b, xs = [x, .ty c] ∧ TyOf K H x t ∧ PySem.W.kitOne K t (.type c) = some b ∧ Q (.bl b) H
theorem call_isi : CallR X (.builtin "isinstance") (rIsi X.K) := by
  intro pins s σ H xs us Q I r h
  obtain ⟨x, c, t, b, rfl, ty, e, q⟩ := h
  obtain ⟨u, w', rfl, r1, r2⟩ := vals2 r
  cases (show w' = Value.type c from r2)
  exact isinst_ok I r1 ty e fun tk => ⟨.bl b, H, I.tok tk, rfl, q⟩

def eqVs : List V → List V → Bool
  | [], [] => true
  | x :: xs, y :: ys => eqV x y && eqVs xs ys
  | _, _ => false
theorem eqVs_range : ∀ {xs ys : List V} {us ws : List Value}, Vals xs us → Vals ys ws → xs.all flatV = true → ys.all flatV = true →
    ∃ e : Nat → Bool, (∀ (A : Around) (s : Shared) (j : Nat) (h1 : j < us.toArray.size) (h2 : j < ws.toArray.size), SeqAt.EqAt A s us.toArray[j] ws.toArray[j] (e j)) ∧
      ((List.range (min us.toArray.size ws.toArray.size)).all e && us.toArray.size == ws.toArray.size) = eqVs xs ys
  | [], [], _, _, .nil, .nil, _, _ => ⟨fun _ => true, fun _ _ j h1 _ => absurd h1 (by simp), rfl⟩
  | [], y :: ys, _, _, .nil, .cons _ _, _, _ => ⟨fun _ => true, fun _ _ j h1 _ => absurd h1 (by simp), by simp [eqVs]⟩
  | x :: xs, [], _, _, .cons _ _, .nil, _, _ => ⟨fun _ => true, fun _ _ j _ h2 => absurd h2 (by simp), by simp [eqVs]⟩
  | x :: xs, y :: ys, u :: us, w :: ws, .cons r t, .cons r' t', f, f' => by
    rw [List.all_cons, Bool.and_eq_true] at f f'
    obtain ⟨e, h1, h2⟩ := eqVs_range t t' f.2 f'.2
    refine ⟨fun j => match j with | 0 => eqV x y | j + 1 => e j, ?_, ?_⟩
    · intro A s j k1 k2
      cases j with
      | zero => simpa using eqAt_V r r' f.1 f'.1
      | succ j =>
        have k := h1 A s j (by simpa using k1) (by simpa using k2)
        simp only [List.getElem_toArray, List.getElem_cons_succ] at k ⊢
        exact k
    · show _ = (eqV x y && eqVs xs ys)
      rw [← h2]
      have e1 : min (u :: us).toArray.size (w :: ws).toArray.size = min us.toArray.size ws.toArray.size + 1 := by simp
      rw [e1, List.range_succ_eq_map, List.all_cons, List.all_map, Bool.and_assoc]
      congr 2
      simp
structure Cal (P : Program) (w : World) (K : PySem.W.Frag) (mg : Str → Option Value) (base : Heap) (k : Nat) (x : Str) (ps : List Str) (sp : Sp) : Prop where
  ex : ∃ (f : Addr) (fd : FuncData), FnOk P w K mg base CX0 k f fd ps sp ∧ Binds K fd ps [] ∧ PySem.W.keepIn K (.ref f) = true ∧ mg x = some (.ref f)
theorem pe_cal {k : Nat} {x : Str} {ps : List Str} {sp : Sp} {e : Expr} {es : List Expr} {t : TA} {p : Pos} (C : Cal X.prog X.w X.K X.mg X.base k x ps sp) (hr : Room k X.A) (hg : Gl X x) (ha : PA X (e :: es) t)
    (hdb : (x == ("__debug__" : Str)) = false := by decide) (he : starEach (e :: es) X.env = (false, eval e X.env) :: starEach es X.env := by rfl) (hpl : (backTo pos (starEach es X.env)).any (·.1) = false := by rfl) :
    PE X (.Call (.Name x p) (e :: es) [] pos) (tCall sp [] E0 t) := by
  obtain ⟨f, fd, F, b, kp, m⟩ := C.ex
  exact pe_call F hr hg m kp b .nil pass0 ha hdb he hpl

def tCut (t : TS) : TS := fun D σ H => ∃ J : St → Hp → Prop, t { D with nx := J } σ H ∧ ∀ σ' H', J σ' H' → D.nx σ' H'
theorem ps_cut {st : Stmt} {t : TS} (h : PS X st t) : PS X st (tCut t) := by
  intro pins s σ H D I hw
  obtain ⟨J, h1, h2⟩ := hw
  refine thn (h pins s σ H { D with nx := J } I h1) fun f s1 q => ?_
  cases f with
  | next =>
    obtain ⟨σ', H', I', q⟩ := q
    exact ⟨σ', H', I', h2 _ _ q⟩
  | ret v => exact q
  | brk => exact q
  | cont => exact q
theorem rd_cut {t : TS} {D : Ends} {σ : St} {H : Hp} (J : St → Hp → Prop) (h1 : t { D with nx := J } σ H) (h2 : ∀ σ' H', J σ' H' → D.nx σ' H') : tCut t D σ H := ⟨J, h1, h2⟩
theorem rd_var {i : Nat} {σ : St} {H : Hp} {Q : VK} {v : V} (e : σ[i]? = some (some v)) (h : Q v H) : tVar i σ H Q := ⟨v, e, h⟩
theorem rd_c {v : V} {σ : St} {H : Hp} {Q : VK} (h : Q v H) : tC v σ H Q := h
theorem rd_op {r : R2} {σ : St} {H : Hp} {Q : VK} (h : ta σ H fun x H1 => tb σ H1 fun y H2 => r x y H2 Q) : tOp r ta tb σ H Q := h
theorem rd_un {r : V → Hp → VK → Prop} {σ : St} {H : Hp} {Q : VK} (h : ta σ H fun x H1 => r x H1 Q) : tUn r ta σ H Q := h
theorem rd_i0 {g : Int → Int → V} {i j : Int} {H : Hp} {Q : VK} (h : Q (g i j) H) : rI0 g (.int i) (.int j) H Q := ⟨i, j, rfl, rfl, h⟩
theorem rd_i {C : Int → Int → Prop} {g : Int → Int → V} {i j : Int} {H : Hp} {Q : VK} (c : C i j) (h : Q (g i j) H) : rI C g (.int i) (.int j) H Q := ⟨i, j, rfl, rfl, c, h⟩
theorem rd_u {g : Int → V} {i : Int} {H : Hp} {Q : VK} (h : Q (g i) H) : rU g (.int i) H Q := ⟨i, rfl, h⟩
theorem rd_eq {x y : V} {H : Hp} {Q : VK} (s : scal x y = true) (h : Q (.bl (decide (x = y))) H) : rEq x y H Q := ⟨s, h⟩
theorem rd_ne {x y : V} {H : Hp} {Q : VK} (s : scal x y = true) (h : Q (.bl (!decide (x = y))) H) : rNe x y H Q := ⟨s, h⟩
theorem rd_test {t : TE} {σ : St} {H : Hp} {Q : Bool → Hp → Prop} (h : t σ H fun x H' => ∃ k, x = .bl k ∧ Q k H') : tTest t σ H Q := h
theorem rd_b {t : TE} {σ : St} {H : Hp} {Q : Bool → Hp → Prop} (h : t σ H fun x H' => ∃ k, x = .bl k ∧ Q k H') : L2.tB t σ H Q := h
theorem rd_bl {k : Bool} {Q : Bool → Prop} (h : Q k) : ∃ k', V.bl k = .bl k' ∧ Q k' := ⟨k, rfl, h⟩
theorem rel_ty (n : String) : RelV (.ty n) (.type n) := rfl
theorem rel_int (i : Int) (t : Tok) : RelV (.int i) (.int i t) := ⟨t, rfl⟩
theorem rd_not {t : TT} {σ : St} {H : Hp} {Q : Bool → Hp → Prop} (h : t σ H fun c H1 => Q (!c) H1) : tNot t σ H Q := h
theorem rd_and {t u : TT} {σ : St} {H : Hp} {Q : Bool → Hp → Prop} (h : t σ H fun c H1 => if c = true then u σ H1 Q else Q false H1) : tAnd t u σ H Q := h
theorem rd_or {t u : TT} {σ : St} {H : Hp} {Q : Bool → Hp → Prop} (h : t σ H fun c H1 => if c = true then Q true H1 else u σ H1 Q) : tOr t u σ H Q := h
theorem rd_andV {σ : St} {H : Hp} {Q : VK} (h : ta σ H fun x H1 => ∃ c, x = .bl c ∧ if c = true then tb σ H1 Q else Q (.bl false) H1) : tAndV ta tb σ H Q := h
theorem rd_orV {σ : St} {H : Hp} {Q : VK} (h : ta σ H fun x H1 => ∃ c, x = .bl c ∧ if c = true then Q (.bl true) H1 else tb σ H1 Q) : tOrV ta tb σ H Q := h
theorem rd_notV {σ : St} {H : Hp} {Q : VK} (h : ta σ H fun x H1 => ∃ c, x = .bl c ∧ Q (.bl (!c)) H1) : tNotV ta σ H Q := h
theorem rd_chain {r r' : R2} {σ : St} {H : Hp} {Q : VK} (h : ta σ H fun x H1 => tb σ H1 fun y H2 => r x y H2 fun z H3 => ∃ k, z = .bl k ∧ (if k = true then tc σ H3 fun w' H4 => r' y w' H4 Q else Q (.bl false) H3)) : tChain r r' ta tb tc σ H Q := h
theorem rd_call {sp : Sp} {dvs : List V} {E : XK} {t : TA} {σ : St} {H : Hp} {Q : VK} (h : t σ H fun vs H1 => sp (vs ++ dvs) H1 Q E) : tCall sp dvs E t σ H Q := h
theorem rd_cb {r : List V → Hp → VK → Prop} {t : TA} {σ : St} {H : Hp} {Q : VK} (h : t σ H fun vs H1 => r vs H1 Q) : tCB r t σ H Q := h
theorem rd_nil {σ : St} {H : Hp} {Q : List V → Hp → Prop} (h : Q [] H) : tNil σ H Q := h
theorem rd_cons {tr : TA} {σ : St} {H : Hp} {Q : List V → Hp → Prop} (h : ta σ H fun x H1 => tr σ H1 fun xs H2 => Q (x :: xs) H2) : tCons ta tr σ H Q := h
theorem rd_tup {t : TA} {σ : St} {H : Hp} {Q : VK} (h : t σ H fun xs H1 => xs.length ≤ sizeLine ∧ ∀ p, H1 p = none → Q (.ref p) (upd H1 p (.tup xs))) : tTup t σ H Q := h
theorem rd_lst {t : TA} {σ : St} {H : Hp} {Q : VK} (h : t σ H fun xs H1 => xs.length ≤ sizeLine ∧ ∀ p, H1 p = none → Q (.ref p) (upd H1 p (.lst xs))) : tLst t σ H Q := h
theorem rd_seq {t u : TS} {D : Ends} {σ : St} {H : Hp} (h : t { D with nx := u D } σ H) : tSeq t u D σ H := h
theorem rd_next {D : Ends} {σ : St} {H : Hp} (h : D.nx σ H) : tNext D σ H := h
theorem rd_ret {te : TE} {D : Ends} {σ : St} {H : Hp} (h : te σ H D.rt) : tRet te D σ H := h
theorem rd_ifS {c : TT} {t u : TS} {D : Ends} {σ : St} {H : Hp} (h : c σ H fun b H1 => if b = true then t D σ H1 else u D σ H1) : tIfS c t u D σ H := h
theorem rd_asg {te : TE} {g : TG} {D : Ends} {σ : St} {H : Hp} (h : te σ H fun x H1 => g x σ H1 D.nx) : tAsg te g D σ H := h
theorem rd_drop {te : TE} {D : Ends} {σ : St} {H : Hp} (h : te σ H fun _ H1 => D.nx σ H1) : tDrop te D σ H := h
theorem rd_gname {i : Nat} {v : V} {σ : St} {H : Hp} {Q : St → Hp → Prop} (h : Q (σ.set i (some v)) H) : gName i v σ H Q := h
theorem rd_gtup {K : PySem.W.Frag} {n : Nat} {t : TGs} {a : Addr} {xs : List V} {σ : St} {H : Hp} {Q : St → Hp → Prop} (hs : SqT K H a xs) (hl : xs.length = n) (h : t xs σ H Q) : gTup K n t (.ref a) σ H Q := ⟨a, xs, rfl, hs, hl, h⟩
theorem rd_gcons {t : TG} {u : TGs} {v : V} {r : List V} {σ : St} {H : Hp} {Q : St → Hp → Prop} (h : t v σ H fun σ' H' => u r σ' H' Q) : gCons t u (v :: r) σ H Q := ⟨v, r, rfl, h⟩
theorem rd_gnil {σ : St} {H : Hp} {Q : St → Hp → Prop} (h : Q σ H) : gNil [] σ H Q := ⟨rfl, h⟩
theorem rd_ixT {K : PySem.W.Frag} {p : Addr} {xs : List V} {i : Int} {v : V} {H : Hp} {Q : VK} (hs : SqT K H p xs) (e : atI xs i = some v) (h : Q v H) : rIxT K (.ref p) (.int i) H Q := ⟨p, xs, i, v, rfl, rfl, hs, e, h⟩
theorem rd_ixL {K : PySem.W.Frag} {p : Addr} {xs : List V} {i : Int} {v : V} {H : Hp} {Q : VK} (hs : SqL K H p xs) (e : atI xs i = some v) (h : Q v H) : rIxL K (.ref p) (.int i) H Q := ⟨p, xs, i, v, rfl, rfl, hs, e, h⟩
theorem rd_isi {K : PySem.W.Frag} {x : V} {c : String} {t : Value} {b : Bool} {H : Hp} {Q : VK} (ty : TyOf K H x t) (e : PySem.W.kitOne K t (.type c) = some b) (h : Q (.bl b) H) : rIsi K [x, .ty c] H Q := ⟨x, c, t, b, rfl, ty, e, h⟩
theorem iteD {c A B : Prop} [Decidable c] (hc : c) (h : A) : if decide c = true then A else B := by
  rw [decide_eq_true hc]; exact iteT h
theorem iteN {c A B : Prop} [Decidable c] (hc : ¬ c) (h : B) : if decide c = true then A else B := by
  rw [decide_eq_false hc]; exact iteF h
theorem iteNN {c A B : Prop} [Decidable c] (hc : ¬ c) (h : A) : if (!decide c) = true then A else B := by
  rw [decide_eq_false hc]; exact iteT h
theorem ite2d {c A B : Prop} [Decidable c] (h1 : c → A) (h2 : ¬ c → B) : if decide c = true then A else B := by
  by_cases h : c
  · exact iteD h (h1 h)
  · exact iteN h (h2 h)
theorem Same.tup {K : PySem.W.Frag} {H H' : Hp} {a : Addr} {xs : List V} (e : Same H H') (h : SqT K H a xs) : SqT K H' a xs := by
  rcases h with (h | ⟨o, h⟩) | h
  · exact .inl (.inl (e _ _ h))
  · exact .inl (.inr ⟨o, e _ _ h⟩)
  · exact .inr h
theorem same_new {H : Hp} {p : Addr} (h : H p = none) (o : HO) : Same H (upd H p o) := fun b u q => by rw [upd_ne (ne_of_none q h)]; exact q
theorem cdiv_small {i j : Int} (h0 : 0 < j) (h1 : j < 18446744073709551616) : CDivB i j := ⟨h0, Bt.mono (k := 64) (by unfold Bt; omega) (by decide)⟩
theorem pow2_pos (k : Nat) : (0 : Int) < 1 * 2 ^ k := by
  have e : (1 : Int) * 2 ^ k = ((2 ^ k : Nat) : Int) := by rw [Int.natCast_pow]; simp
  rw [e]
  have := Nat.two_pow_pos k
  omega
end
end L2

namespace Att
open PySem PySem.W PySem.Calls PyProof.Rows
theorem weight_item : ∀ {ns : List Int} {n : Int}, n ∈ ns → Builtin.Int.intBits n ≤ WData.weightAll (ns.map WData.int)
  | m :: ns, n, h => by
    rw [List.map_cons]
    show _ ≤ WData.weight (.int m) + 1 + WData.weightAll (ns.map WData.int)
    rcases List.mem_cons.mp h with rfl | h
    · have e : WData.weight (.int n) = Builtin.Int.intBits n := by first | rfl | (unfold Builtin.Int.intBits; rfl) | simp [WData.weight, Builtin.Int.intBits]
      omega
    · have := weight_item h
      omega
theorem bits_of_lay {ns : List Int} (h : WData.layableAll [WData.list (ns.map WData.int)] = true) : ∀ n ∈ ns, L2.Bt 1048576 n := fun n hn => by
  have h1 : WData.layable (WData.list (ns.map WData.int)) = true := (Bool.and_eq_true_iff.mp h).1
  have h2 : WData.weight (WData.list (ns.map WData.int)) ≤ 2 ^ 20 := of_decide_eq_true (Bool.and_eq_true_iff.mp h1).2
  have h3 := weight_item hn
  have e : WData.weight (WData.list (ns.map WData.int)) = WData.weightAll (ns.map WData.int) := by first | rfl | simp [WData.weight]
  refine PySem.intBits_le_iff.mp ?_
  omega
theorem attach_callB {l : OpenLaw} {n : Nat} {q : Program} {loose : List Str} {XP : (Str → Option Value) → Heap → Prop} {YP : World → Heap → Prop} {d : DefRec}
    (hn : l.most = some n) (hdf : d.params.defaults = [])
    (call : ∀ (w : World) (s₀ s₁ : Shared) (mg mb : Str → Option Value) (fa : Addr) (o : Obj) (pm cd doc : Value) (a : Addr) (vs : List Value) (ns : List Int),
      Ground q loose [] XP w s₀ mg mb s₁.heap → YP w s₁.heap →
      s₁.heap.get? fa = some o → o.data = .func (docDef d.name d.params d.body d.scope pm cd doc) → s₁.heap.CodeRec cd d.name → mg d.name = some (.ref fa) →
      s₁.heap.get? a = some { cls := .type "list", data := .seq vs.toArray } → IntsAre vs ns → ns.length ≤ n → (∀ n ∈ ns, L2.Bt 1048576 n) → s₁.gens = #[] →
      codeAny (model l.prog w) callerA (.call (.ref fa) ⟨[.ref a], []⟩) (fun r s' => r = .ok (.ret (.bool true)) ∧ OldK s₁.heap s'.heap ∧ s'.os = s₁.os ∧ AllBare s'.gens) s₁) :
    WalkO q loose XP YP l.row.toRowW d [] (fun f vs => PySem.call f vs) := by
  intro w s₀ s₁ mg mb G Y fa o pm cd doc dV kV ho hd hcd hD hmg hg args vals as hpre hlay hrd hwl hlo
  obtain rfl : dV = .none := Dflts.none hD hdf
  obtain rfl : kV = .none := Dflts.noKw hD
  obtain ⟨a, vs, ns, rfl, rfl, hobj, hints, hlen⟩ := script_of hn hpre hwl
  refine enter_call (codeAny_mono (call w s₀ s₁ mg mb fa o pm cd doc a vs ns G Y ho (fd_plain hd) hcd hmg hobj hints hlen (bits_of_lay hlay) hg) fun r s' hq => ?_)
  obtain ⟨rfl, h2, h3, h4⟩ := hq
  exact ⟨.inl ⟨.bool true, .bool true, [], rfl, fun _ => rfl, .bool true, post_true l _, fun _ => ⟨List.Pairwise.nil, fun _ hm => (nomatch hm)⟩⟩, h2, h3, h4⟩
end Att
namespace L2
open PySem PySem.Spec PyProof.Rows
/-- law's promise: a list of at most 63 ints of at most 2^20 bits is handed in, True comes out -/
def spLaw (K : PySem.W.Frag) : Sp := fun vs H Q _ => ∃ (a : Addr) (ns : List Int), vs = [.ref a] ∧ SqL K H a (ns.map V.int) ∧ ns.length ≤ 63 ∧ (∀ n ∈ ns, Bt 1048576 n) ∧ ∀ H', Q (.bl true) H'
theorem walk_ofB {l : PySem.W.OpenLaw} {k : Nat} {q : Program} {loose : List Str} {XP : (Str → Option Value) → Heap → Prop} {YP : World → Heap → Prop} {d : DefRec} {K : Params → PySem.W.Frag}
    (hn : l.most = some 63) (hdf : d.params.defaults = []) (hr : Room k callerA)
    (hY : ∀ (w : World) (h : Heap), YP w h → (K w.params).In h)
    (F : ∀ (w : World) (mg : Str → Option Value) (fa : Addr) (h : Heap), (K w.params).In h → h.Ns mainGlobals mg → mg d.name = some (.ref fa) →
      ∃ fd : FuncData, (∀ (s : Shared) (u : Value), BindsTo s fd ⟨[u], []⟩ [("_law_script", u)]) ∧
        ∀ base : Heap, (K w.params).In base → base.Ns mainGlobals mg → FnOk l.prog w (K w.params) mg base CX0 k fa fd ["_law_script"] (spLaw (K w.params))) :
    PySem.W.WalkO q loose XP YP l.row.toRowW d [] (fun f vs => PySem.call f vs) := by
  refine Att.attach_callB hn hdf fun w s₀ s₁ mg mb fa o pm cd doc a vs ns G Y ho hd hcd hmg hobj hints hlen hbits hg => ?_
  have KX := hY w _ Y
  obtain ⟨fd, hb, hF⟩ := F w mg fa _ KX G.T.g hmg
  exact law_call KX G.T.g G.T.b G.T.builtins G.T.nolimit hg hobj hints (Nat.le_trans hlen (by decide)) hr hF hb (fun H hO hS => ⟨a, ns, rfl, hS, hlen, hbits, fun _ => rfl⟩) fun H e s' => fun z => z
end L2

set_option Elab.async false
set_option linter.all false
set_option maxRecDepth 100000
set_option maxHeartbeats 4000000
namespace L2
open PySem PySem.Spec PyProof.Rows
/-- the context of a comprehension's block: its own name first, then the names around it -/
def compCx (X : Cx) (M : List Str) (x : Str) (scope : Scope) (cl : List (Str × Addr)) (C : Addr) (s₀ : Shared) (H₀ : Hp) (fp : List Addr) : Cx :=
  { X with N := x :: M, s₀ := s₀, H₀ := H₀, env := compEnvC scope cl C X.env, outer := X.stack, ex := fp, fn := fun _ => false, pn := [], xe := fun _ _ => False }
structure CompOk (X : Cx) (M : List Str) (x : Str) (scope : Scope) (cl : List (Str × Addr)) : Prop where
  clos : closureFor scope X.env = pure cl
  cell : ∀ y ∈ scope.names, y.2 ≠ .cell
  kind : scope.kind = .function
  names : ∀ y ∈ scope.names, y.2 = .local → scope.names.lookup y.1 = some .local
  xl : scope.names.lookup x = some .local
  nd : (x :: M).Nodup
  len : M.length = X.N.length
  sub : ∀ y c, cl.lookup y = some c → X.env.cells.lookup y = some c
  has : ∀ y, ((relabel scope X.env).names.lookup y = some .cell ∨ (relabel scope X.env).names.lookup y = some .free) → ∃ c, cl.lookup y = some c
  vis : ∀ (i : Nat) (y : Str), M[i]? = some y → Vis (relabel scope X.env) y → X.N[i]? = some y ∧ ((relabel scope X.env).names.lookup y = some .cell ∨ (relabel scope X.env).names.lookup y = some .free) ∧ (X.env.scope.names.lookup y = some .cell ∨ X.env.scope.names.lookup y = some .free)
/-- the tests of a clause -/
def PIfs (X : Cx) (ifs : List Expr) (t : TT) : Prop :=
  ∀ (pins : List (Addr × Obj)) (s : Shared) (σ : St) (H : Hp) (Q : Bool → Hp → Prop), Inv X pins σ H s → t σ H Q →
    wpAny (model X.prog X.w) X.A (forIn ifs true fun c r => if r = true then do let ok ← isTrue c X.env (eval c X.env); pure (ForInStep.yield ok) else pure (ForInStep.yield r)) (TP X pins σ Q) X.xe s
def tTrue : TT := fun _ H Q => Q true H
section
variable {X : Cx}
theorem pifs_nil : PIfs X [] tTrue := fun pins s σ H Q I h => by
  rw [List.forIn_nil]
  exact wpAny_pure ⟨H, I, h⟩
theorem pifs_one {c : Expr} {t : TT} (hc : PT X c t) : PIfs X [c] t := fun pins s σ H Q I h => by
  rw [List.forIn_cons]
  refine wpAny_bind ?_
  rw [if_pos rfl]
  refine wpAny_bind (thn (hc pins s σ H Q I h) fun b s1 q => wpAny_pure ?_)
  dsimp only
  rw [List.forIn_nil]
  exact wpAny_pure q
/-- W: the invariant by the turn, a measure, the items so far, the heap (in which the list stands at D) -/
def tComp (wi : TI) (tt : TT) (te : TE) : TE := fun σ H Q => wi σ H fun J H1 => ∀ D, H1 D = none → ∃ W : Nat → Nat → List V → Hp → Prop, (∃ m, W 0 m [] (upd H1 D (.lst []))) ∧
  ∀ i m ys H2, W i m ys H2 → H2 D = some (.lst ys) ∧ ((J.stop i H2 ∧ Q (.ref D) H2) ∨ (J.go i H2 ∧ ys.length < sizeLine ∧ ∃ m', m' < m ∧ ∀ x H3, J.yld i H2 x H3 →
    tt (some x :: σ) H3 fun b H4 => if b = true then te (some x :: σ) H4 fun y H5 => H5 D = some (.lst ys) ∧ W (i + 1) m' (ys ++ [y]) (upd H5 D (.lst (ys ++ [y]))) else W (i + 1) m' ys H4))

theorem comp_ok {M : List Str} {pins : List (Addr × Obj)} {σ : St} {H : Hp} {s : Shared} {x : Str} {scope : Scope} {cl : List (Str × Addr)} {C : Addr} {fp : List Addr} (I : Inv X pins σ H s) (ok : CompOk X M x scope cl) (hC : s.heap.objs.size ≤ C)
    (hf : ∀ b ∈ fp, FpOk X pins H b) (hb : ∀ b ∈ fp, b < s.heap.objs.size) : (compCx X M x scope cl C s H fp).Ok where
  mod := I.ok.mod
  kind := ok.kind
  glob := I.ok.glob
  blt := I.ok.blt
  above := hC
  inj := fun y z c h1 h2 => I.ok.inj y z c (ok.sub y c h1) (ok.sub z c h2)
  has := ok.has
  cab := fun y c h => by cases h
  hd := I.ok.hd
  frames := I.ok.frames
  stk := .inl rfl
  exf := fun b h => ⟨Nat.ne_of_lt (Nat.lt_of_lt_of_le (hb b h) hC), fun y c e => (hf b h).2.2.2.2.1 y c (ok.sub y c e)⟩
  bs := I.bs
  bsz := Nat.le_trans I.ok.bsz I.sz
  noex := fun b o e h => by
    rcases (hf b h).2.2.2.1 with z | z
    · exact I.ok.noex b o e z
    · exact absurd (Nat.lt_of_lt_of_le (Heap.lt_size (I.ok.bs b o e).1) z) (Nat.lt_irrefl _)
  exfs := fun b h z => by
    rcases List.mem_cons.mp (I.stkSub b z) with e | e
    · exact (hf b h).2.1 e
    · exact (hf b h).2.2.1 e
  funs := I.stack
  frf := I.stkFree

def CompR (tt : TT) (te : TE) (σ : St) (Q : VK) : It → Hp → Prop := fun J H1 => ∀ D, H1 D = none → ∃ W : Nat → Nat → List V → Hp → Prop, (∃ m, W 0 m [] (upd H1 D (.lst []))) ∧
  ∀ i m ys H2, W i m ys H2 → H2 D = some (.lst ys) ∧ ((J.stop i H2 ∧ Q (.ref D) H2) ∨ (J.go i H2 ∧ ys.length < sizeLine ∧ ∃ m', m' < m ∧ ∀ x H3, J.yld i H2 x H3 →
    tt (some x :: σ) H3 fun b H4 => if b = true then te (some x :: σ) H4 fun y H5 => H5 D = some (.lst ys) ∧ W (i + 1) m' (ys ++ [y]) (upd H5 D (.lst (ys ++ [y]))) else W (i + 1) m' ys H4))
theorem comp_core {M : List Str} {elt iter : Expr} {x : Str} {px pos : Pos} {ifs : List Expr} {scope : Scope} {cl : List (Str × Addr)} {tt : TT} {te : TE} (hc : X.calm = true) (ok : CompOk X M x scope cl)
    (ht : ∀ C s₀ H₀ fp, PIfs (compCx X M x scope cl C s₀ H₀ fp) ifs tt) (he : ∀ C s₀ H₀ fp, PE (compCx X M x scope cl C s₀ H₀ fp) elt te)
    {pins : List (Addr × Obj)} {σ : St} {H2 : Hp} {s2 : Shared} {it : Addr} {fp : List Addr} {tn : Nat → Heap → Prop} {J : It} {Q : VK} (I2 : Inv X pins σ H2 s2) (T : Turn X.prog X.w X.K (.Name x px) J fp it tn) (st2 : tn 0 s2.heap) (f2 : ∀ b ∈ fp, FpOk X pins H2 b)
    (hW : CompR tt te σ Q J H2) (post : Value → Addr → Result → Shared → Prop)
    (fin : ∀ D C H3 s4, Inv X pins σ H3 s4 → (∃ m, s4.heap.Ns C m) → FpOk X pins H3 C → Q (.ref D) H3 → post (.ref D) C (.ok .next) s4) :
    wpAny (model X.prog X.w) X.A (newList []) (fun acc s₃ => wpAny (model X.prog X.w) X.A (newFunctionEnv scope X.env.globals cl [] X.env.qual none .none (some X.env)) (fun cenv s₄ =>
      codeAny (model X.prog X.w) X.A (.compStart (.ListComp elt [⟨.Name x px, iter, ifs, 0⟩] scope pos) 0 (.ref it) acc { cenv with scope := relabel scope X.env }) (post acc cenv.locals) s₄) X.xe s₃) X.xe s2 := by
  refine wpAny_newObj_type (wpAny_newFunctionEnv ok.cell (by intro y hy; simp at hy) (fun h₁ hns₁ hsb₁ => ?_) ok.kind)
  dsimp only at hns₁ hsb₁ ⊢
  generalize hH2 : s2.heap.push { cls := .type "list", dict := none, data := .seq ([] : List Value).toArray } = G2 at hns₁ hsb₁ ⊢
  have hC : G2.objs.size = s2.heap.objs.size + 1 := by rw [← hH2, Heap.size_push]
  have hDC : s2.heap.objs.size ≠ G2.objs.size := by rw [hC]; exact Nat.ne_of_lt (Nat.lt_succ_self _)
  have hCle : s2.heap.objs.size ≤ G2.objs.size := by rw [hC]; exact Nat.le_succ _
  have below : ∀ b, b < s2.heap.objs.size → b ≠ G2.objs.size ∧ b ≠ s2.heap.objs.size := fun b hb => ⟨by rw [hC]; exact Nat.ne_of_lt (Nat.lt_succ_of_lt hb), Nat.ne_of_lt hb⟩
  have old : ∀ b o, s2.heap.get? b = some o → h₁.get? b = some o := fun b o e => hsb₁.extBut b o (below b (Heap.lt_size e)).1 (Heap.get?_push_of_some _ (hH2 ▸ Heap.get?_push_of_some _ e))
  have hacc : h₁.get? s2.heap.objs.size = some { cls := .type "list", data := .seq ([] : List Value).toArray } := hsb₁.extBut _ _ hDC (Heap.get?_push_of_some _ (hH2 ▸ Heap.get?_push_size _ rfl))
  have fpb : ∀ b ∈ fp, b < s2.heap.objs.size := fun b hb => by
    obtain ⟨o, e, _⟩ := T.obj _ _ st2 b hb
    exact Heap.lt_size e
  have hD0 : H2 s2.heap.objs.size = none := I2.hok.fresh (Nat.le_refl _)
  have hC0 : H2 G2.objs.size = none := I2.hok.fresh hCle
  generalize hDD : s2.heap.objs.size = D at *
  generalize hCC : G2.objs.size = C at *
  obtain ⟨W, ⟨m0, w0⟩, turn⟩ := hW D hD0
  have okX : (compCx X M x scope cl C s2 H2 fp).Ok := comp_ok I2 ok (by rw [hDD]; exact hCle) f2 (by rw [hDD]; exact fpb)
  have lenN : (none :: σ : St).length = (compCx X M x scope cl C s2 H2 fp).N.length := by
    show (none :: σ).length = (x :: M).length
    rw [List.length_cons, List.length_cons, I2.len, ok.len]
  -- the values of the names around it, seen from within
  have locs : ∀ (h' : Heap) (m : Str → Option Value) (w' : Option V), (∀ y c, X.env.cells.lookup y = some c → ∀ v, s2.heap.IsCell c v → h'.IsCell c v) → w' = none →
      ∀ (i : Nat) (y : Str) (v : V), (x :: M)[i]? = some y → (w' :: σ : St)[i]? = some (some v) → Vis (relabel scope X.env) y → ∃ u, RelV v u ∧ Look (compEnvC scope cl C X.env) h' m y u := by
    intro h' m w' hcell hw i y v e1 e2 e3
    subst hw
    cases i with
    | zero => simp at e2
    | succ i =>
      have e0 : M[i]? = some y := by simpa using e1
      have e2' : σ[i]? = some (some v) := by simpa using e2
      obtain ⟨e1', k1, k2⟩ := ok.vis i y e0 e3
      obtain ⟨m2, _, hl⟩ := I2.loc
      obtain ⟨u, r, l⟩ := hl i y v e1' e2' (k2.elim (fun z => .inr (.inl z)) fun z => .inr (.inr z))
      obtain ⟨c', hc'⟩ := ok.has y k1
      rcases l with ⟨z, _⟩ | ⟨_, c, hcc, z⟩
      · have z' : X.env.scope.names.lookup y = some .local := z
        rcases k2 with q | q <;> (rw [q] at z'; cases z')
      · have q := ok.sub y c' hc'
        rw [hcc] at q
        cases q
        exact ⟨u, r, .inr ⟨k1, c', hc', hcell y c' hcc _ z⟩⟩
  have I0 : Inv (compCx X M x scope cl C s2 H2 fp) [] (none :: σ) (upd H2 D (.lst [])) { s2 with heap := h₁, toks := s2.toks + ([] : List (Str × Value)).length } := by
    refine ⟨okX, rfl, I2.bare, ?_, ⟨_, hns₁, locs h₁ _ none (fun y c e v z => ?_) rfl⟩, fun y c e => ?_, ?_, fun y c e => ?_, fun p hp => ?_, ?_, lenN⟩
    · exact Un.laid old (Nat.le_of_eq hDD) hD0
    · obtain ⟨o, ho, hd⟩ := z
      exact ⟨o, old c o ho, hd⟩
    · obtain ⟨v, o, ho, hd⟩ := I2.cell y c (ok.sub y c e)
      exact ⟨v, o, old c o ho, hd⟩
    · show upd H2 D (.lst []) C = none
      rw [upd_ne (Ne.symm hDC)]
      exact hC0
    · have hn := I2.freeC y c (ok.sub y c e)
      obtain ⟨v, o, ho, hd⟩ := I2.cell y c (ok.sub y c e)
      rw [upd_ne (fun z => by have := Heap.lt_size ho; rw [hDD, z] at this; exact Nat.lt_irrefl _ this)]
      exact hn
    · exact absurd hp (by show p ∉ ([] ++ [] : List (Addr × Obj)); simp)
    · refine I2.hok.laid old (Nat.le_of_eq hDD) ⟨Nat.zero_le _, [], _, .nil, hacc⟩
  have fpk : ∀ {H' : Hp}, (∀ b ∈ fp, H' b = none) → ∀ b ∈ fp, FpOk (compCx X M x scope cl C s2 H2 fp) [] H' b := fun hn b hb => by
    refine ⟨hn b hb, (below b (fpb b hb)).1, okX.exfs b hb, .inl hb, fun y c e => (f2 b hb).2.2.2.2.1 y c (ok.sub y c e), fun p hp => ?_⟩
    exact absurd hp (by show p ∉ ([] ++ [] : List (Addr × Obj)); simp)
  have loop : ∀ s₃ : Shared, s₃ = { s2 with heap := h₁, toks := s2.toks + ([] : List (Str × Value)).length } →
      codeAny (model X.prog X.w) X.A (.compLoop (.ListComp elt [⟨.Name x px, iter, ifs, 0⟩] scope pos) 0 (.ref it) (.ref D) (compEnvC scope cl C X.env))
        (post (.ref D) C) s₃ := by
    rintro s₃ rfl
    refine codeAny_compLoop_tests (fun n s' => ∃ i ys w' H', Inv (compCx X M x scope cl C s2 H2 fp) [] (w' :: σ) H' s' ∧ tn i s'.heap ∧ (∀ b ∈ fp, H' b = none) ∧ W i n ys H') ?_ m0
      ⟨0, [], none, _, I0, T.keep _ _ _ st2 (fun b _ o e => old b o e), fun b hb => by rw [upd_ne (below b (fpb b hb)).2]; exact (f2 b hb).1, w0⟩
    rintro n s3 ⟨i, ys, w3, H3, I3, st3, fr3, wt⟩
    obtain ⟨hD3, hh⟩ := turn i n ys H3 wt
    rcases hh with ⟨stop, q⟩ | ⟨go, hlen, m', hm, step⟩
    · refine thn (T.done (compCx X M x scope cl C s2 H2 fp) rfl rfl rfl hc i [] s3 (w3 :: σ) H3 _ I3 (fpk fr3) st3 stop) fun r s4 ⟨hr, I4⟩ => ?_
      subst hr
      obtain ⟨m4, hn4, _⟩ := id I4.loc
      have hC4 : H3 C = none := I4.free
      exact fin D C H3 s4 (I2.call' (ch := fp) I4.os I4.base I4.hok I4.bare fun b hb => ⟨(f2 b hb).2.2.2.1, (f2 b hb).2.1, (f2 b hb).2.2.2.2.1, (f2 b hb).2.2.2.2.2⟩) ⟨m4, hn4⟩ (I2.fpOk (by rw [hDD]; exact hCle) hC4) q
    · refine wpAny_mono (T.item (compCx X M x scope cl C s2 H2 fp) rfl rfl rfl hc i [] s3 (w3 :: σ) H3 (fun _ _ => False) I3 (fpk fr3) st3 go) (fun r s4 h4 => ?_) (fun _ _ z => z.elim)
      obtain ⟨u, hr, h4⟩ := h4
      subst hr
      refine (show wpAny (model X.prog X.w) X.A (letOwnedTupleGo (.Name x px) (.ref it) u >>= fun _ => assign (.Name x px) (compEnvC scope cl C X.env) u) _ _ _ from wpAny_bind (wpAny_mono h4 (fun _ s4 h4 => ?_) (fun _ _ z => z.elim)))
      obtain ⟨x', H5, I5, r5, y5, st5, fr5⟩ := h4
      have I5' := I5.pinned (fpk fr5) (T.obj _ _ st5)
      refine wpAny_assign_Name (store_ok (X := compCx X M x scope cl C s2 H2 fp) (i := 0) I5' ok.nd rfl (.inl (lookup_relabel_local ok.xl)) r5 (fun s6 I6 => ?_) (.inr (lookup_relabel_local ok.xl)))
      have I6' : Inv (compCx X M x scope cl C s2 H2 fp) ([] ++ pinsAt fp s4.heap) (some x' :: σ) H5 s6 := I6
      have back : ∀ {s7 : Shared} {H7 : Hp} {w7 : Option V}, Inv (compCx X M x scope cl C s2 H2 fp) ([] ++ pinsAt fp s4.heap) (w7 :: σ) H7 s7 → tn (i + 1) s7.heap ∧ (∀ b ∈ fp, H7 b = none) ∧ Inv (compCx X M x scope cl C s2 H2 fp) [] (w7 :: σ) H7 s7 := fun {s7 H7 w7} I7 => by
        refine ⟨T.keep _ _ _ st5 fun b hb o e => (I7.pin (b, o) (List.mem_append_right _ (List.mem_append_right _ (mem_pinsAt hb e)))).1, fun b hb => ?_, I7.unpinned⟩
        obtain ⟨o, e, d⟩ := T.obj _ _ st5 b hb
        exact (I7.pin (b, o) (List.mem_append_right _ (List.mem_append_right _ (mem_pinsAt hb e)))).2.1
      refine wpAny_mono (ht C s2 H2 fp _ s6 _ H5 _ I6' (step x' H5 y5)) (fun ok' s7 h7 => ?_) (fun _ _ z => z.elim)
      obtain ⟨H7, I7, q7⟩ := h7
      cases ok' with
      | false =>
        have q7' : W (i + 1) m' ys H7 := by simpa using q7
        rw [if_neg Bool.false_ne_true]
        obtain ⟨b1, b2, b3⟩ := back I7
        exact ⟨m', hm, i + 1, ys, _, H7, b3, b1, b2, q7'⟩
      | true =>
        rw [if_pos rfl] at q7 ⊢
        refine wpAny_mono (he C s2 H2 fp _ s7 _ H7 _ I7 q7) (fun y s8 h8 => ?_) (fun _ _ z => z.elim)
        obtain ⟨v8, H8, I8, r8, hD8, w8⟩ := h8
        refine wpAny_mono (mt_append (X := compCx X M x scope cl C s2 H2 fp) _ s8 _ H8 (.ref D) [v8] (.ref D) [y] (fun _ H9 => H9 = upd H8 D (.lst (ys ++ [v8]))) I8 rfl (.cons r8 .nil) ⟨D, ys, v8, rfl, rfl, hD8, hlen, rfl⟩) (fun _ s9 h9 => ?_) (fun _ _ z => z.elim)
        obtain ⟨v9, H9, I9, _, e9⟩ := h9
        subst e9
        obtain ⟨b1, b2, b3⟩ := back I9
        exact ⟨m', hm, i + 1, _, _, _, b3, b1, b2, w8⟩
  exact codeAny_compStart_list (loop _ rfl) (T.self _ 0 _ _ _ (T.keep _ _ _ st2 (fun b _ o e => old b o e)) (loop _ rfl))
theorem pe_comp {M : List Str} {elt iter : Expr} {x : Str} {px pos : Pos} {ifs : List Expr} {scope : Scope} {cl : List (Str × Addr)} {wi : TI} {tt : TT} {te : TE} (hc : X.calm = true) (ok : CompOk X M x scope cl) (hi : PI X (.Name x px) iter wi)
    (ht : ∀ C s₀ H₀ fp, PIfs (compCx X M x scope cl C s₀ H₀ fp) ifs tt) (he : ∀ C s₀ H₀ fp, PE (compCx X M x scope cl C s₀ H₀ fp) elt te)
    (hs : ∀ x, foldedSetIterable iter X.env x = pure x := by intro _; rfl) :
    PE X (.ListComp elt [⟨.Name x px, iter, ifs, 0⟩] scope pos) (tComp wi tt te) := by
  intro pins s σ H Q I h
  rw [eval_ListComp]
  refine wpAny_comprehension_free (use := none) rfl hs ok.clos ok.kind ok.names (thn (hi pins s σ H _ I h) fun xv s1 h1 => thn h1 fun itv s2 h2 => ?_)
  obtain ⟨it, fp, tn, J, H2, e, I2, T, st2, f2, hW⟩ := h2
  subst e
  refine comp_core hc ok ht he I2 T st2 f2 hW (compPost (model X.prog X.w) X.A X.xe none (EP X pins σ Q)) fun D C H3 s4 I4 hm fC q => ?_
  obtain ⟨m, hn⟩ := hm
  exact ⟨m, hn, fun h' hsb => ⟨.ref D, H3, I4.turned (t' := s4.toks) (fun b o hb e => hsb.extBut b o hb e) fC.1 fC.2.1 fC.2.2.2.1 fC.2.2.2.2.1 fC.2.2.2.2.2, rfl, q⟩⟩
/-- name = [.. for x in ..] -/
theorem ps_setComp {M : List Str} {elt iter : Expr} {x y : Str} {px py pos spos : Pos} {ifs : List Expr} {scope : Scope} {cl : List (Str × Addr)} {wi : TI} {tt : TT} {te : TE} {i : Nat} (hN : X.N.Nodup) (hiy : X.N[i]? = some y) (hy : Loc X.env.scope y)
    (hc : X.calm = true) (ok : CompOk X M x scope cl) (hi : PI X (.Name x px) iter wi)
    (ht : ∀ C s₀ H₀ fp, PIfs (compCx X M x scope cl C s₀ H₀ fp) ifs tt) (he : ∀ C s₀ H₀ fp, PE (compCx X M x scope cl C s₀ H₀ fp) elt te)
    (hsw : swapsWith (.ListComp elt [⟨.Name x px, iter, ifs, 0⟩] scope pos) (some (.Name y py)) spos.line X.env = pure true := by with_unfolding_all rfl)
    (hf : X.fn y = true ∨ X.env.scope.names.lookup y = some .local := by first | exact .inl rfl | exact .inr rfl | assumption)
    (hs : ∀ x, foldedSetIterable iter X.env x = pure x := by intro _; rfl) :
    PS X (.Assign [.Name y py] (.ListComp elt [⟨.Name x px, iter, ifs, 0⟩] scope pos) spos) (tAsg (tComp wi tt te) (gName i)) := by
  intro pins s σ H D I h
  rw [exec_Assign_Name_used _ _ _ _ hsw]
  refine wpAny_bind (wpAny_standAt (wpAny_bind ?_))
  show wpAny _ X.A (do let _ ← comprehension (.ListComp elt [⟨.Name x px, iter, ifs, 0⟩] scope pos) scope X.env _ (newList []) false (eval iter X.env) (some (assign (.Name y py) X.env))) _ _ s
  refine wpAny_bind (wpAny_mono (wpAny_comprehension_free (use := some (assign (.Name y py) X.env)) (Q := fun _ s' => SP X pins D .next s') rfl hs ok.clos ok.kind ok.names
    (thn (hi pins s σ H _ I h) fun xv s1 h1 => thn h1 fun itv s2 h2 => ?_)) (fun _ s' hq => wpAny_pure (wpAny_pure hq)) fun _ _ e => e)
  obtain ⟨it, fp, tn, J, H2, e, I2, T, st2, f2, hW⟩ := h2
  subst e
  refine comp_core (Q := fun x H1 => gName i x σ H1 D.nx) hc ok ht he I2 T st2 f2 hW (compPost (model X.prog X.w) X.A X.xe (some (assign (.Name y py) X.env)) (fun _ s' => SP X pins D .next s')) fun Dd C H3 s4 I4 hm fC q => ?_
  obtain ⟨m, hn⟩ := hm
  show wpAny _ X.A (assign (.Name y py) X.env (.ref Dd)) _ _ _
  refine wpAny_assign_Name (store_ok2 I4 hN hiy hy (v := .ref Dd) rfl (fun s5 I5 hsb => ?_) hf)
  obtain ⟨a, sb, ha⟩ := hsb
  have hCa : C ≠ a := by
    rcases ha with rfl | ha
    · exact fC.2.1
    · exact (fC.2.2.2.2.1 _ _ ha).symm
  exact ⟨m, hn.sameBut sb hCa, fun h' hsb' => ⟨_, H3, I5.turned (t' := s5.toks) (fun b o hb e => hsb'.extBut b o hb e) fC.1 fC.2.1 fC.2.2.2.1 fC.2.2.2.2.1 fC.2.2.2.2.2, q⟩⟩

theorem vals_bls : ∀ {bs : List Bool} {us : List Value}, Vals (bs.map V.bl) us → us = bs.map Value.bool
  | [], _, .nil => rfl
  | b :: bs, u :: us, .cons r t => by
    cases (show u = Value.bool b from r)
    rw [vals_bls t]
    rfl
theorem range_allB (bs : List Bool) : ((List.range bs.length).all fun i => (bs[i]?).getD true) = bs.all id := by
  induction bs with
  | nil => rfl
  | cons b bs ih =>
    rw [List.length_cons, List.range_succ_eq_map, List.all_cons, List.all_map, List.all_cons, ← ih]
    rfl
theorem kept_it {s : Shared} {h' : Heap} {o : Obj} (hk : ∀ b x, b ∉ [s.heap.objs.size] → (s.heap.push o).get? b = some x → h'.get? b = some x) : ∀ b x, s.heap.get? b = some x → h'.get? b = some x :=
  fun b x e => hk b x (fun hm => by rw [List.mem_singleton.mp hm] at e; exact Nat.lt_irrefl _ (Heap.lt_size e)) (Heap.get?_push_of_some _ e)
theorem call_all (hc : X.calm = true) : CallR X (.builtin "all") (fun xs H Q => ∃ (p : Addr) (bs : List Bool), xs = [.ref p] ∧ SqL X.K H p (bs.map V.bl) ∧ Q (.bl (bs.all id)) H) := by
  intro pins s σ H xs us Q I r h
  obtain ⟨p, bs, rfl, hq, q⟩ := h
  obtain ⟨u, rfl, ru⟩ := vals1 r
  cases (show u = Value.ref p from ru)
  obtain ⟨its, rv, pl, _⟩ := I.list hq
  obtain rfl := vals_bls rv
  have hl := pl.isList
  have hlt : p < s.heap.objs.size := by obtain ⟨_, e, _⟩ := id hl; exact Heap.lt_size e
  refine call_all_walk (wpAny_pyIter_list hl ?_)
  refine ⟨s.heap.objs.size, [s.heap.objs.size, p], [s.heap.objs.size], (bs.map Value.bool).toArray.size, _, _, fun i => (bs[i]?).getD true, rfl, Walks.list (A := X.A.in1) (I.ok.hd hc) _ p (Nat.ne_of_lt hlt) (bs.map Value.bool).toArray,
    ⟨⟨_, Heap.get?_push_size _ rfl, rfl, rfl⟩, hl.push _⟩, fun i v s' Q' E' hP hQ => ?_, fun h' tk hk => ?_⟩
  · have hP' : (bs.map Value.bool)[i]? = some v := by simpa using hP
    rw [List.getElem?_map] at hP'
    cases e : bs[i]? with
    | none => rw [e] at hP'; cases hP'
    | some b =>
      rw [e] at hP'
      cases hP'
      simp only [e, Option.getD_some] at hQ
      exact wpAny_truthy_bool hQ
  · have e : ((List.range (bs.map Value.bool).toArray.size).all fun i => (bs[i]?).getD true) = bs.all id := by
      rw [List.size_toArray, List.length_map]; exact range_allB bs
    rw [e]
    exact ⟨.bl _, H, I.kept (kept_it hk), rfl, q⟩
theorem lookup_mem {κ β : Type} [BEq κ] [LawfulBEq κ] {k : κ} {v : β} : ∀ {l : List (κ × β)}, l.lookup k = some v → (k, v) ∈ l
  | (a, b) :: r, h => by
    rw [List.lookup_cons] at h
    cases e : k == a with
    | true =>
      rw [e] at h
      cases h
      rw [eq_of_beq e]
      exact List.mem_cons_self
    | false =>
      rw [e] at h
      exact List.mem_cons_of_mem _ (lookup_mem h)
theorem relabel_plain {scope : Scope} {env : Env} (h : ∀ y ∈ scope.names, y.2 ≠ .free) : (relabel scope env).names = scope.names :=
  map_eq_self fun x hx => by
    obtain ⟨n, k⟩ := x
    have : (k == NameKind.free) = false := by simpa using h _ hx
    simp [this]
/-- a comprehension that names nothing of the frame around it -/
theorem compOk_nil {x : Str} {scope : Scope} (N : List Str) (hN : X.N = N) (hf : ∀ y ∈ scope.names, y.2 ≠ .free ∧ y.2 ≠ .cell) (hk : scope.kind = .function) (hn : ∀ y ∈ scope.names, y.2 = .local → scope.names.lookup y.1 = some .local)
    (hx : scope.names.lookup x = some .local) (nd : (x :: N).Nodup) (vis : ∀ y ∈ N, scope.names.lookup y ≠ some .local) : CompOk X N x scope [] := by
  have e := relabel_plain (env := X.env) fun y hy => (hf y hy).1
  refine ⟨closureFor_none fun y hy => (hf y hy).1, fun y hy => (hf y hy).2, hk, hn, hx, nd, by rw [hN], fun y c h => (by cases h), fun y h => ?_, fun i y hy h => ?_⟩
  · rw [e] at h
    rcases h with h | h
    · exact absurd rfl (hf _ (lookup_mem h)).2
    · exact absurd rfl (hf _ (lookup_mem h)).1
  · rcases h with h | h | h
    · rw [e] at h; exact absurd h (vis y (List.mem_of_getElem? hy))
    · rw [e] at h; exact absurd rfl (hf _ (lookup_mem h)).2
    · rw [e] at h; exact absurd rfl (hf _ (lookup_mem h)).1
/-- what an iterator goes through, where the heap is as ok says -/
structure Walk (J : It) (ok : Hp → Prop) (xs : List V) : Prop where
  go : ∀ i H, ok H → i < xs.length → J.go i H
  yld : ∀ i H x H', ok H → J.yld i H x H' → i < xs.length → H' = H ∧ xs[i]? = some x
  stop : ∀ i H, ok H → xs.length ≤ i → J.stop i H
theorem walk_l {K : PySem.W.Frag} {a : Addr} {xs : List V} : Walk (Itl K a) (fun H => SqL K H a xs) xs :=
  ⟨fun i H h hi => ⟨xs, xs[i], h, by simp [hi]⟩, fun i H x H' h y hi => ⟨y.1, y.2 xs h⟩, fun i H h hi => ⟨xs, h, hi⟩⟩
theorem walk_t {K : PySem.W.Frag} {a : Addr} {xs : List V} : Walk (Itt K a) (fun H => SqT K H a xs) xs :=
  ⟨fun i H h hi => ⟨xs, xs[i], h, by simp [hi]⟩, fun i H x H' h y hi => ⟨y.1, y.2 xs h⟩, fun i H h hi => ⟨xs, h, hi⟩⟩
theorem walk_r {lo : Int} {n : Nat} : Walk (Itr lo n) (fun _ => True) ((List.range n).map fun i => V.int (lo + (i : Nat))) :=
  ⟨fun i H _ hi => (by show i < n; simpa using hi), fun i H x H' _ y hi => ⟨y.1, by
    have hi' : i < n := by simpa using hi
    rw [y.2]
    simp [hi']⟩, fun i H _ hi => (by show n ≤ i; simpa using hi)⟩
/-- the comprehension's list: f of the items that p lets through; tests and elements leave the heap as it is -/
theorem comp_by {J : It} {ok : Hp → Prop} {xs : List V} {σ : St} {H : Hp} {Q : VK} {tt : TT} {te : TE} (Wk : Walk J ok xs) (hz : xs.length < sizeLine) (hok : ∀ D ys, H D = none → ok (upd H D (.lst ys))) (p : V → Bool) (f : V → V)
    (ht : ∀ x ∈ xs, ∀ D ys (Q' : Bool → Hp → Prop), H D = none → Q' (p x) (upd H D (.lst ys)) → tt (some x :: σ) (upd H D (.lst ys)) Q')
    (he : ∀ x ∈ xs, p x = true → ∀ D ys (Q' : VK), H D = none → Q' (f x) (upd H D (.lst ys)) → te (some x :: σ) (upd H D (.lst ys)) Q')
    (h : ∀ D, H D = none → Q (.ref D) (upd H D (.lst ((xs.filter p).map f)))) :
    ∀ D, H D = none → ∃ W : Nat → Nat → List V → Hp → Prop, (∃ m, W 0 m [] (upd H D (.lst []))) ∧
      ∀ i m ys H2, W i m ys H2 → H2 D = some (.lst ys) ∧ ((J.stop i H2 ∧ Q (.ref D) H2) ∨ (J.go i H2 ∧ ys.length < sizeLine ∧ ∃ m', m' < m ∧ ∀ x H3, J.yld i H2 x H3 →
        tt (some x :: σ) H3 fun b H4 => if b = true then te (some x :: σ) H4 fun y H5 => H5 D = some (.lst ys) ∧ W (i + 1) m' (ys ++ [y]) (upd H5 D (.lst (ys ++ [y]))) else W (i + 1) m' ys H4)) := by
  intro D hD
  refine ⟨fun i m ys H2 => i ≤ xs.length ∧ m = xs.length - i ∧ ys = ((xs.take i).filter p).map f ∧ H2 = upd H D (.lst ys), ⟨_, Nat.zero_le _, rfl, by simp, rfl⟩, ?_⟩
  rintro i m ys H2 ⟨hi, rfl, hys, rfl⟩
  refine ⟨upd_same, ?_⟩
  by_cases hlt : i < xs.length
  · have hl : ys.length ≤ i := by
      rw [hys, List.length_map]
      exact Nat.le_trans (List.length_filter_le _ _) (by rw [List.length_take]; omega)
    refine .inr ⟨Wk.go i _ (hok D ys hD) hlt, by omega, xs.length - (i + 1), by omega, fun x H3 hy => ?_⟩
    obtain ⟨e3, ex⟩ := Wk.yld i _ x H3 (hok D ys hD) hy hlt
    subst e3
    have hm : x ∈ xs := List.mem_of_getElem? ex
    have et : xs.take (i + 1) = xs.take i ++ [x] := by rw [List.take_add_one, ex]; rfl
    refine ht x hm D ys _ hD ?_
    cases hp : p x with
    | false =>
      rw [if_neg Bool.false_ne_true]
      refine ⟨hlt, rfl, ?_, rfl⟩
      rw [et, List.filter_append, hys]
      simp [hp]
    | true =>
      rw [if_pos rfl]
      refine he x hm hp D ys _ hD ⟨upd_same, hlt, rfl, ?_, by rw [upd_upd]⟩
      rw [et, List.filter_append, hys]
      simp [hp]
  · have e : i = xs.length := by omega
    subst e
    refine .inl ⟨Wk.stop _ _ (hok D ys hD) (Nat.le_refl _), ?_⟩
    rw [hys, List.take_length]
    exact h D hD
theorem rd_rng1 {ta : TA} {σ : St} {H : Hp} {R : It → Hp → Prop} (h : ta σ H fun vs H1 => ∃ j : Int, vs = [.int j] ∧ -(2 ^ 62) ≤ j ∧ j < 2 ^ 62 ∧ R (Itr 0 j.toNat) H1) : iRng1 ta σ H R := h
theorem rd_rng2 {ta : TA} {σ : St} {H : Hp} {R : It → Hp → Prop} (h : ta σ H fun vs H1 => ∃ i j : Int, vs = [.int i, .int j] ∧ (-(2 ^ 62) ≤ i ∧ i < 2 ^ 62 ∧ -(2 ^ 62) ≤ j ∧ j < 2 ^ 62) ∧ R (Itr i (j - i).toNat) H1) : iRng2 ta σ H R := h
theorem rd_comp {wi : TI} {tt : TT} {te : TE} {σ : St} {H : Hp} {Q : VK} (h : wi σ H (CompR tt te σ Q)) : tComp wi tt te σ H Q := h
theorem comp_go {J : It} {ok : Hp → Prop} {xs : List V} {σ : St} {H : Hp} {Q : VK} {tt : TT} {te : TE} (Wk : Walk J ok xs) (hz : xs.length < sizeLine) (hok : ∀ D ys, H D = none → ok (upd H D (.lst ys))) (p : V → Bool) (f : V → V)
    (ht : ∀ x ∈ xs, ∀ D ys (Q' : Bool → Hp → Prop), H D = none → Q' (p x) (upd H D (.lst ys)) → tt (some x :: σ) (upd H D (.lst ys)) Q')
    (he : ∀ x ∈ xs, p x = true → ∀ D ys (Q' : VK), H D = none → Q' (f x) (upd H D (.lst ys)) → te (some x :: σ) (upd H D (.lst ys)) Q')
    (h : ∀ D, H D = none → Q (.ref D) (upd H D (.lst ((xs.filter p).map f)))) : CompR tt te σ Q J H := comp_by Wk hz hok p f ht he h
theorem comp_t {K : PySem.W.Frag} {i : Nat} {a : Addr} {xs : List V} {σ : St} {H : Hp} {Q : VK} {tt : TT} {te : TE} (ei : σ[i]? = some (some (.ref a))) (hS : SqT K H a xs) (hz : xs.length < sizeLine) (p : V → Bool) (f : V → V)
    (ht : ∀ x ∈ xs, ∀ D ys (Q' : Bool → Hp → Prop), H D = none → Q' (p x) (upd H D (.lst ys)) → tt (some x :: σ) (upd H D (.lst ys)) Q')
    (he : ∀ x ∈ xs, p x = true → ∀ D ys (Q' : VK), H D = none → Q' (f x) (upd H D (.lst ys)) → te (some x :: σ) (upd H D (.lst ys)) Q')
    (h : ∀ D, H D = none → Q (.ref D) (upd H D (.lst ((xs.filter p).map f)))) : tComp (iTup K (tVar i)) tt te σ H Q :=
  ⟨_, ei, a, rfl, ⟨_, hS⟩, comp_by walk_t hz (fun D ys hD => (same_new hD _).tup hS) p f ht he h⟩
theorem comp_l {K : PySem.W.Frag} {i : Nat} {a : Addr} {xs : List V} {σ : St} {H : Hp} {Q : VK} {tt : TT} {te : TE} (ei : σ[i]? = some (some (.ref a))) (hS : SqL K H a xs) (hz : xs.length < sizeLine) (p : V → Bool) (f : V → V)
    (ht : ∀ x ∈ xs, ∀ D ys (Q' : Bool → Hp → Prop), H D = none → Q' (p x) (upd H D (.lst ys)) → tt (some x :: σ) (upd H D (.lst ys)) Q')
    (he : ∀ x ∈ xs, p x = true → ∀ D ys (Q' : VK), H D = none → Q' (f x) (upd H D (.lst ys)) → te (some x :: σ) (upd H D (.lst ys)) Q')
    (h : ∀ D, H D = none → Q (.ref D) (upd H D (.lst ((xs.filter p).map f)))) : tComp (iList K (tVar i)) tt te σ H Q :=
  ⟨_, ei, a, rfl, ⟨_, hS⟩, comp_by walk_l hz (fun D ys hD => (same_new hD _).seq hS) p f ht he h⟩
theorem rd_true {σ : St} {H : Hp} {Q : Bool → Hp → Prop} (h : Q true H) : tTrue σ H Q := h

/-- a comprehension that names what its frame holds in cells -/
theorem compOk_freeM {x : Str} {scope : Scope} {cl : List (Str × Addr)} (M N : List Str) (hl : M.length = N.length) (hN : X.N = N) (clos : closureFor scope X.env = pure cl) (hc : (scope.names.all fun y => y.2 != .cell) = true) (hk : scope.kind = .function)
    (hn : (scope.names.all fun y => y.2 != .local || scope.names.lookup y.1 == some .local) = true) (hx : scope.names.lookup x = some .local) (nd : (x :: M).Nodup)
    (hs : ∀ p ∈ cl, X.env.cells.lookup p.1 = some p.2)
    (hh : ((relabel scope X.env).names.all fun p => (p.2 != .cell && p.2 != .free) || (cl.lookup p.1).isSome) = true)
    (hv : ((M.zip N).all fun q => match (relabel scope X.env).names.lookup q.1 with
      | some .local => false
      | some .cell => q.1 == q.2 && (X.env.scope.names.lookup q.1 == some .cell || X.env.scope.names.lookup q.1 == some .free)
      | some .free => q.1 == q.2 && (X.env.scope.names.lookup q.1 == some .cell || X.env.scope.names.lookup q.1 == some .free)
      | _ => true) = true) : CompOk X M x scope cl := by
  refine ⟨clos, fun y hy => ?_, hk, fun y hy hl => ?_, hx, nd, by rw [hN]; exact hl, fun y c h => hs _ (lookup_mem h), fun y h => ?_, fun i y hy h => ?_⟩
  · have := List.all_eq_true.mp hc y hy
    simpa using this
  · have := List.all_eq_true.mp hn y hy
    simpa [hl] using this
  · rcases h with h | h
    · have := List.all_eq_true.mp hh _ (lookup_mem h)
      exact Option.isSome_iff_exists.mp (by simpa using this)
    · have := List.all_eq_true.mp hh _ (lookup_mem h)
      exact Option.isSome_iff_exists.mp (by simpa using this)
  · have hi : i < N.length := by
      have := (List.getElem?_eq_some_iff.mp hy).1
      omega
    have hz : (y, N[i]) ∈ M.zip N := by
      have : (M.zip N)[i]? = some (y, N[i]) := List.getElem?_zip_eq_some.mpr ⟨hy, by simp [hi]⟩
      exact List.mem_of_getElem? this
    have z := List.all_eq_true.mp hv _ hz
    have fin : y = N[i] → X.N[i]? = some y := fun e => by rw [hN, e]; simp [hi]
    rcases h with h | h | h
    · dsimp only at z
      rw [h] at z; cases z
    · dsimp only at z
      rw [h] at z
      simp only [Bool.and_eq_true, beq_iff_eq, Bool.or_eq_true] at z
      exact ⟨fin z.1, .inl h, z.2⟩
    · dsimp only at z
      rw [h] at z
      simp only [Bool.and_eq_true, beq_iff_eq, Bool.or_eq_true] at z
      exact ⟨fin z.1, .inr h, z.2⟩
def ItrS (lo c : Int) (n : Nat) : It := ⟨fun i _ => i < n, fun i H x H' => H' = H ∧ x = .int (lo + i * c), fun i _ => n ≤ i⟩
def iRng3 (ta : TA) : TI := fun σ H R => ta σ H fun vs H1 => ∃ i j c : Int, vs = [.int i, .int j, .int c] ∧ 0 < c ∧ c < 1073741824 ∧ Builtin.Range.small i j c = true ∧ ∃ n : Nat, (n : Int) = Builtin.Range.rangeSize i j c ∧ R (ItrS i c n) H1
theorem rd_rng3 {ta : TA} {σ : St} {H : Hp} {R : It → Hp → Prop} (h : ta σ H fun vs H1 => ∃ i j c : Int, vs = [.int i, .int j, .int c] ∧ 0 < c ∧ c < 1073741824 ∧ Builtin.Range.small i j c = true ∧ ∃ n : Nat, (n : Int) = Builtin.Range.rangeSize i j c ∧ R (ItrS i c n) H1) : iRng3 ta σ H R := h
theorem dec_int0 {a b : Int} : decide (V.int a = V.int b) = decide (a = b) := by
  rw [Bool.eq_iff_iff]
  simp
theorem rd_for {wi : TI} {g : TG} {tb : TS} {D : Ends} {σ : St} {H : Hp} (h : wi σ H fun J H1 => ∃ W : Nat → Nat → St → Hp → Prop, (∃ m, W 0 m σ H1) ∧ ∀ i m σ H, W i m σ H →
  (J.stop i H ∧ D.nx σ H) ∨ (J.go i H ∧ ∃ N : St → Hp → Prop, (∀ σ' H', N σ' H' → ∃ m', m' < m ∧ W (i + 1) m' σ' H') ∧ ∀ x H', J.yld i H x H' → g x σ H' fun σ2 H2 => tb { D with nx := N, ct := N, bk := D.nx } σ2 H2)) : tFor wi g tb D σ H := h
theorem rd_iL {K : PySem.W.Frag} {tl : TE} {σ : St} {H : Hp} {R : It → Hp → Prop} (h : tl σ H fun x H1 => ∃ a, x = .ref a ∧ (∃ xs, SqL K H1 a xs) ∧ R (Itl K a) H1) : iList K tl σ H R := h
theorem rd_iT {K : PySem.W.Frag} {tl : TE} {σ : St} {H : Hp} {R : It → Hp → Prop} (h : tl σ H fun x H1 => ∃ a, x = .ref a ∧ (∃ xs, SqT K H1 a xs) ∧ R (Itt K a) H1) : iTup K tl σ H R := h
theorem same_app {H H' : Hp} {l : Addr} {o : HO} (h : H l = none) (s : Same H H') : Same H (upd H' l o) := fun b u e => by
  rw [upd_ne (ne_of_none e h)]
  exact s b u e
end
end L2

set_option Elab.async false
set_option linter.all false
set_option maxRecDepth 100000
set_option maxHeartbeats 4000000
namespace L2
open PySem PySem.Spec PyProof.Rows
/-- the object at e: its class, its dict, its head of tracebacks -/
def XObj (h : Heap) (e : Addr) (cls : Value) (dd : Option Addr) (head : Value) : Prop := ∃ vs sl, h.get? e = some ⟨cls, dd, .fields vs, sl⟩ ∧ vs[1]? = some head
/-- a traceback stands at its head, with the flight mark fl -/
def XTr (h base : Heap) (e : Addr) (cls : Value) (dd : Option Addr) (fl : Value) : Prop := ∃ T, XObj h e cls dd (.ref T) ∧ base.get? T = none ∧ T ≠ e ∧ ∃ oT ts, h.get? T = some oT ∧ oT.data = .fields ts ∧ ts[3]? = some fl
structure Sea (base : Heap) (l : List Env) (e : Addr) (h : Heap) : Prop where
  stays : base.StaysIn h
  new : base.get? e = none
  frames : h.FunFrames base l
section
variable {M : Model} {A : Around} {E : Value → Shared → Prop} {s : Shared} {base : Heap} {env : Env} {outer l : List Env} {L e : Addr} {cls : Value} {dd : Option Addr}
end
end L2

set_option Elab.async false
set_option linter.all false
set_option maxRecDepth 100000
set_option maxHeartbeats 4000000
namespace L2
open PySem PySem.Spec PyProof.Rows
/-- B holds what stood in h (but the frames at fs), what H does not track unchanged -/
def Old (fs : List Addr) (H : Hp) (h B : Heap) : Prop := ∀ b u, h.get? b = some u → b ∉ fs → ∃ u', B.get? b = some u' ∧ (H b = none → u' = u)
/-- B holds what is tracked -/
def Tra (H : Hp) (h B : Heap) : Prop := ∀ b o, H b = some o → ∃ u, h.get? b = some u ∧ B.get? b = some u
section
variable {P : Program} {w : World} {fs : List Addr} {H H' : Hp} {h h1 h2 B : Heap}
end
section
variable {X : Cx} {pins : List (Addr × Obj)} {σ : St} {H H' : Hp} {s : Shared}
end
theorem ObjOk.obj {P : Program} {w : World} {H : Hp} {h : Heap} {a : Addr} {o : HO} (x : ObjOk P w H h a o) : ∃ u, h.get? a = some u := by
  cases o with
  | lst xs => obtain ⟨_, _, _, _, e⟩ := x; exact ⟨_, e⟩
  | tup xs => obtain ⟨_, _, _, ob, e, _⟩ := x; exact ⟨_, e⟩
  | dK kvs => obtain ⟨_, _, _, _, ob, _, _, e, _⟩ := x; exact ⟨_, e⟩
  | dT kvs => obtain ⟨_, _, _, _, ob, _, _, e, _⟩ := x; exact ⟨_, e⟩
  | set S n => obtain ⟨ob, _, _, _, e, _⟩ := x; exact ⟨_, e⟩
  | ins C dx fs => obtain ⟨_, _, _, e, _⟩ := x; exact ⟨_, e⟩
  | own y => exact x
  | xd fs => obtain ⟨_, ⟨ob, _, _, e, _⟩, _⟩ := x; exact ⟨_, e⟩
  | rng lo hi => obtain ⟨_, _, _, e⟩ := x; exact ⟨_, e⟩
  | frz ob u => exact ⟨_, x.1⟩
  | tbl ps => exact ⟨_, x⟩
  | met f y => exact ⟨_, x⟩
  | ext φ => exact x.2.1
end L2

set_option Elab.async false
set_option linter.all false
set_option maxRecDepth 100000
set_option maxHeartbeats 4000000
namespace L2
open PySem PySem.Spec PyProof.Rows
section
variable {P : Program} {w : World} {K : PySem.W.Frag} {mg : Str → Option Value} {base : Heap}
end
def tCallE (sp : Sp) (EE : Value → Option Addr → St → Hp → Prop) (t : TA) : TE := fun σ H Q => t σ H fun vs H1 => sp (vs ++ []) H1 Q (fun c d H' => EE c d σ H')
section
variable {X : Cx} {EE : Value → Option Addr → St → Hp → Prop}
abbrev bmV : List Value := [.type "ValueError", .type "Exception", .type "BaseException", .type "object"]
def tRaise (C : Addr) (EE : Value → Option Addr → St → Hp → Prop) (ta : TA) : TS := fun _ σ H => ta σ H fun vs H1 => vs.length ≤ sizeLine ∧ EE (.ref C) none σ H1
end
end L2

set_option Elab.async false
set_option linter.all false
set_option maxRecDepth 100000
set_option maxHeartbeats 4000000
namespace L2
open PySem PySem.Spec PyProof.Rows
/-- within a try: another wish, the pins kept -/
abbrev Cx.tr (X : Cx) (xe : Value → Shared → Prop) (pn : List (Addr × Obj)) : Cx := { X with xe := xe, pn := pn }
/-- within a handler: the exception is marked, nothing is raised -/
abbrev Cx.hd (X : Cx) (e : Addr) : Cx := { X with A := X.A.mark (some (.ref e)), calm := false, xe := fun _ _ => False }
theorem Cx.Ok.tr {X : Cx} (ok : X.Ok) (xe : Value → Shared → Prop) (pn : List (Addr × Obj)) : (X.tr xe pn).Ok :=
  ⟨ok.mod, ok.kind, ok.glob, ok.blt, ok.above, ok.inj, ok.has, ok.cab, ok.hd, ok.frames, ok.stk, ok.exf, ok.bs, ok.bsz, ok.noex, ok.exfs, ok.funs, ok.frf⟩
/-- the exception object at ea, tracked: its class and its dict -/
def ExcO (a : Addr) (cls : Value) (dx : Option Addr) : HO := .ext fun h => ∃ vs sl, h.get? a = some ⟨cls, dx, .fields vs, sl⟩
structure Fl (X : Cx) (pins : List (Addr × Obj)) (σ : St) (H : Hp) (s' : Shared) (ea : Addr) (cls : Value) (dx : Option Addr) : Prop where
  ex : ∃ (s₀ : Shared) (H₀ : Hp) (B : Heap), Inv X pins σ H₀ s₀ ∧ s'.os = s₀.os ∧ AllBare s'.gens ∧ Un (frs X.stack) [] H₀ H s₀.heap s'.heap ∧ HOk X.prog X.w H s'.heap ∧ Sea B X.stack ea s'.heap ∧ XTr s'.heap B ea cls dx .none ∧ Old (frs X.stack) H₀ s₀.heap B ∧ Tra H s'.heap B
section
variable {X : Cx} {pins : List (Addr × Obj)} {σ : St} {H : Hp} {s : Shared} {ea : Addr} {cls : Value} {dx : Option Addr}
theorem Fl.obj (F : Fl X pins σ H s ea cls dx) : ∃ vs sl, s.heap.get? ea = some ⟨cls, dx, .fields vs, sl⟩ := by
  obtain ⟨s₀, H₀, B, I, os, bare, un, hok, sea, ⟨T, ⟨vs, sl, e, _⟩, _⟩, _⟩ := F.ex
  exact ⟨vs, sl, e⟩
/-- it was not there at the call -/
theorem Fl.free (F : Fl X pins σ H s ea cls dx) : H ea = none := by
  obtain ⟨s₀, H₀, B, I, os, bare, un, hok, sea, _, _, tra⟩ := F.ex
  cases z : H ea with
  | none => rfl
  | some o =>
    obtain ⟨u, _, q⟩ := tra ea o z
    rw [sea.new] at q; cases q
end
end L2

set_option Elab.async false
set_option linter.all false
set_option maxRecDepth 100000
set_option maxHeartbeats 4000000
namespace L2
open PySem PySem.Spec PyProof.Rows
section
variable {X : Cx} {pins : List (Addr × Obj)} {σ : St} {H : Hp} {s : Shared}
end
abbrev TH := Value → Option Addr → Addr → Ends → St → Hp → Prop
section
variable {X : Cx}
abbrev XE := Value → Option Addr → St → Hp → Prop
def tTry (tb : XE → TS) (th : TH) : TS := fun D σ H => tb (fun c d σ' H' => ∀ ea, H' ea = none → th c d ea D σ' H') D σ H
end
end L2

set_option Elab.async false
set_option linter.all false
set_option maxRecDepth 100000
set_option maxHeartbeats 4000000
namespace L2
open PySem PySem.Spec PyProof.Rows
section
variable {prog : Program} {w : World} {A : Around} {E : Value → Shared → Prop} {s : Shared} {K : PySem.W.Frag} {x D : Addr} {ox : Obj} {odo : Option Obj} {name : Str}
/-- what the class of an exception must have of the text -/
structure XGet (K : PySem.W.Frag) (D : Addr) : Prop where
  ga : PySem.W.findIn K (.ref D) "__getattribute__" = some (some (.builtin "BaseException.__getattribute__"))
  gk : PySem.W.findIn K (.ref D) "__getattr__" = some none
  be : PySem.W.mroIn K D (.type "BaseException") = some true
  ob : PySem.W.mroIn K D (.type "object") = some true
  ca : PySem.W.findIn K (.ref D) "__class__" = some (some (.builtin "object.__class__"))
  cl : (PySem.W.clsIn K D).isSome = true
  sp : PySem.W.specialIn K (.builtin "object.__class__") "__get__" = some (some (.builtin "getset_descriptor.__get__"))
  tk : PySem.W.takesIn K (.builtin "object.__class__") = some true
end
section
variable {X : Cx}
end
end L2

set_option Elab.async false
set_option linter.all false
set_option maxRecDepth 100000
set_option maxHeartbeats 4000000
namespace L2
open PySem PySem.Spec PyProof.Rows
structure RoomN (k : Nat) (A : Around) : Prop where
  dp : A.depth + 3 * k + 5 < recursionLimit
  un : A.units + 16 * k + 200 < cLine
  gd : A.guards = some []
theorem RoomN.mono {j k : Nat} {A : Around} (r : RoomN k A) (h : j ≤ k) : RoomN j A := ⟨by have := r.dp; omega, by have := r.un; omega, r.gd⟩
theorem RoomN.deeper {k : Nat} {A : Around} (r : RoomN (k + 1) A) (env : Env) : RoomN k (A.deeper env) :=
  ⟨by have := r.dp; show A.depth + 1 + 3 * k + 5 < _; omega, by have := r.un; show A.units + 3 + 16 * k + 200 < _; omega, r.gd⟩
theorem Room.marked {k : Nat} {A : Around} (r : Room k A) (e : Option Value) : RoomN k (A.mark e) := ⟨r.dp, r.un, r.gd⟩
theorem Room.toN {k : Nat} {A : Around} (r : Room k A) : RoomN k A := ⟨r.dp, r.un, r.gd⟩
theorem RoomN.depth {k : Nat} {A : Around} (r : RoomN k A) : A.depth < recursionLimit := by have := r.dp; omega
theorem RoomN.units0 {k : Nat} {A : Around} (r : RoomN k A) : A.units < cLine := by have := r.un; omega
section
variable {P : Program} {w : World} {K : PySem.W.Frag} {mg : Str → Option Value} {base : Heap}
end
section
variable {X : Cx}
end
theorem rel_ref (a : Addr) : RelV (.ref a) (.ref a) := rfl
theorem rd_callE {sp : Sp} {EE : XE} {t : TA} {σ : St} {H : Hp} {Q : VK} (h : t σ H fun vs H1 => sp (vs ++ []) H1 Q (fun c d H' => EE c d σ H')) : tCallE sp EE t σ H Q := h
theorem rd_raise {C : Addr} {EE : XE} {ta : TA} {D : Ends} {σ : St} {H : Hp} (h : ta σ H fun vs H1 => vs.length ≤ sizeLine ∧ EE (.ref C) none σ H1) : tRaise C EE ta D σ H := h
theorem rd_try {tb : XE → TS} {th : TH} {D : Ends} {σ : St} {H : Hp} (h : tb (fun c d σ' H' => ∀ ea, H' ea = none → th c d ea D σ' H') D σ H) : tTry tb th D σ H := h
section
variable {X : Cx}
end
end L2

set_option Elab.async false
set_option linter.all false
set_option maxRecDepth 100000
set_option maxHeartbeats 4000000
namespace L2
open PySem PySem.Spec PyProof.Rows
section
variable {prog : Program} {w : World} {A : Around} {E : Value → Shared → Prop} {h : Heap} {g : Array GenState} {d : Drawn} {t : Nat} {os : OsState} {K : PySem.W.Frag} {f : Addr}
variable {nm q : Str} {C N : Addr} {bs bm : List Value} {hdct : Bool} {sn : List Str} {sub : List Value} {ab : Bool} {col : Option Bool} {dd : Option Addr} {k0 k1 k2 k3 k5 : Option Value}
end
end L2

set_option Elab.async false
set_option linter.all false
set_option maxRecDepth 100000
set_option maxHeartbeats 4000000
namespace L2
open PySem PySem.Spec PyProof.Rows
section
variable {prog : Program} {w : World} {A : Around} {E : Value → Shared → Prop} {h : Heap} {g : Array GenState} {d : Drawn} {t : Nat} {os : OsState} {K : PySem.W.Frag} {e : Addr}
variable {nm q : Str} {C N : Addr} {bs bm : List Value} {hdct : Bool} {sn : List Str} {sub : List Value} {ab : Bool} {col : Option Bool} {dd : Option Addr} {k0 k1 k2 k3 k5 : Option Value} {newId : String}
variable {x CF : Addr} {cd : ClassData} {name : Str} {v : Value} {vs : Array Value} {sl : Array (Option Value)}
end
end L2

set_option Elab.async false
set_option linter.all false
set_option maxRecDepth 100000
set_option maxHeartbeats 4000000
namespace L2
open PySem PySem.Spec PyProof.Rows
structure XOwn (K : PySem.W.Frag) (C CF : Addr) : Prop where
  obj : ∃ dd cd k0 k1 k2 k3 k5, K.lookup C = some ⟨.type "type", dd, .cls cd, #[k0, k1, k2, k3, some (.builtin "ValueError.__new__"), k5]⟩ ∧ cd.mro = .ref C :: .ref CF :: bmV ∧ cd.hasDel = false ∧ cd.hasDict = true
  base : PySem.W.excIn K CF bmV "ValueError.__new__" = true
  sa : PySem.W.findIn K (.ref C) "__setattr__" = some (some (.builtin "object.__setattr__"))
section
variable {K : PySem.W.Frag} {C CF : Addr} {h : Heap}
theorem XOwn.cls (O : XOwn K C CF) : ∃ cd, PySem.W.clsIn K C = some cd ∧ cd.mro = .ref C :: .ref CF :: bmV ∧ cd.hasDict = true := by
  obtain ⟨dd, cd, k0, k1, k2, k3, k5, e, m, _, hd⟩ := O.obj
  refine ⟨cd, ?_, m, hd⟩
  unfold PySem.W.clsIn
  rw [e]
theorem XOwn.at (O : XOwn K C CF) (KX : K.In h) : ∃ N nm qn bs hd sn sub ab col dd k0 k1 k2 k3 k5, h.get? C = some (excClassObj nm qn C N bs (.ref CF :: bmV) hd sn sub ab col dd k0 k1 k2 k3 k5 "ValueError.__new__") := by
  obtain ⟨dd, cd, k0, k1, k2, k3, k5, e, m, hdel, hd⟩ := O.obj
  obtain ⟨nm, bs, mro, ns, qn, hd, sn, sub, ab, col, del⟩ := cd
  dsimp only at m hdel
  subst m hdel
  exact ⟨_, _, _, _, _, _, _, _, _, _, _, _, _, _, _, KX _ _ e⟩
end
/-- a new exception at a, tracked: its class and its dict; it has not been raised -/
def ExcN (a : Addr) (cls : Value) (dx : Option Addr) : HO := .ext fun h => ∃ vs sl t1, h.get? a = some ⟨cls, dx, .fields vs, sl⟩ ∧ vs[0]? = some (.ref t1) ∧ vs[1]? = some .none
section
variable {X : Cx} {pins : List (Addr × Obj)} {σ : St} {H : Hp} {s : Shared} {h' : Heap}
def sXF1 (K : PySem.W.Frag) (ta tv : TE) (f : Str) : TS := fun D σ H => tv σ H fun y H1 => ta σ H1 fun x H2 => ∃ a C CF, x = .ref a ∧ H2 a = some (ExcN a (.ref C) none) ∧ XOwn K C CF ∧ PySem.W.findIn K (.ref C) f = some none ∧
  ∀ d, H2 d = none → D.nx σ (upd (upd H2 d (.xd [(f, y)])) a (ExcN a (.ref C) (some d)))
def sXF2 (K : PySem.W.Frag) (ta tv : TE) (f : Str) : TS := fun D σ H => tv σ H fun y H1 => ta σ H1 fun x H2 => ∃ a C CF d fs, x = .ref a ∧ H2 a = some (ExcN a (.ref C) (some d)) ∧ H2 d = some (.xd fs) ∧ fs.length ≤ 900 ∧ XOwn K C CF ∧ PySem.W.findIn K (.ref C) f = some none ∧
  D.nx σ (upd H2 d (.xd (putF f y fs)))
variable {o value : Expr} {f : Str} {pos pos' : Pos} {ta tv : TE}
def tXI (K : PySem.W.Frag) (t : TA) : TE := fun σ H Q => t σ H fun vs H1 => ∃ a C CF dx rest, vs = .ref a :: rest ∧ H1 a = some (ExcN a (.ref C) dx) ∧ XOwn K C CF ∧ rest.length ≤ sizeLine ∧ Q .non H1
end
section
variable {M : Model} {A : Around} {E : Value → Shared → Prop}
end
end L2

set_option Elab.async false
set_option linter.all false
set_option maxRecDepth 100000
set_option maxHeartbeats 4000000
namespace L2
open PySem PySem.Spec PyProof.Rows
section
variable {X : Cx} {EE : Value → Option Addr → St → Hp → Prop}
end
end L2

set_option Elab.async false
set_option linter.all false
set_option maxRecDepth 100000
set_option maxHeartbeats 4000000
namespace L2
open PySem PySem.Spec PyProof.Rows
def intT (i : Int) : Str := Str.ofString (toString i)
def shI (is : List Int) : Str := tupleText (is.map intT)
/-- the text that an f-string makes of a value -/
inductive FmtV (K : PySem.W.Frag) (H : Hp) : V → Str → Prop
  | int {i : Int} : i.natAbs.log2 < 1920 → FmtV K H (.int i) (intT i)
  | str {z : Str} : z.length ≤ sizeLine → FmtV K H (.str z) z
  | tup {a : Addr} {is : List Int} : SqT K H a (is.map V.int) → (∀ i ∈ is, i.natAbs.log2 < 1920) → (shI is).length ≤ sizeLine → FmtV K H (.ref a) (shI is)
theorem shownAll_ints : ∀ is : List Int, PyData.shownAll (is.map PyData.int) = is.map intT
  | [] => by simp [PyData.shownAll]
  | i :: is => by simp only [List.map_cons, PyData.shownAll, PyData.shown, shownAll_ints is]; rfl
theorem showableAll_ints : ∀ is : List Int, (∀ i ∈ is, i.natAbs.log2 < 1920) → PyData.showableAll (is.map PyData.int) = true
  | [], _ => by simp [PyData.showableAll]
  | i :: is, h => by
    simp only [List.map_cons, PyData.showableAll, PyData.showable, showableAll_ints is fun j hj => h j (List.mem_cons_of_mem _ hj), Bool.and_true, decide_eq_true_eq]
    exact h i (List.mem_cons_self ..)
theorem hasDictAll_ints : ∀ is : List Int, PyData.hasDictAll (is.map PyData.int) = false
  | [] => by simp [PyData.hasDictAll]
  | i :: is => by simp only [List.map_cons, PyData.hasDictAll, PyData.hasDict, hasDictAll_ints is, Bool.or_self]
theorem depthAll_ints : ∀ is : List Int, PyData.depthAll (is.map PyData.int) ≤ 1
  | [] => by simp [PyData.depthAll]
  | i :: is => by
    have := depthAll_ints is
    simp only [List.map_cons, PyData.depthAll, PyData.depth]
    omega
theorem readsAll_ints {h : Heap} : ∀ {is : List Int} {us : List Value}, Vals (is.map V.int) us → ReadsAll h us (is.map PyData.int) []
  | [], _, .nil => .nil
  | i :: is, _, .cons r t => by
    obtain ⟨tk, rfl⟩ := (show ∃ tk, _ = Value.int i tk from r)
    exact .cons (as := []) (bs := []) (.int i tk) (readsAll_ints t)
section
variable {X : Cx} {pins : List (Addr × Obj)} {σ : St} {H : Hp} {s : Shared}
theorem fmt_ok {k : Nat} {x : V} {u : Value} {y : Str} {Q : VK} (hr : RoomN k X.A) (I : Inv X pins σ H s) (r : RelV x u) (f : FmtV X.K H x y) (q : Q (.str y) H) : wpAny (model X.prog X.w) X.A (formatField u Str.empty) (EP X pins σ Q) X.xe s := by
  cases f with
  | int h =>
    obtain ⟨t, rfl⟩ := (show ∃ t, u = Value.int _ t from r)
    exact wpAny_formatField_int h ⟨.str (intT _), H, I.tok _, ⟨_, rfl⟩, q⟩
  | str h =>
    obtain ⟨t, rfl⟩ := (show ∃ t, u = Value.str y t from r)
    exact wpAny_formatField_str ⟨.str y, H, I, ⟨_, rfl⟩, q⟩ ⟨.str y, H, I.tok _, ⟨_, rfl⟩, q⟩ h
  | @tup a is hs hi hz =>
    cases (show u = Value.ref a from r)
    obtain ⟨its, vr, ⟨o, ho, hc, n, hd⟩, hl⟩ := I.tuple hs
    have rd : Reads s.heap (.ref a) (.tuple (is.map PyData.int)) [] := .tuple ho hc hd (readsAll_ints vr)
    have e : (PyData.tuple (is.map PyData.int)).shown = shI is := by simp only [PyData.shown, shownAll_ints]; rfl
    have hdp : (PyData.tuple (is.map PyData.int)).depth ≤ 3 := by
      have := depthAll_ints is
      simp only [PyData.depth]
      omega
    refine formatField_of_reads rd (by simp only [PyData.showable]; exact showableAll_ints is hi) (PyData.noDict_hsm (by simp only [PyData.hasDict]; exact hasDictAll_ints is)) hr.gd (by have := hr.un; omega) (fun _ _ z => z) (fun h' u tk hk => ?_) (by rw [e]; exact hz)
    rw [e]
    exact ⟨.str (shI is), H, I.kept hk, ⟨_, rfl⟩, q⟩
end
def tFmt (K : PySem.W.Frag) (tv : TE) : TE := fun σ H Q => tv σ H fun x H1 => ∃ y, FmtV K H1 x y ∧ Q (.str y) H1
abbrev TJ := Str → St → Hp → VK → Prop
def PJ (X : Cx) (es : List Expr) (t : TJ) : Prop := ∀ (pins : List (Addr × Obj)) (s : Shared) (σ : St) (H : Hp) (out : Str) (Q : VK), Inv X pins σ H s → t out σ H Q → wpAny (model X.prog X.w) X.A (joinParts out (evalEach es X.env)) (EP X pins σ Q) X.xe s
def jNil : TJ := fun out _ H Q => out.length ≤ sizeLine ∧ Q (.str out) H
def jCons (te : TE) (t : TJ) : TJ := fun out σ H Q => te σ H fun x H1 => ∃ y, x = .str y ∧ (out ++ y).length ≤ sizeLine ∧ t (out ++ y) σ H1 Q
def tJoin (t : TJ) : TE := fun σ H Q => t Str.empty σ H Q
section
variable {X : Cx} {k : Nat} {e e₂ : Expr} {es : List Expr} {te : TE} {t : TJ} {pos : Pos}
theorem pe_fmt (hr : RoomN k X.A) (h : PE X e te) : PE X (.FormattedValue e (-1) none pos) (tFmt X.K te) := by
  intro pins s σ H Q I hw
  refine FormattedValue_plain (thn (h pins s σ H _ I hw) fun u s1 ⟨x, H1, I1, r, y, f, q⟩ => ?_)
  exact fmt_ok hr I1 r f q
theorem pj_nil : PJ X [] jNil := fun pins s σ H out Q I h => joinParts_nil ⟨.str out, H, I.tok _, ⟨_, rfl⟩, h.2⟩ h.1
theorem pj_cons (h1 : PE X e te) (h2 : PJ X es t) : PJ X (e :: es) (jCons te t) := by
  intro pins s σ H out Q I h
  show wpAny _ _ (joinParts out (eval e X.env :: evalEach es X.env)) _ _ _
  refine joinParts_cons (thn (h1 pins s σ H _ I h) fun u s1 ⟨x, H1, I1, r, y, ex, hz, q⟩ => ?_)
  subst ex
  obtain ⟨tk, rfl⟩ := (show ∃ tk, u = Value.str y tk from r)
  exact ⟨hz, h2 pins s1 σ H1 (out ++ y) Q I1 q⟩
theorem pe_join (h : PJ X (e :: e₂ :: es) t) : PE X (.JoinedStr (e :: e₂ :: es) pos) (tJoin t) := fun pins s σ H Q I hw => JoinedStr_many (h pins s σ H Str.empty Q I hw)
end
def tXGet (K : PySem.W.Frag) (ta : TE) (f : Str) : TE := fun σ H Q => ta σ H fun x H1 => ∃ a C d fs v, x = .ref a ∧ H1 a = some (ExcO a (.ref C) (some d)) ∧ H1 d = some (.xd fs) ∧ XGet K C ∧ PySem.W.hasDictIn K C = true ∧ PySem.W.findIn K (.ref C) f = some none ∧ fs.lookup f = some v ∧ Q v H1
section
variable {X : Cx} {e : Expr} {f : Str} {pos : Pos} {ta : TE}
end
end L2

set_option Elab.async false
set_option linter.all false
set_option maxRecDepth 100000
set_option maxHeartbeats 4000000
namespace L2
open PySem PySem.Spec PyProof.Rows
section
variable {X : Cx} {EE : Value → Option Addr → St → Hp → Prop}
structure CalM (P : Program) (w : World) (K : PySem.W.Frag) (mg : Str → Option Value) (base : Heap) (CX : CXT) (k : Nat) (C : Addr) (m : Str) (ps : List Str) (sp : Sp) : Prop where
  ex : ∃ (f : Addr) (fd : FuncData), FnOk P w K mg base CX k f fd ps sp ∧ Binds K fd ps [] ∧ Meth K C m f
structure CalI (P : Program) (w : World) (K : PySem.W.Frag) (mg : Str → Option Value) (base : Heap) (CX : CXT) (k : Nat) (x : Str) (C : Addr) (ps : List Str) (sp : Sp) : Prop where
  ex : ∃ (f : Addr) (fd : FuncData), FnOk P w K mg base CX k f fd ps sp ∧ Binds K fd ps [] ∧ Mk K C f ∧ mg x = some (.ref C)
variable {C : Addr} {m x : Str} {k : Nat} {ps : List Str} {sp : Sp} {o e : Expr} {es : List Expr} {ta : TE} {t : TA} {apos pos p : Pos}
theorem pe_mcal {pl : Sem Bool} (O : CalM X.prog X.w X.K X.mg X.base CX0 k C m ps sp) (c : Cls X.K C) (hr : Room k X.A) (he : PE X o ta) (ha : PA X (e :: es) t)
    (hst : starEach (e :: es) X.env = (false, eval e X.env) :: starEach es X.env := by rfl) (hpl : (backTo pos (starEach es X.env)).any (·.1) = false := by rfl)
    (ht : eval (.Call (.Attribute o m apos) (e :: es) [] pos) X.env = (do
      let ov ← eval o X.env
      standAt apos.atName
      let (f, first) ← holding [ov] (getMethod ov m pl)
      callWith pos f first (backTo pos (starEach (e :: es) X.env)) (backToKw pos (keywordEach [] X.env))) := by rfl) :
    PE X (.Call (.Attribute o m apos) (e :: es) [] pos) (tMeth C m sp [] E0 ta t) := by
  obtain ⟨f, fd, F, hb, M⟩ := O.ex
  exact pe_meth (pl := pl) he c M F hr hb .nil pass0 ha hst hpl ht
theorem pe_mcal0 {pl : Sem Bool} (O : CalM X.prog X.w X.K X.mg X.base CX0 k C m ps sp) (c : Cls X.K C) (hr : Room k X.A) (he : PE X o ta)
    (ht : eval (.Call (.Attribute o m apos) [] [] pos) X.env = (do
      let ov ← eval o X.env
      standAt apos.atName
      let (f, first) ← holding [ov] (getMethod ov m pl)
      callWith pos f first (backTo pos (starEach [] X.env)) (backToKw pos (keywordEach [] X.env))) := by rfl) :
    PE X (.Call (.Attribute o m apos) [] [] pos) (tMeth C m sp [] E0 ta tNil) := by
  obtain ⟨f, fd, F, hb, M⟩ := O.ex
  exact pe_meth0 (pl := pl) he c M F hr hb .nil pass0 ht
theorem pe_mk (O : CalI X.prog X.w X.K X.mg X.base CX0 k x C ps sp) (hr : Room (k + 1) X.A) (hg : Gl X x) (ha : PA X (e :: es) t)
    (hdb : (x == ("__debug__" : Str)) = false := by decide) (he : starEach (e :: es) X.env = (false, eval e X.env) :: starEach es X.env := by rfl) (hpl : (backTo pos (starEach es X.env)).any (·.1) = false := by rfl) :
    PE X (.Call (.Name x p) (e :: es) [] pos) (tMake C sp [] E0 t) := by
  obtain ⟨f, fd, F, hb, M, hm⟩ := O.ex
  exact pe_make M F hr hg hm hb .nil pass0 ha hdb he hpl
/-- o.m(..) that may raise -/
def tMethE (C : Addr) (m : Str) (sp : Sp) (EE : Value → Option Addr → St → Hp → Prop) (ta : TE) (t : TA) : TE := fun σ H Q => ta σ H fun x H1 => ∃ a dx fs, x = .ref a ∧ H1 a = some (.ins C dx fs) ∧ fs.lookup m = none ∧
  t σ H1 fun vs H2 => sp (x :: (vs ++ [])) H2 Q (fun c d H' => EE c d σ H')
def tMakeE (C : Addr) (sp : Sp) (EE : Value → Option Addr → St → Hp → Prop) (t : TA) : TE := fun σ H Q => t σ H fun vs H1 => ∀ x dx, H1 x = none → H1 dx = none → dx ≠ x →
  sp (.ref x :: (vs ++ [])) (upd (upd H1 dx (.own x)) x (.ins C dx [])) (fun v H2 => v = .non ∧ Q (.ref x) H2) (fun c d H' => EE c d σ H')
end
end L2

set_option Elab.async false
set_option linter.all false
set_option maxRecDepth 100000
set_option maxHeartbeats 4000000
namespace L2
open PySem PySem.Spec PyProof.Rows
theorem intT_len {i : Int} (h : i.natAbs.log2 < 1920) : (intT i).length ≤ 1921 := by
  have e := int_text_length_le (k := 1920) (by decide) h
  unfold intT
  rw [PySem.ofString_length]; omega
theorem fits {s : Str} {n : Nat} (h : s.length ≤ n) (hn : n ≤ 100000) : s.length ≤ sizeLine := Nat.le_trans h (Nat.le_trans hn (by decide))
theorem rd_join {t : TJ} {σ : St} {H : Hp} {Q : VK} (h : t Str.empty σ H Q) : tJoin t σ H Q := h
theorem rd_jnil {out : Str} {σ : St} {H : Hp} {Q : VK} (h : out.length ≤ sizeLine) (q : Q (.str out) H) : jNil out σ H Q := ⟨h, q⟩
/-- a text in the braces -/
theorem rd_js {K : PySem.W.Frag} {j : Nat} {z : Str} {t : TJ} {out : Str} {σ : St} {H : Hp} {Q : VK} (n m : Nat) (hn : out.length ≤ n) (hm : z.length ≤ m) (hz : n + m ≤ 100000) (hv : σ[j]? = some (some (.str z))) (h : (out ++ z).length ≤ n + m → t (out ++ z) σ H Q) :
    jCons (tFmt K (tVar j)) t out σ H Q := by
  have e : (out ++ z).length ≤ n + m := by rw [strLen_append]; omega
  exact ⟨.str z, hv, z, .str (fits hm (by omega)), z, rfl, fits e hz, h e⟩
theorem rd_xinit {K : PySem.W.Frag} {t : TA} {σ : St} {H : Hp} {Q : VK} (h : t σ H fun vs H1 => ∃ a C CF dx rest, vs = .ref a :: rest ∧ H1 a = some (ExcN a (.ref C) dx) ∧ XOwn K C CF ∧ rest.length ≤ sizeLine ∧ Q .non H1) : tXI K t σ H Q := h
theorem rd_xf1 {K : PySem.W.Frag} {ta tv : TE} {f : Str} {D : Ends} {σ : St} {H : Hp} (h : tv σ H fun y H1 => ta σ H1 fun x H2 => ∃ a C CF, x = .ref a ∧ H2 a = some (ExcN a (.ref C) none) ∧ XOwn K C CF ∧ PySem.W.findIn K (.ref C) f = some none ∧
  ∀ d, H2 d = none → D.nx σ (upd (upd H2 d (.xd [(f, y)])) a (ExcN a (.ref C) (some d)))) : sXF1 K ta tv f D σ H := h
theorem rd_xf2 {K : PySem.W.Frag} {ta tv : TE} {f : Str} {D : Ends} {σ : St} {H : Hp} (h : tv σ H fun y H1 => ta σ H1 fun x H2 => ∃ a C CF d fs, x = .ref a ∧ H2 a = some (ExcN a (.ref C) (some d)) ∧ H2 d = some (.xd fs) ∧ fs.length ≤ 900 ∧ XOwn K C CF ∧ PySem.W.findIn K (.ref C) f = some none ∧
  D.nx σ (upd H2 d (.xd (putF f y fs)))) : sXF2 K ta tv f D σ H := h
theorem rd_xget {K : PySem.W.Frag} {ta : TE} {f : Str} {σ : St} {H : Hp} {Q : VK} (h : ta σ H fun x H1 => ∃ a C d fs v, x = .ref a ∧ H1 a = some (ExcO a (.ref C) (some d)) ∧ H1 d = some (.xd fs) ∧ XGet K C ∧ PySem.W.hasDictIn K C = true ∧ PySem.W.findIn K (.ref C) f = some none ∧ fs.lookup f = some v ∧ Q v H1) : tXGet K ta f σ H Q := h
end L2

set_option Elab.async false
set_option linter.all false
set_option maxRecDepth 100000
set_option maxHeartbeats 4000000
namespace L2
open PySem PySem.Spec PyProof.Rows
section
variable {X : Cx}
def rNeT (K : PySem.W.Frag) : R2 := fun x y H Q => ∃ a b xs ys, x = .ref a ∧ y = .ref b ∧ SqT K H a xs ∧ SqT K H b ys ∧ xs.all flatV = true ∧ ys.all flatV = true ∧ Q (.bl (!eqVs xs ys)) H
theorem op_neT (hu : X.A.units < cLine) : OpR X (compareOp .NotEq) (rNeT X.K) := by
  intro pins s σ H x y v u Q I rx ry h
  obtain ⟨a, b, xs, ys, rfl, rfl, ha, hb, fx, fy, q⟩ := h
  cases rx
  cases ry
  obtain ⟨its, r, pl, _⟩ := I.tuple ha
  obtain ⟨its', r', pl', _⟩ := I.tuple hb
  obtain ⟨e, h1, h2⟩ := eqVs_range r r' fx fy
  exact SeqAt.RcNeAt.tuples (e := e) pl pl' hu (fun j k1 k2 => h1 _ _ j k1 k2) _ _ _ _ (by rw [h2]; exact ⟨.bl _, H, I, rfl, q⟩)
theorem rd_neT {K : PySem.W.Frag} {a b : Addr} {xs ys : List V} {H : Hp} {Q : VK} (ha : SqT K H a xs) (hb : SqT K H b ys) (fx : xs.all flatV = true) (fy : ys.all flatV = true) (q : Q (.bl (!eqVs xs ys)) H) : rNeT K (.ref a) (.ref b) H Q := ⟨a, b, xs, ys, rfl, rfl, ha, hb, fx, fy, q⟩
theorem rd_par {i j : Nat} {ta : TA} {D : Ends} {σ : St} {H : Hp} (h : ta σ H fun vs H1 => ∃ v w, vs = [v, w] ∧ D.nx ((σ.set i (some v)).set j (some w)) H1) : tPar i j ta D σ H := h
theorem rd_ifE {t : TT} {ta tb : TE} {σ : St} {H : Hp} {Q : VK} (h : t σ H fun c H1 => if c = true then ta σ H1 Q else tb σ H1 Q) : tIf t ta tb σ H Q := h
def rEqL (K : PySem.W.Frag) : R2 := fun x y H Q => ∃ (a b : Addr) (ns ms : List Int), x = .ref a ∧ y = .ref b ∧ SqL K H a (ns.map V.int) ∧ SqL K H b (ms.map V.int) ∧ Q (.bl (decide (ns = ms))) H
theorem op_eqL (hu : X.A.units + 64 < cLine) : OpR X (compareOp .Eq) (rEqL X.K) := by
  intro pins s σ H x y v u Q I rx ry h
  obtain ⟨a, b, ns, ms, rfl, rfl, ha, hb, q⟩ := h
  cases rx
  cases ry
  obtain ⟨its, r, pl, _⟩ := I.list ha
  obtain ⟨its', r', pl', _⟩ := I.list hb
  exact PySem.W.ke_eq_ints pl.isList pl'.isList (intsAre_of r) (intsAre_of r') hu ⟨.bl _, H, I, rfl, q⟩
theorem rd_eqL {K : PySem.W.Frag} {a b : Addr} {ns ms : List Int} {H : Hp} {Q : VK} (ha : SqL K H a (ns.map V.int)) (hb : SqL K H b (ms.map V.int)) (q : Q (.bl (decide (ns = ms))) H) : rEqL K (.ref a) (.ref b) H Q := ⟨a, b, ns, ms, rfl, rfl, ha, hb, q⟩
def rSum (K : PySem.W.Frag) : List V → Hp → VK → Prop := fun xs H Q => ∃ (p : Addr) (ns : List Int), xs = [.ref p] ∧ SqL K H p (ns.map V.int) ∧ Q (.int ns.sum) H
theorem call_sum (hc : X.calm = true) : CallR X (.builtin "sum") (rSum X.K) := by
  intro pins s σ H xs us Q I r h
  obtain ⟨p, ns, rfl, hq, q⟩ := h
  obtain ⟨u, rfl, ru⟩ := vals1 r
  cases (show u = Value.ref p from ru)
  obtain ⟨its, rv, pl, _⟩ := I.list hq
  have hi := intsAre_of rv
  obtain ⟨xs, hx⟩ := hi.allInts.items
  have hl' : s.heap.IsList p (intItems xs) := hx ▸ pl.isList
  refine sum_intListG (I.ok.hd hc) hl' fun h' tk t' hk => ?_
  have e1 : ns = xs.toList.map (·.1) := by
    rw [← nums_intItems, ← hx]
    exact (show numsOf its.toArray.toList = ns from hi.numsOf).symm
  have e2 : preSum (numAt xs) xs.size = ns.sum := by
    rw [preSum_eq, List.take_of_length_le (by simp), e1]
  rw [e2]
  exact ⟨.int ns.sum, H, I.kept hk, ⟨_, rfl⟩, q⟩
def rMinL (K : PySem.W.Frag) : List V → Hp → VK → Prop := fun xs H Q => ∃ (p : Addr) (ns : List Int), xs = [.ref p] ∧ SqL K H p (ns.map V.int) ∧ ns ≠ [] ∧ ∀ m, m ∈ ns → (∀ a ∈ ns, m ≤ a) → Q (.int m) H
def rMaxL (K : PySem.W.Frag) : List V → Hp → VK → Prop := fun xs H Q => ∃ (p : Addr) (ns : List Int), xs = [.ref p] ∧ SqL K H p (ns.map V.int) ∧ ns ≠ [] ∧ ∀ m, m ∈ ns → (∀ a ∈ ns, a ≤ m) → Q (.int m) H
theorem call_minL (hc : X.calm = true) : CallR X (.builtin "min") (rMinL X.K) := by
  intro pins s σ H xs us Q I r h
  obtain ⟨p, ns, rfl, hq, hne, q⟩ := h
  obtain ⟨u, rfl, ru⟩ := vals1 r
  cases (show u = Value.ref p from ru)
  obtain ⟨its, rv, pl, _⟩ := I.list hq
  have hi := intsAre_of rv
  obtain ⟨xs, e⟩ := hi.allInts.items
  have hns : ns = xs.toList.map (·.1) := by
    rw [← nums_intItems, ← e]
    exact (show numsOf its.toArray.toList = ns from hi.numsOf).symm
  have hsz : 0 < xs.size := by
    have h3 := List.length_pos_iff.mpr hne; rw [hns, List.length_map, Array.length_toList] at h3; exact h3
  have hl' : s.heap.IsList p (intItems xs) := e ▸ pl.isList
  refine min_intList (I.ok.hd hc) hl' hsz fun v h' tk hv hk => ?_
  obtain ⟨t, rfl⟩ := intItems_at hv
  obtain ⟨h1, h2⟩ := argBest_lt (numAt xs) (xs.size - 1)
  refine ⟨.int _, H, I.kept hk, ⟨_, rfl⟩, q _ ?_ fun a ha => ?_⟩
  · rw [hns, numAt_eq]; exact getD_mem (by rw [List.length_map, Array.length_toList]; omega)
  · rw [hns] at ha
    obtain ⟨j, hj, rfl⟩ := mem_getD ha
    rw [List.length_map, Array.length_toList] at hj
    rw [← numAt_eq]; exact h2 j (by omega)
theorem call_maxL (hc : X.calm = true) : CallR X (.builtin "max") (rMaxL X.K) := by
  intro pins s σ H xs us Q I r h
  obtain ⟨p, ns, rfl, hq, hne, q⟩ := h
  obtain ⟨u, rfl, ru⟩ := vals1 r
  cases (show u = Value.ref p from ru)
  obtain ⟨its, rv, pl, _⟩ := I.list hq
  have hi := intsAre_of rv
  obtain ⟨xs, e⟩ := hi.allInts.items
  have hns : ns = xs.toList.map (·.1) := by
    rw [← nums_intItems, ← e]
    exact (show numsOf its.toArray.toList = ns from hi.numsOf).symm
  have hsz : 0 < xs.size := by
    have h3 := List.length_pos_iff.mpr hne; rw [hns, List.length_map, Array.length_toList] at h3; exact h3
  have hl' : s.heap.IsList p (intItems xs) := e ▸ pl.isList
  refine max_intList (I.ok.hd hc) hl' hsz fun v h' tk hv hk => ?_
  obtain ⟨t, rfl⟩ := intItems_at hv
  obtain ⟨h1, h2⟩ := argBest_gt (numAt xs) (xs.size - 1)
  refine ⟨.int _, H, I.kept hk, ⟨_, rfl⟩, q _ ?_ fun a ha => ?_⟩
  · rw [hns, numAt_eq]; exact getD_mem (by rw [List.length_map, Array.length_toList]; omega)
  · rw [hns] at ha
    obtain ⟨j, hj, rfl⟩ := mem_getD ha
    rw [List.length_map, Array.length_toList] at hj
    rw [← numAt_eq]; exact h2 j (by omega)
end
section
variable {X : Cx} {M : List Str} {x : Str} {scope : Scope} {cl : List (Str × Addr)} {C : Addr} {s₀ : Shared} {H₀ : Hp} {fp : List Addr}
theorem ix_tup_c : IxR (compCx X M x scope cl C s₀ H₀ fp) (rIxT X.K) := ix_tup
end
section
variable {X : Cx} {tg : Expr}
def iRng2A (ta : TA) : TI := fun σ H R => ta σ H fun vs H1 => ∃ i j : Int, vs = [.int i, .int j] ∧ R (Itr i (j - i).toNat) H1
theorem rd_rng2A {ta : TA} {σ : St} {H : Hp} {R : It → Hp → Prop} (h : ta σ H fun vs H1 => ∃ i j : Int, vs = [.int i, .int j] ∧ R (Itr i (j - i).toNat) H1) : iRng2A ta σ H R := h
end
end L2

set_option Elab.async false
set_option linter.all false
set_option maxRecDepth 100000
set_option maxHeartbeats 4000000
namespace L2
open PySem PySem.Spec PyProof.Rows
section
variable {X : Cx}
def rBits : V → List V → Hp → VK → Prop := fun x vs H Q => ∃ n : Int, x = .int n ∧ vs = [] ∧ Q (.int ((Builtin.Int.intBits n : Nat) : Int)) H
end
theorem rd_bitsV {K : PySem.W.Frag} {n : Int} {H : Hp} {Q : VK} (h : Q (.int ((Builtin.Int.intBits n : Nat) : Int)) H) : tyV K "int" (.int n) H ∧ rBits (.int n) [] H Q := ⟨rfl, n, rfl, rfl, h⟩
theorem rd_bm0 {K : PySem.W.Frag} {T : String} {r : V → List V → Hp → VK → Prop} {to : TE} {σ : St} {H : Hp} {Q : VK} (h : to σ H fun x H1 => tyV K T x H1 ∧ r x [] H1 Q) : tBM0 K T r to σ H Q := h
theorem rd_bm {K : PySem.W.Frag} {T : String} {r : V → List V → Hp → VK → Prop} {to : TE} {t : TA} {σ : St} {H : Hp} {Q : VK} (h : to σ H fun x H1 => tyV K T x H1 ∧ t σ H1 fun xs H2 => r x xs H2 Q) : tBM K T r to t σ H Q := h
theorem rd_gsub {to ti : TE} {t : TSet} {v : V} {σ : St} {H : Hp} {Q : St → Hp → Prop} (h : to σ H fun o H1 => ti σ H1 fun i H2 => t o i v H2 fun H3 => Q σ H3) : gSub to ti t v σ H Q := h
theorem ixN_nat {m k : Nat} (h : k < m) : ixN m (k : Int) = some k := by
  unfold ixN
  rw [if_pos (by omega), if_pos (by omega), Int.toNat_natCast]
theorem rd_setL {p : Addr} {xs : List V} {k : Nat} {v : V} {H : Hp} {Q : Hp → Prop} (h : H p = some (.lst xs)) (hk : k < xs.length) (q : Q (upd H p (.lst (xs.set k v)))) : rSetL (.ref p) (.int (k : Int)) v H Q :=
  ⟨p, xs, k, k, rfl, rfl, h, ixN_nat hk, q⟩
def tTruI (ta : TE) : TT := fun σ H Q => ta σ H fun x H' => ∃ i : Int, x = .int i ∧ Q (i != 0) H'
theorem rd_truI {i : Int} {H : Hp} {Q : Bool → Hp → Prop} (h : Q (i != 0) H) : ∃ j : Int, V.int i = .int j ∧ Q (j != 0) H := ⟨i, rfl, h⟩
theorem rd_tru {ta : TE} {σ : St} {H : Hp} {Q : Bool → Hp → Prop} (h : ta σ H fun x H' => ∃ i : Int, x = .int i ∧ Q (i != 0) H') : tTruI ta σ H Q := h
section
variable {X : Cx} {M : List Str} {x : Str} {scope : Scope} {cl : List (Str × Addr)} {C : Addr} {s₀ : Shared} {H₀ : Hp} {fp : List Addr}
end
end L2

set_option Elab.async false
set_option linter.all false
set_option maxRecDepth 100000
set_option maxHeartbeats 4000000
namespace L2
open PySem PySem.Spec PyProof.Rows
theorem rd_slice {r : V → Option Int → Option Int → Hp → VK → Prop} {te : TE} {tl th : TO} {σ : St} {H : Hp} {Q : VK} (h : te σ H fun x H1 => tl σ H1 fun l H2 => th σ H2 fun u H3 => r x l u H3 Q) : tSl r te tl th σ H Q := h
theorem rd_slL {K : PySem.W.Frag} {a : Addr} {xs : List V} {lo hi : Option Int} {H : Hp} {Q : VK} (h : SqL K H a xs) (q : ∀ p, H p = none → Q (.ref p) (upd H p (.lst (cutV xs lo hi)))) : rSlL K (.ref a) lo hi H Q := ⟨a, xs, rfl, h, q⟩
theorem rd_part {t : TE} {σ : St} {H : Hp} {Q : Option Int → Hp → Prop} (h : t σ H fun x H1 => ∃ i, x = .int i ∧ Q (some i) H1) : tPart t σ H Q := h
theorem rd_exI {i : Int} {P : Int → Prop} (h : P i) : ∃ j, V.int i = .int j ∧ P j := ⟨i, rfl, h⟩
theorem rd_noPart {σ : St} {H : Hp} {Q : Option Int → Hp → Prop} (h : Q none H) : tNoPart σ H Q := h
end L2

set_option Elab.async false
set_option linter.all false
set_option maxRecDepth 100000
set_option maxHeartbeats 4000000
namespace L2
open PySem PySem.Spec PyProof.Rows
section
variable {X : Cx}
def tLR (ta : TA) : TE := fun σ H Q => ta σ H fun vs H1 => ∃ (i j c : Int) (n : Nat), (vs = [.int i, .int j, .int c] ∨ (vs = [.int i, .int j] ∧ c = 1)) ∧ 0 < c ∧ c < 1073741824 ∧ Builtin.Range.small i j c = true ∧ Builtin.Range.rangeSize i j c = (n : Int) ∧ n ≤ 1000000 ∧
  ∀ l, H1 l = none → Q (.ref l) (upd H1 l (.lst ((List.range n).map fun (k : Nat) => V.int (i + (k : Int) * c))))
end
theorem rd_lr {ta : TA} {σ : St} {H : Hp} {Q : VK} (h : ta σ H fun vs H1 => ∃ (i j c : Int) (n : Nat), (vs = [.int i, .int j, .int c] ∨ (vs = [.int i, .int j] ∧ c = 1)) ∧ 0 < c ∧ c < 1073741824 ∧ Builtin.Range.small i j c = true ∧ Builtin.Range.rangeSize i j c = (n : Int) ∧ n ≤ 1000000 ∧
  ∀ l, H1 l = none → Q (.ref l) (upd H1 l (.lst ((List.range n).map fun (k : Nat) => V.int (i + (k : Int) * c))))) : tLR ta σ H Q := h
end L2

set_option Elab.async false
set_option linter.all false
set_option maxRecDepth 100000
set_option maxHeartbeats 4000000
namespace L2
open PySem PySem.Spec PyProof.Rows
theorem comp_inv {J : It} {ok : Hp → Prop} {xs : List V} {σ : St} {H : Hp} {Q : VK} {tt : TT} {te : TE} (Wk : Walk J ok xs) (hz : xs.length < sizeLine) (Pv : Addr → Nat → List V → Hp → Prop)
    (h0 : ∀ D, H D = none → Pv D 0 [] (upd H D (.lst [])))
    (hD : ∀ D i ys H2, H D = none → Pv D i ys H2 → H2 D = some (.lst ys) ∧ ys.length ≤ i ∧ ok H2)
    (hs : ∀ D i x ys H2, H D = none → xs[i]? = some x → Pv D i ys H2 → tt (some x :: σ) H2 fun b H4 => if b = true then te (some x :: σ) H4 fun y H5 => H5 D = some (.lst ys) ∧ Pv D (i + 1) (ys ++ [y]) (upd H5 D (.lst (ys ++ [y]))) else Pv D (i + 1) ys H4)
    (h : ∀ D ys H2, H D = none → Pv D xs.length ys H2 → Q (.ref D) H2) : CompR tt te σ Q J H := by
  intro D hD0
  refine ⟨fun i m ys H2 => i ≤ xs.length ∧ m = xs.length - i ∧ Pv D i ys H2, ⟨_, Nat.zero_le _, rfl, h0 D hD0⟩, ?_⟩
  rintro i m ys H2 ⟨hi, rfl, p⟩
  obtain ⟨d1, d2, d3⟩ := hD D i ys H2 hD0 p
  refine ⟨d1, ?_⟩
  by_cases hlt : i < xs.length
  · refine .inr ⟨Wk.go i _ d3 hlt, by omega, xs.length - (i + 1), by omega, fun x H3 hy => ?_⟩
    obtain ⟨e3, ex⟩ := Wk.yld i _ x H3 d3 hy hlt
    subst e3
    have := hs D i x ys H3 hD0 ex p
    refine cast ?_ this
    congr 1
    funext b H4
    cases b with
    | false => simp only [Bool.false_eq_true, if_false]; exact propext ⟨fun z => ⟨hlt, trivial, z⟩, fun z => z.2.2⟩
    | true =>
      simp only [if_true]
      congr 1
      funext y H5
      exact propext ⟨fun z => ⟨z.1, hlt, trivial, z.2⟩, fun z => ⟨z.1, z.2.2.2⟩⟩
  · have e : i = xs.length := by omega
    subst e
    exact .inl ⟨Wk.stop _ _ d3 (Nat.le_refl _), h D ys H2 hD0 p⟩
end L2

set_option Elab.async false
set_option linter.all false
set_option maxRecDepth 100000
set_option maxHeartbeats 4000000
namespace L2
open PySem PySem.Spec PyProof.Rows
section
variable {X : Cx}
section
variable {prog : Program} {w : World} {A : Around} {R : Result → Shared → Prop}
end
end
end L2
namespace L2
open PySem PySem.Spec PyProof.Rows
theorem rd_fld {K : PySem.W.Frag} {ta : TE} {f : Str} {σ : St} {H : Hp} {Q : VK} (h : ta σ H fun x H1 => ∃ a C dx fs v, x = .ref a ∧ H1 a = some (.ins C dx fs) ∧ Cls K C ∧ NoAttr K C f ∧ fs.lookup f = some v ∧ Q v H1) : tFld K ta f σ H Q := h
theorem rd_sfld {K : PySem.W.Frag} {ta tv : TE} {f : Str} {D : Ends} {σ : St} {H : Hp} (h : tv σ H fun y H1 => ta σ H1 fun x H2 => ∃ a C dx fs, x = .ref a ∧ H2 a = some (.ins C dx fs) ∧ Cls K C ∧ NoAttr K C f ∧ fs.length < 1000 ∧ D.nx σ (upd H2 a (.ins C dx (putF f y fs)))) : sFld K ta tv f D σ H := h
theorem rd_meth {C : Addr} {m : Str} {sp : Sp} {ta : TE} {t : TA} {σ : St} {H : Hp} {Q : VK} (h : ta σ H fun x H1 => ∃ a dx fs, x = .ref a ∧ H1 a = some (.ins C dx fs) ∧ fs.lookup m = none ∧ t σ H1 fun vs H2 => sp (x :: (vs ++ [])) H2 Q E0) : tMeth C m sp [] E0 ta t σ H Q := h
end L2

set_option Elab.async false
set_option linter.all false
set_option maxRecDepth 100000
set_option maxHeartbeats 4000000
namespace L2
open PySem PySem.Spec PyProof.Rows
section
variable {X : Cx} {M xs : List Str} {scope : Scope} {cl : List (Str × Addr)} {C : Addr} {s₀ : Shared} {H₀ : Hp} {fp : List Addr}
end
theorem bitAnd_mask (x : Int) (m : Nat) : 0 ≤ Builtin.bitAnd x (m : Int) ∧ Builtin.bitAnd x (m : Int) ≤ (m : Int) := by
  unfold Builtin.bitAnd
  rw [decide_eq_true (Int.natCast_nonneg m)]
  cases h : decide (0 ≤ x) with
  | true =>
    show 0 ≤ (((x.toNat &&& ((m : Int)).toNat : Nat)) : Int) ∧ (((x.toNat &&& ((m : Int)).toNat : Nat)) : Int) ≤ (m : Int)
    rw [Int.toNat_natCast]
    have := Nat.and_le_right (n := x.toNat) (m := m)
    omega
  | false =>
    show 0 ≤ (m : Int) - ((((m : Int)).toNat &&& (Builtin.bitNot x).toNat : Nat) : Int) ∧ (m : Int) - ((((m : Int)).toNat &&& (Builtin.bitNot x).toNat : Nat) : Int) ≤ (m : Int)
    rw [Int.toNat_natCast]
    have := Nat.and_le_left (n := m) (m := (Builtin.bitNot x).toNat)
    omega
end L2

set_option Elab.async false
set_option linter.all false
set_option maxRecDepth 100000
set_option maxHeartbeats 4000000
namespace L2
open PySem PySem.Spec PyProof.Rows
structure FunD (K : PySem.W.Frag) (x qual : Str) (st : Stmt) (f : Addr) (fd : FuncData) (ds : Array Value) : Prop where
  ex : ∃ (oc : Value) (od : Option Addr) (T : Addr) (to : Obj) (tn : Nat) (kV doc pm : Value) (an : Option Addr) (cdv ct : Value) (osl : Array (Option Value)),
    fd = PySem.W.fnOf x qual (defArgs st) (defBody st) (defScope st) (.ref T) kV doc pm an cdv ct ∧ K.lookup f = some ⟨oc, od, .func fd, osl⟩ ∧ PySem.W.codeIn K cdv qual = true ∧ K.lookup T = some to ∧ to.data = .seq ds tn
  kp : PySem.W.keepIn K (.ref f) = true
section
variable {P : Program} {w : World} {K : PySem.W.Frag} {mg : Str → Option Value} {base : Heap} {x qual : Str} {st : Stmt} {f : Addr} {fd : FuncData} {N ps : List Str} {k : Nat} {sp : Sp} {ds : Array Value}
theorem FunD.ok (F : FunD K x qual st f fd ds) (S : FnScope N ps (defScope st)) (len : ∀ vs H Q E, sp vs H Q E → vs.length = ps.length)
    (hbody : ∀ (cdv : Value) (A : Around) (outer : List Env) (s : Shared) (H : Hp) (vs : List V) (Q : VK) (E : XK), Room k (A.deeper (envOfC qual (defScope st) s.heap.objs.size f cdv)) → sp vs H Q E →
      ∃ t, PSs (cxOf CX0 P w K mg base N qual (defScope st) f cdv A outer s H E).nox (defBody st) t ∧ t { nx := fun _ H' => Q .non H', rt := Q } (start N vs) H) : FnOk P w K mg base CX0 (k + 1) f fd ps sp := by
  obtain ⟨oc, od, T, to, tn, kV, doc, pm, an, cdv, ct, osl, rfl, lk, hcd, _⟩ := F.ex
  refine fn_of lk hcd S len fun A outer s H vs Q E hr hsp => ?_
  obtain ⟨t, h, q⟩ := hbody cdv A outer s H vs Q E hr hsp
  exact ⟨t, h.nox, q⟩
theorem FunD.binds (F : FunD K x qual st f fd ds)
    (h : ∀ (T : Addr) (kV doc pm : Value) (an : Option Addr) (cdv ct : Value) (us : List Value), us.length = ps.length → bindArgs (PySem.W.fnOf x qual (defArgs st) (defBody st) (defScope st) (.ref T) kV doc pm an cdv ct) ⟨us, []⟩ = pure (ps.zip us)) : Binds K fd ps [] := by
  obtain ⟨oc, od, T, to, tn, kV, doc, pm, an, cdv, ct, osl, rfl, lk, hcd, _⟩ := F.ex
  exact .all (h T kV doc pm an cdv ct)
/-- fewer arguments than parameters: the last defaults fill up -/
theorem FunD.bindsD {dv : List Value} (n : Nat) (hn : n + dv.length = ps.length) (F : FunD K x qual st f fd ds)
    (h : ∀ (T : Addr) (kV doc pm : Value) (an : Option Addr) (cdv ct : Value) (us : List Value), us.length = n →
      ∃ k : Option (Array Value) → Sem (List (Str × Value)), bindArgs (PySem.W.fnOf x qual (defArgs st) (defBody st) (defScope st) (.ref T) kV doc pm an cdv ct) ⟨us, []⟩ = seqItems? (.ref T) >>= k ∧ k (some ds) = pure (ps.zip (us ++ dv))) : Binds K fd ps dv := by
  obtain ⟨oc, od, T, to, tn, kV, doc, pm, an, cdv, ct, osl, rfl, lk, hcd, ht, hs⟩ := F.ex
  intro s us KX hl
  obtain ⟨k, h1, h2⟩ := h T kV doc pm an cdv ct us (by rw [List.length_append] at hl; omega)
  exact PySem.W.binds_K KX rfl ht hs h1 h2
theorem fun_mkD {oc : Value} {od an : Option Addr} {osl : Array (Option Value)} {kV doc pm cdv ct : Value} {T : Addr} {to : Obj} {tn : Nat} (l : K.lookup f = some ⟨oc, od, .func (PySem.W.fnOf x qual (defArgs st) (defBody st) (defScope st) (.ref T) kV doc pm an cdv ct), osl⟩)
    (c : PySem.W.codeIn K cdv qual = true) (k : PySem.W.keepIn K (.ref f) = true) (t : K.lookup T = some to) (d : to.data = .seq ds tn) : FunD K x qual st f (PySem.W.fnOf x qual (defArgs st) (defBody st) (defScope st) (.ref T) kV doc pm an cdv ct) ds :=
  ⟨⟨oc, od, T, to, tn, kV, doc, pm, an, cdv, ct, osl, rfl, l, c, t, d⟩, k⟩
end
structure CalD (P : Program) (w : World) (K : PySem.W.Frag) (mg : Str → Option Value) (base : Heap) (CX : CXT) (k : Nat) (x : Str) (ps : List Str) (dvs : List V) (sp : Sp) : Prop where
  ex : ∃ (f : Addr) (fd : FuncData) (ds : List Value), FnOk P w K mg base CX k f fd ps sp ∧ Binds K fd ps ds ∧ Vals dvs ds ∧ PySem.W.keepIn K (.ref f) = true ∧ mg x = some (.ref f)
structure CalID (P : Program) (w : World) (K : PySem.W.Frag) (mg : Str → Option Value) (base : Heap) (CX : CXT) (k : Nat) (x : Str) (C : Addr) (ps : List Str) (dvs : List V) (sp : Sp) : Prop where
  ex : ∃ (f : Addr) (fd : FuncData) (ds : List Value), FnOk P w K mg base CX k f fd ps sp ∧ Binds K fd ps ds ∧ Vals dvs ds ∧ Mk K C f ∧ mg x = some (.ref C)
section
variable {X : Cx} {EE : Value → Option Addr → St → Hp → Prop} {C : Addr} {m x : Str} {k : Nat} {ps : List Str} {dvs : List V} {sp : Sp} {o e : Expr} {es : List Expr} {ta : TE} {t : TA} {apos pos p : Pos}
theorem pe_mkD (O : CalID X.prog X.w X.K X.mg X.base CX0 k x C ps dvs sp) (hr : Room (k + 1) X.A) (hg : Gl X x) (ha : PA X (e :: es) t)
    (hdb : (x == ("__debug__" : Str)) = false := by decide) (he : starEach (e :: es) X.env = (false, eval e X.env) :: starEach es X.env := by rfl) (hpl : (backTo pos (starEach es X.env)).any (·.1) = false := by rfl) :
    PE X (.Call (.Name x p) (e :: es) [] pos) (tMake C sp dvs E0 t) := by
  obtain ⟨f, fd, ds, F, hb, hv, M, hm⟩ := O.ex
  exact pe_make M F hr hg hm hb hv pass0 ha hdb he hpl
end
section
variable {X : Cx}
end
end L2
namespace L2
open PySem PySem.Spec PyProof.Rows
theorem rd_makeD {C : Addr} {sp : Sp} {dvs : List V} {t : TA} {σ : St} {H : Hp} {Q : VK} (h : t σ H fun vs H1 => ∀ x dx, H1 x = none → H1 dx = none → dx ≠ x → sp (.ref x :: (vs ++ dvs)) (upd (upd H1 dx (.own x)) x (.ins C dx [])) (fun v H2 => v = .non ∧ Q (.ref x) H2) E0) : tMake C sp dvs E0 t σ H Q := h
theorem rd_makeE {C : Addr} {sp : Sp} {EE : XE} {t : TA} {σ : St} {H : Hp} {Q : VK} (h : t σ H fun vs H1 => ∀ x dx, H1 x = none → H1 dx = none → dx ≠ x → sp (.ref x :: (vs ++ [])) (upd (upd H1 dx (.own x)) x (.ins C dx [])) (fun v H2 => v = .non ∧ Q (.ref x) H2) (fun c d H' => EE c d σ H')) : tMakeE C sp EE t σ H Q := h
theorem rd_methE {C : Addr} {m : Str} {sp : Sp} {EE : XE} {ta : TE} {t : TA} {σ : St} {H : Hp} {Q : VK} (h : ta σ H fun x H1 => ∃ a dx fs, x = .ref a ∧ H1 a = some (.ins C dx fs) ∧ fs.lookup m = none ∧ t σ H1 fun vs H2 => sp (x :: (vs ++ [])) H2 Q (fun c d H' => EE c d σ H')) : tMethE C m sp EE ta t σ H Q := h
end L2

set_option Elab.async false
set_option linter.all false
set_option maxRecDepth 100000
set_option maxHeartbeats 4000000
namespace L2
open PySem PySem.Spec PyProof.Rows
def plainV : V → Bool
  | .byt _ => false
  | .flt _ => false
  | _ => true
inductive EqV (K : PySem.W.Frag) (H : Hp) : Nat → V → V → Prop
  | same {n : Nat} {v : V} : plainV v = true → EqV K H n v v
  | lst {n : Nat} {a b : Addr} {xs ys : List V} : SqL K H a xs → SqL K H b ys → xs.length = ys.length → (∀ (i : Nat) x y, xs[i]? = some x → ys[i]? = some y → EqV K H n x y) → EqV K H (n + 1) (.ref a) (.ref b)
  | tup {n : Nat} {a b : Addr} {xs ys : List V} : SqT K H a xs → SqT K H b ys → xs.length = ys.length → (∀ (i : Nat) x y, xs[i]? = some x → ys[i]? = some y → EqV K H n x y) → EqV K H (n + 1) (.ref a) (.ref b)
theorem vals_at : ∀ {xs : List V} {us : List Value} {i : Nat} {u : Value}, Vals xs us → us[i]? = some u → ∃ x, xs[i]? = some x ∧ RelV x u
  | _, _, i, u, .nil, h => by simp at h
  | _, _, 0, u, .cons r _, h => by
    injection h with h
    subst h
    exact ⟨_, rfl, r⟩
  | _, _, i + 1, u, .cons _ rs, h => vals_at (i := i) rs h
section
variable {X : Cx} {pins : List (Addr × Obj)} {σ : St} {H : Hp} {s : Shared}
theorem EqV.at {n : Nat} {x y : V} (h : EqV X.K H n x y) (I : Inv X pins σ H s) : ∀ {A : Around} {u v : Value}, RelV x u → RelV y v → A.units + n < cLine → SeqAt.EqAt A s u v true := by
  induction h with
  | @same n v hp =>
    intro A u u' r r' _
    cases v with
    | non => cases r; cases r'; exact SeqAt.EqAt.same _
    | bl b => cases r; cases r'; exact SeqAt.EqAt.same _
    | int i =>
      obtain ⟨t, rfl⟩ := r
      obtain ⟨t', rfl⟩ := r'
      have := SeqAt.EqAt.int_int (A := A) (s := s) i t i t'
      rwa [beq_self_eq_true] at this
    | str x =>
      obtain ⟨t, rfl⟩ := r
      obtain ⟨t', rfl⟩ := r'
      have := SeqAt.EqAt.str_str (A := A) (s := s) x t x t'
      rwa [beq_self_eq_true] at this
    | byt b => cases hp
    | flt b => cases hp
    | ref a => cases r; cases r'; exact SeqAt.EqAt.same _
    | ty n => cases r; cases r'; exact SeqAt.EqAt.same _
  | @lst n a b xs ys ha hb hl _ ih =>
    intro A u v r r' hu
    cases r
    cases r'
    by_cases e : a = b
    · subst e
      exact SeqAt.EqAt.same _
    obtain ⟨its, r, pl, _⟩ := I.list ha
    obtain ⟨its', r', pl', _⟩ := I.list hb
    have l1 := r.length
    have l2 := r'.length
    have := SeqAt.RcAt.lists (A := A) (e := fun _ => true) pl.isList pl'.isList (by simp; omega) (by omega) fun j k1 k2 => by
      obtain ⟨x, hx, rx⟩ := vals_at r (i := j) (u := its.toArray[j]) (by simp)
      obtain ⟨y, hy, ry⟩ := vals_at r' (i := j) (u := its'.toArray[j]) (by simp)
      exact ih j x y hx hy rx ry (by show A.units + 1 + n < cLine; omega)
    rw [show ((List.range its.toArray.size).all fun _ => true) = true by simp] at this
    exact SeqAt.EqAt.of_refs e this
  | @tup n a b xs ys ha hb hl _ ih =>
    intro A u v r r' hu
    cases r
    cases r'
    by_cases e : a = b
    · subst e
      exact SeqAt.EqAt.same _
    obtain ⟨its, r, pl, _⟩ := I.tuple ha
    obtain ⟨its', r', pl', _⟩ := I.tuple hb
    have l1 := r.length
    have l2 := r'.length
    have := SeqAt.RcAt.tuples (A := A) (e := fun _ => true) pl pl' (by omega) fun j k1 k2 => by
      obtain ⟨x, hx, rx⟩ := vals_at r (i := j) (u := its.toArray[j]) (by simp)
      obtain ⟨y, hy, ry⟩ := vals_at r' (i := j) (u := its'.toArray[j]) (by simp)
      exact ih j x y hx hy rx ry (by show A.units + 1 + n < cLine; omega)
    rw [show ((List.range (min its.toArray.size its'.toArray.size)).all fun _ => true) = true by simp, Bool.true_and, show (its.toArray.size == its'.toArray.size) = true by simp; omega] at this
    exact SeqAt.EqAt.of_refs e this
end
end L2

set_option Elab.async false
set_option linter.all false
set_option maxRecDepth 100000
set_option maxHeartbeats 4000000
namespace L2
open PySem PySem.Spec PyProof.Rows
structure CalL (P : Program) (w : World) (K : PySem.W.Frag) (mg : Str → Option Value) (base : Heap) (CX : CXT) (k : Nat) (m : Str) (ps : List Str) (L : List (Addr × Sp)) : Prop where
  ex : ∀ p ∈ L, Cls K p.1 ∧ ∃ (f : Addr) (fd : FuncData), FnOk P w K mg base CX k f fd ps p.2 ∧ Binds K fd ps [] ∧ Meth K p.1 m f
theorem CalL.nil {P : Program} {w : World} {K : PySem.W.Frag} {mg : Str → Option Value} {base : Heap} {CX : CXT} {k : Nat} {m : Str} {ps : List Str} : CalL P w K mg base CX k m ps [] := ⟨fun p hp => (nomatch hp)⟩
theorem FnOk.up {P : Program} {w : World} {K : PySem.W.Frag} {mg : Str → Option Value} {base : Heap} {CX : CXT} {k j : Nat} {f : Addr} {fd : FuncData} {ps : List Str} {sp : Sp} (F : FnOk P w K mg base CX k f fd ps sp) (h : k ≤ j) : FnOk P w K mg base CX j f fd ps sp :=
  ⟨F.len, fun A outer s H args us vs Q E hr e0 hb r hs => F.run A outer s H args us vs Q E (hr.mono h) e0 hb r hs⟩
theorem CalL.cons {P : Program} {w : World} {K : PySem.W.Frag} {mg : Str → Option Value} {base : Heap} {CX : CXT} {k j : Nat} {m : Str} {ps : List Str} {C : Addr} {sp : Sp} {L : List (Addr × Sp)} (c : Cls K C) (O : CalM P w K mg base CX j C m ps sp) (h : j ≤ k) (r : CalL P w K mg base CX k m ps L) : CalL P w K mg base CX k m ps ((C, sp) :: L) := by
  refine ⟨fun p hp => ?_⟩
  rcases List.mem_cons.mp hp with e | e
  · subst e
    obtain ⟨f, fd, F, hb, M⟩ := O.ex
    exact ⟨c, f, fd, F.up h, hb, M⟩
  · exact r.ex p e
def tMethL (L : List (Addr × Sp)) (m : Str) (ta : TE) (t : TA) : TE := fun σ H Q => ta σ H fun x H1 => ∃ a C dx fs sp, (C, sp) ∈ L ∧ x = .ref a ∧ H1 a = some (.ins C dx fs) ∧ fs.lookup m = none ∧
  t σ H1 fun vs H2 => sp (x :: (vs ++ [])) H2 Q E0
def tMethLE (L : List (Addr × Sp)) (m : Str) (EE : XE) (ta : TE) (t : TA) : TE := fun σ H Q => ta σ H fun x H1 => ∃ a C dx fs sp, (C, sp) ∈ L ∧ x = .ref a ∧ H1 a = some (.ins C dx fs) ∧ fs.lookup m = none ∧
  t σ H1 fun vs H2 => sp (x :: (vs ++ [])) H2 Q (fun c d H' => EE c d σ H')
section
variable {X : Cx} {EE : Value → Option Addr → St → Hp → Prop} {L : List (Addr × Sp)} {m : Str} {k : Nat} {ps : List Str} {o e : Expr} {es : List Expr} {ta : TE} {t : TA} {apos pos : Pos}
theorem pe_mcalL {pl : Sem Bool} (O : CalL X.prog X.w X.K X.mg X.base CX0 k m ps L) (hr : Room k X.A) (he : PE X o ta) (ha : PA X (e :: es) t)
    (hst : starEach (e :: es) X.env = (false, eval e X.env) :: starEach es X.env := by rfl) (hpl : (backTo pos (starEach es X.env)).any (·.1) = false := by rfl)
    (ht : eval (.Call (.Attribute o m apos) (e :: es) [] pos) X.env = (do
      let ov ← eval o X.env
      standAt apos.atName
      let (f, first) ← holding [ov] (getMethod ov m pl)
      callWith pos f first (backTo pos (starEach (e :: es) X.env)) (backToKw pos (keywordEach [] X.env))) := by rfl) :
    PE X (.Call (.Attribute o m apos) (e :: es) [] pos) (tMethL L m ta t) := by
  intro pins s σ H Q I h
  refine PySem.W.methodCall_KW (pl := pl) (thn (he pins s σ H _ I h) fun u s1 ⟨x, H1, I1, rx, a, C, dx, fs, sp, mem, ex, ea, l, q⟩ => ?_) ht
  subst ex
  obtain rfl : u = Value.ref a := rx
  obtain ⟨c, f, fd, F, hb, hm⟩ := O.ex _ mem
  refine getmeth_ok I1 ea c hm l ?_
  refine PySem.W.callWith_K (first := [.ref a]) (h₀ := X.base) I.ok.mod.kin hm.kp (thn (ha pos pins s1 σ H1 _ I1 q) fun us s2 ⟨vs, H2, I2, r, q2⟩ => ⟨I2.kIn, ?_⟩) hst hpl
  exact run_fn (us := .ref a :: us) (vs := .ref a :: vs) F hr hb .nil pass0 I2 (.cons rfl r) q2
theorem pe_mcalL0 {pl : Sem Bool} (O : CalL X.prog X.w X.K X.mg X.base CX0 k m ps L) (hr : Room k X.A) (he : PE X o ta)
    (ht : eval (.Call (.Attribute o m apos) [] [] pos) X.env = (do
      let ov ← eval o X.env
      standAt apos.atName
      let (f, first) ← holding [ov] (getMethod ov m pl)
      callWith pos f first (backTo pos (starEach [] X.env)) (backToKw pos (keywordEach [] X.env))) := by rfl) :
    PE X (.Call (.Attribute o m apos) [] [] pos) (tMethL L m ta tNil) := by
  intro pins s σ H Q I h
  refine PySem.W.methodCall_KW (pl := pl) (thn (he pins s σ H _ I h) fun u s1 ⟨x, H1, I1, rx, a, C, dx, fs, sp, mem, ex, ea, l, q⟩ => ?_) ht
  subst ex
  obtain rfl : u = Value.ref a := rx
  obtain ⟨c, f, fd, F, hb, hm⟩ := O.ex _ mem
  refine getmeth_ok I1 ea c hm l ?_
  exact PySem.W.callWith_K0 (first := [.ref a]) I1.kIn hm.kp (run_fn (us := [.ref a]) (vs := [.ref a]) F hr hb .nil pass0 I1 (.cons rfl .nil) q)
end
theorem rd_methL {L : List (Addr × Sp)} {m : Str} {ta : TE} {t : TA} {σ : St} {H : Hp} {Q : VK} (h : ta σ H fun x H1 => ∃ a C dx fs sp, (C, sp) ∈ L ∧ x = .ref a ∧ H1 a = some (.ins C dx fs) ∧ fs.lookup m = none ∧ t σ H1 fun vs H2 => sp (x :: (vs ++ [])) H2 Q E0) : tMethL L m ta t σ H Q := h
theorem rd_methLE {L : List (Addr × Sp)} {m : Str} {EE : XE} {ta : TE} {t : TA} {σ : St} {H : Hp} {Q : VK} (h : ta σ H fun x H1 => ∃ a C dx fs sp, (C, sp) ∈ L ∧ x = .ref a ∧ H1 a = some (.ins C dx fs) ∧ fs.lookup m = none ∧ t σ H1 fun vs H2 => sp (x :: (vs ++ [])) H2 Q (fun c d H' => EE c d σ H')) : tMethLE L m EE ta t σ H Q := h
end L2

set_option Elab.async false
set_option linter.all false
namespace L2
theorem len1 {α : Type} {us : List α} (h : us.length = 1) : ∃ a0, us = [a0] := by
  match us, h with
  | [a0], _ => exact ⟨a0, rfl⟩
theorem len2 {α : Type} {us : List α} (h : us.length = 2) : ∃ a0 a1, us = [a0, a1] := by
  match us, h with
  | [a0, a1], _ => exact ⟨a0, a1, rfl⟩
theorem len3 {α : Type} {us : List α} (h : us.length = 3) : ∃ a0 a1 a2, us = [a0, a1, a2] := by
  match us, h with
  | [a0, a1, a2], _ => exact ⟨a0, a1, a2, rfl⟩
theorem len4 {α : Type} {us : List α} (h : us.length = 4) : ∃ a0 a1 a2 a3, us = [a0, a1, a2, a3] := by
  match us, h with
  | [a0, a1, a2, a3], _ => exact ⟨a0, a1, a2, a3, rfl⟩
theorem len5 {α : Type} {us : List α} (h : us.length = 5) : ∃ a0 a1 a2 a3 a4, us = [a0, a1, a2, a3, a4] := by
  match us, h with
  | [a0, a1, a2, a3, a4], _ => exact ⟨a0, a1, a2, a3, a4, rfl⟩
end L2

set_option Elab.async false
set_option linter.all false
set_option maxRecDepth 100000
set_option maxHeartbeats 4000000
namespace L2
open PySem PySem.Spec PyProof.Rows
section
variable {X : Cx}
end
end L2

set_option Elab.async false
set_option linter.all false
set_option maxRecDepth 100000
set_option maxHeartbeats 4000000
namespace L2
open PySem PySem.Spec PyProof.Rows
section
variable {X : Cx}
def rNeNil (K : PySem.W.Frag) : R2 := fun x y H Q => ∃ (a b : Addr) (xs : List V), x = .ref a ∧ y = .ref b ∧ SqL K H a xs ∧ SqL K H b [] ∧ Q (.bl (!xs.isEmpty)) H
theorem op_neNil (hu : X.A.units + 64 < cLine) : OpR X (compareOp .NotEq) (rNeNil X.K) := by
  intro pins s σ H x y v u Q I rx ry h
  obtain ⟨a, b, xs, rfl, rfl, ha, hb, q⟩ := h
  cases rx
  cases ry
  obtain ⟨its, r, pl, _⟩ := I.list ha
  obtain ⟨its', r', pl', _⟩ := I.list hb
  cases xs with
  | nil => exact PySem.W.ke_ne_ints (ns := []) (ms := []) pl.isList pl'.isList (intsAre_of (ns := []) r) (intsAre_of (ns := []) r') hu ⟨.bl _, H, I, rfl, q⟩
  | cons x xs =>
    refine SeqAt.RcNeAt.lists_lengths pl.isList pl'.isList ?_ (by omega) _ _ _ _ ⟨.bl _, H, I, rfl, q⟩
    have l1 := r.length
    have l2 := r'.length
    rw [List.length_cons] at l1
    rw [List.length_nil] at l2
    simp [← l1, ← l2]
end
end L2

set_option Elab.async false
set_option linter.all false
set_option maxRecDepth 100000
set_option maxHeartbeats 4000000
namespace L2
open PySem PySem.Spec PyProof.Rows
section
variable {X : Cx}
end
end L2

set_option Elab.async false
set_option linter.all false
set_option maxRecDepth 100000
set_option maxHeartbeats 4000000
namespace L2
open PySem PySem.Spec PyProof.Rows
section
variable {X : Cx}
end
end L2

set_option Elab.async false
set_option linter.all false
set_option maxRecDepth 100000
set_option maxHeartbeats 4000000
namespace L2
open PySem PySem.Spec PyProof.Rows
def signV (c : Nat) : V := .str ⟨#[c]⟩
def Its (z : Str) : It := ⟨fun i _ => i < z.cps.size, fun i H x H' => H' = H ∧ ∃ c, z.cps[i]? = some c ∧ x = signV c, fun i _ => z.cps.size ≤ i⟩
theorem turn_str {P : Program} {w : World} {K : PySem.W.Frag} {tg : Expr} (z : Str) (t : Tok) (it : Addr) : Turn P w K tg (Its z) [it] it (fun i h => h.IsStrIter it "str_ascii_iterator" z t i) where
  mem := by simp
  obj := fun i h st b hb => by
    have e : b = it := by simpa using hb
    subst e
    obtain ⟨o, e, c, d⟩ := st
    exact ⟨o, e, fun v z => by rw [d] at z; cases z⟩
  keep := fun i h h' st k => by
    obtain ⟨o, e, r⟩ := st
    exact ⟨o, k it (by simp) o e, r⟩
  item := by
    intro X hP hw hK hc i pins s σ H E I hf st hg
    subst hP hw hK
    have hg' : i < z.cps.size := hg
    obtain ⟨f0, f1, f2, f3, f4, f5⟩ := hf it (by simp)
    refine wpAny_pyNext_ascii_item st (c := z.cps[i]) (by simp [hg']) fun h' st' sb => ?_
    have I1 : Inv X pins σ H { s with heap := h', toks := s.toks + 1 } := I.turned (t' := s.toks + 1) (fun b o hb e => (sb.2 b hb).trans e) f0 f1 f3 f4 f5
    obtain ⟨o, e, c, d⟩ := id st'
    exact ⟨_, rfl, go_of (s := { s with heap := h', toks := s.toks + 1 }) e c d (by decide) ⟨signV z.cps[i], H, I1, ⟨_, rfl⟩, ⟨rfl, _, by simp [hg'], rfl⟩, st', fun b hb => (hf b hb).1⟩⟩
  done := by
    intro X hP hw hK hc i pins s σ H E I hf st hg
    subst hP hw hK
    have hg' : z.cps.size ≤ i := hg
    obtain ⟨f0, f1, f2, f3, f4, f5⟩ := hf it (by simp)
    exact wpAny_pyNext_ascii_end (I.ok.hd hc) st (by simp [hg']) fun h' eb => ⟨rfl, I.turned (t' := s.toks) (fun b o hb e => eb b o hb e) f0 f1 f3 f4 f5⟩
  self := fun _ _ _ _ _ st h => wpAny_pyIter_striter_ascii st h
def asc (z : Str) : Bool := z.cps.all (· < 128)
def iStr (tl : TE) : TI := fun σ H R => tl σ H fun x H1 => ∃ z, x = .str z ∧ asc z = true ∧ R (Its z) H1
section
variable {X : Cx} {tg : Expr}
theorem pi_str {l : Expr} {tl : TE} (hl : PE X l tl) : PI X tg l (iStr tl) := by
  intro pins s σ H R I h
  refine thn (hl pins s σ H _ I h) fun v s1 ⟨x, H1, I1, r1, q1⟩ => ?_
  obtain ⟨z, e, ha, q⟩ := q1
  subst e
  obtain ⟨t, rfl⟩ := (show ∃ t, v = Value.str z t from r1)
  refine wpAny_pyIter_ascii ha ?_
  refine ⟨s1.heap.objs.size, [s1.heap.objs.size], _, _, H1, rfl, I1.kept (t' := s1.toks) fun b o e => Heap.get?_push_of_some _ e, turn_str z t _, ⟨_, Heap.get?_push_size _ rfl, rfl, rfl⟩, fun b hb => ?_, q⟩
  have e : b = s1.heap.objs.size := by simpa using hb
  subst e
  exact I1.fpOk (Nat.le_refl _) (I1.hok.fresh (Nat.le_refl _))
def rSlS : V → Option Int → Option Int → Hp → VK → Prop := fun x lo hi H Q => ∃ z, x = .str z ∧ z.length ≤ sizeLine ∧ Q (.str (Txt.slice z lo hi)) H
theorem part_val {v : Value} {o : Option Int} (h : IsPart v o) : ∃ l : Option (Int × Tok), v = partValue l ∧ l.map (·.1) = o := by
  cases h with
  | none => exact ⟨none, rfl, rfl⟩
  | int i t => exact ⟨some (i, t), rfl, rfl⟩
theorem sl_str : SlR X rSlS := by
  intro pins s σ H x v vl vu lo hi sl Q I rx hs pl pu h
  obtain ⟨z, rfl, hz, q⟩ := h
  obtain ⟨t, rfl⟩ := (show ∃ t, v = Value.str z t from rx)
  obtain ⟨l, rfl, rfl⟩ := part_val pl
  obtain ⟨u, rfl, rfl⟩ := part_val pu
  refine ⟨"str", _, F.slot_str_getitem.lookup, typeIs_str _ _ _, wpAny_getItem_str_slice (l := l) (u := u) (st := none) hs rfl ?_⟩
  refine post_val_or_str ⟨Nat.le_trans (Txt.slice_le z _ _) hz, fun t' k => ?_⟩
  exact ⟨.str _, H, I.kept (t' := k) fun b o e => e, ⟨_, rfl⟩, q⟩
theorem mt_startswith : MtR X "str.startswith" (fun x xs H Q => ∃ z y, x = .str z ∧ xs = [.str y] ∧ Q (.bl (Txt.startswith z y)) H) := by
  intro pins s σ H x xs v us Q I rx rs h
  obtain ⟨z, y, rfl, rfl, q⟩ := h
  obtain ⟨t, rfl⟩ := (show ∃ t, v = Value.str z t from rx)
  obtain ⟨u, rfl, ru⟩ := vals1 rs
  obtain ⟨t', rfl⟩ := (show ∃ t, u = Value.str y t from ru)
  exact call_gives F.slot_str_startswith (typeIs_str _ _ _) F.entry_str_startswith (F.args_str_startswith_2 _ _) (gives_str_startswith z y t t') ⟨.bl _, H, I, rfl, q⟩
theorem call_int_text : CallR X (.type "int") (fun xs H Q => ∃ z n, xs = [.str z] ∧ z.length ≤ 640 ∧ PySem.intText? z = some n ∧ Q (.int n) H) := by
  intro pins s σ H xs us Q I r h
  obtain ⟨z, n, rfl, hl, hn, q⟩ := h
  obtain ⟨u, rfl, ru⟩ := vals1 r
  obtain ⟨t, rfl⟩ := (show ∃ t, u = Value.str z t from ru)
  exact PySem.W.KIN.call_text hn hl ⟨.int n, H, I.tok _, ⟨_, rfl⟩, q⟩
end
theorem walk_s {z : Str} : Walk (Its z) (fun _ => True) (z.cps.toList.map signV) :=
  ⟨fun i H _ hi => (by show i < z.cps.size; simpa using hi), fun i H x H' _ y hi => ⟨y.1, by
    obtain ⟨c, hc, rfl⟩ := y.2
    rw [List.getElem?_map, Array.getElem?_toList, hc]
    rfl⟩, fun i H _ hi => (by show z.cps.size ≤ i; simpa using hi)⟩
theorem rd_iS {tl : TE} {σ : St} {H : Hp} {R : It → Hp → Prop} (h : tl σ H fun x H1 => ∃ z, x = .str z ∧ asc z = true ∧ R (Its z) H1) : iStr tl σ H R := h
theorem rel_str (x : Str) (t : Tok) : RelV (.str x) (.str x t) := ⟨t, rfl⟩
structure BE (X : Cx) (e : Expr) (te : TE) : Prop where
  out : PE X e te
structure BS (X : Cx) (st : Stmt) (t : TS) : Prop where
  out : PS X st t
section
variable {X : Cx}
theorem be {e : Expr} {te : TE} (h : PE X e te) : BE X e te := ⟨h⟩
theorem bs {st : Stmt} {t : TS} (h : PS X st t) : BS X st t := ⟨h⟩
end
end L2

set_option Elab.async false
set_option linter.all false
set_option maxRecDepth 100000
set_option maxHeartbeats 4000000
namespace L2
open PySem PySem.Spec PyProof.Rows
inductive CalVs (P : Program) (w : World) (K : PySem.W.Frag) (mg : Str → Option Value) (base : Heap) (k : Nat) : List (Str × Sp) → Prop
  | nil : CalVs P w K mg base k []
  | cons {x : Str} {ps : List Str} {sp : Sp} {L : List (Str × Sp)} : Cal P w K mg base k x ps sp → CalVs P w K mg base k L → CalVs P w K mg base k ((x, sp) :: L)
theorem CalVs.get {P : Program} {w : World} {K : PySem.W.Frag} {mg : Str → Option Value} {base : Heap} {k : Nat} {L : List (Str × Sp)} (h : CalVs P w K mg base k L) {x : Str} {sp : Sp} (hm : (x, sp) ∈ L) : ∃ ps, Cal P w K mg base k x ps sp := by
  induction h with
  | nil => cases hm
  | cons C _ ih =>
    rcases List.mem_cons.mp hm with e | e
    · injection e with e1 e2
      subst e1
      subst e2
      exact ⟨_, C⟩
    · exact ih e
section
variable {X : Cx} {pos : Pos}
end
end L2

set_option Elab.async false
set_option linter.all false
set_option maxRecDepth 100000
set_option maxHeartbeats 4000000
namespace L2
open PySem PySem.Spec PyProof.Rows
section
variable {X : Cx} {pins : List (Addr × Obj)} {σ : St} {H : Hp} {s : Shared} {h' : Heap}
end
section
variable {X : Cx}
end
section
variable {X : Cx}
end
end L2

set_option Elab.async false
set_option linter.all false
set_option maxRecDepth 100000
set_option maxHeartbeats 4000000
namespace L2
open PySem PySem.Spec PyProof.Rows
section
variable {X : Cx}
def rIsiO (K : PySem.W.Frag) : List V → Hp → VK → Prop := fun xs H Q => ∃ x c t b, xs = [x, .ref c] ∧ TyOf K H x t ∧ PySem.W.kitOne K t (.ref c) = some b ∧ Q (.bl b) H
theorem call_isiO : CallR X (.builtin "isinstance") (rIsiO X.K) := by
  intro pins s σ H xs us Q I r h
  obtain ⟨x, c, t, b, rfl, ty, e, q⟩ := h
  obtain ⟨u, w', rfl, r1, r2⟩ := vals2 r
  cases (show w' = Value.ref c from r2)
  exact isinst_ok I r1 ty e fun tk => ⟨.bl b, H, I.tok tk, rfl, q⟩
theorem rd_isiO {K : PySem.W.Frag} {x : V} {c : Addr} {t : Value} {b : Bool} {H : Hp} {Q : VK} (ty : TyOf K H x t) (e : PySem.W.kitOne K t (.ref c) = some b) (h : Q (.bl b) H) : rIsiO K [x, .ref c] H Q := ⟨x, c, t, b, rfl, ty, e, h⟩
end
end L2

set_option Elab.async false
set_option linter.all false
set_option maxRecDepth 100000
set_option maxHeartbeats 4000000
namespace L2
open PySem PySem.Spec PyProof.Rows
section
variable {X : Cx}
end
section
variable {X : Cx}
end
end L2

set_option Elab.async false
set_option linter.all false
set_option maxRecDepth 100000
set_option maxHeartbeats 4000000
namespace L2
open PySem PySem.Spec PyProof.Rows PySem.Builtin PySem.Builtin.Str
/-- where the sign c stands -/
def plc (c : Nat) : Nat → List Nat → List Nat
  | _, [] => []
  | k, a :: l => if a = c then k :: plc c (k + 1) l else plc c (k + 1) l
/-- the parts between -/
def spl (c : Nat) : List Nat → List (List Nat)
  | [] => [[]]
  | a :: l => if a = c then [] :: spl c l else ((a :: (spl c l).headD []) :: (spl c l).drop 1)
theorem spl_at (c : Nat) (l : List Nat) : spl c (c :: l) = [] :: spl c l := by
  conv => lhs; unfold spl
  rw [if_pos rfl]
theorem spl_not {c a : Nat} (l : List Nat) (h : a ≠ c) : spl c (a :: l) = (a :: (spl c l).headD []) :: (spl c l).drop 1 := by
  conv => lhs; unfold spl
  rw [if_neg h]
theorem str_eq {a b : Str} (h : a.cps = b.cps) : a = b := by
  cases a
  cases b
  exact congrArg Str.mk h
theorem spl_ne (c : Nat) : ∀ l, spl c l ≠ []
  | [] => fun h => nomatch h
  | a :: l => by
    unfold spl
    split
    · exact fun h => nomatch h
    · exact fun h => nomatch h
theorem spl_eta (c : Nat) (l : List Nat) : spl c l = (spl c l).headD [] :: (spl c l).drop 1 := by
  have := spl_ne c l
  cases h : spl c l with
  | nil => exact absurd h this
  | cons p ps => rfl
theorem plc_len (c : Nat) : ∀ (l : List Nat) (k : Nat), (plc c k l).length + 1 = (spl c l).length
  | [], _ => rfl
  | a :: l, k => by
    have ih := plc_len c l (k + 1)
    unfold plc spl
    split
    · rw [List.length_cons, List.length_cons, ih]
    · rw [ih, spl_eta c l]
      rfl
theorem plc_count (c : Nat) : ∀ (l : List Nat) (k : Nat), (plc c k l).length = l.count c
  | [], _ => rfl
  | a :: l, k => by
    have ih := plc_count c l (k + 1)
    unfold plc
    rw [List.count_cons]
    split
    · rename_i h
      rw [List.length_cons, ih, if_pos (by simpa using h)]
    · rename_i h
      rw [ih, if_neg (by simpa using h)]
      rfl
/-- a text without the sign, then the sign, then more -/
theorem spl_cut (c : Nat) : ∀ (p l : List Nat), c ∉ p → spl c (p ++ c :: l) = p :: spl c l
  | [], l, _ => spl_at c l
  | a :: p, l, h => by
    have ih := spl_cut c p l fun z => h (List.mem_cons_of_mem _ z)
    show spl c (a :: (p ++ c :: l)) = _
    rw [spl_not _ (fun z => h (by rw [z]; exact List.mem_cons_self)), ih]
    rfl
theorem spl_one (c : Nat) : ∀ (p : List Nat), c ∉ p → spl c p = [p]
  | [], _ => rfl
  | a :: p, h => by
    rw [spl_not _ (fun z => h (by rw [z]; exact List.mem_cons_self)), spl_one c p fun z => h (List.mem_cons_of_mem _ z)]
    rfl
theorem spl_len (c : Nat) : ∀ (l p : List Nat), p ∈ spl c l → p.length ≤ l.length
  | [], p, hp => by
    cases List.mem_singleton.mp hp
    exact Nat.le_refl _
  | a :: l, p, hp => by
    have ih := spl_len c l
    unfold spl at hp
    split at hp
    · rcases List.mem_cons.mp hp with e | e
      · rw [e]; exact Nat.zero_le _
      · exact Nat.le_trans (ih p e) (Nat.le_succ _)
    · rw [spl_eta c l] at ih
      rcases List.mem_cons.mp hp with e | e
      · rw [e]
        exact Nat.succ_le_succ (ih _ List.mem_cons_self)
      · exact Nat.le_trans (ih p (List.mem_cons_of_mem _ e)) (Nat.le_succ _)
/-- the parts by where they begin and end -/
theorem parts_spl (c : Nat) (L : List Nat) : ∀ (l : List Nat) (k s0 : Nat), L.drop k = l → s0 ≤ k → k ≤ L.length →
    ((s0 :: (plc c k l).map (· + 1)).zip (plc c k l ++ [L.length])).map (fun (ij : Nat × Nat) => (L.drop ij.1).take (ij.2 - ij.1)) = ((L.drop s0).take (k - s0) ++ (spl c l).headD []) :: (spl c l).drop 1
  | [], k, s0, h, h1, h2 => by
    have e : k = L.length := by
      have := congrArg List.length h
      rw [List.length_drop] at this
      simp at this
      omega
    subst e
    show [(L.drop s0).take (L.length - s0)] = [(L.drop s0).take (L.length - s0) ++ []]
    rw [List.append_nil]
  | a :: l, k, s0, h, h1, h2 => by
    have kl : k < L.length := by
      have := congrArg List.length h
      rw [List.length_drop, List.length_cons] at this
      omega
    have hd : L.drop (k + 1) = l := by
      rw [← List.drop_drop, h]
      rfl
    unfold plc spl
    split
    · have ih := parts_spl c L l (k + 1) (k + 1) hd (Nat.le_refl _) kl
      rw [List.map_cons, List.cons_append, List.zip_cons_cons, List.map_cons, ih, Nat.sub_self, List.take_zero, List.nil_append, ← spl_eta]
      show _ = ((L.drop s0).take (k - s0) ++ []) :: spl c l
      rw [List.append_nil]
    · have ih := parts_spl c L l (k + 1) s0 hd (by omega) kl
      rw [ih]
      have e : (L.drop s0).take (k + 1 - s0) = (L.drop s0).take (k - s0) ++ [a] := by
        have hk : (L.drop s0)[k - s0]? = some a := by
          rw [List.getElem?_drop, show s0 + (k - s0) = k by omega]
          have := congrArg (fun z => z[0]?) h
          simpa [List.getElem?_drop] using this
        rw [show k + 1 - s0 = (k - s0) + 1 by omega, List.take_add_one, hk]
        rfl
      rw [e, List.append_assoc]
      rfl
def cps (z : Str) : List Nat := z.cps.toList
theorem cps_len (z : Str) : (cps z).length = z.length := Array.length_toList
theorem occ_run (x : Str) (c : Nat) : ∀ (n k free : Nat) (acc : Array Nat), k + n = x.length + 1 → free ≤ k → acc.size ≤ k →
    (forIn (List.range' k n) (acc, free) (StrLaws.occBody x ⟨#[c]⟩ x.length (x.length + 1))).run.fst.toList = acc.toList ++ plc c k ((cps x).drop k)
  | 0, k, free, acc, h, _, _ => by
    rw [List.drop_of_length_le (by rw [cps_len]; omega)]
    show acc.toList = acc.toList ++ []
    rw [List.append_nil]
  | n + 1, k, free, acc, h, hf, ha => by
    rw [List.range'_succ, List.forIn_cons]
    have one : (⟨#[c]⟩ : Str).length = 1 := rfl
    by_cases z : (cps x)[k]? = some c
    · have kl : k < (cps x).length := (List.getElem?_eq_some_iff.mp z).1
      have hs := (StrLaws.subAt_one x c k).mpr z
      have ed : (cps x).drop k = c :: (cps x).drop (k + 1) := by
        rw [List.drop_eq_getElem_cons kl, (List.getElem?_eq_some_iff.mp z).2]
      have ih := occ_run x c n (k + 1) (k + 1) (acc.push k) (by omega) (Nat.le_refl _) (by rw [Array.size_push]; omega)
      unfold StrLaws.occBody
      rw [if_pos ⟨⟨⟨by show acc.size < x.length + 1; omega, hf⟩, hs.1⟩, hs.2⟩, ed]
      unfold plc
      rw [if_pos rfl]
      have e2 : acc.toList ++ k :: plc c (k + 1) ((cps x).drop (k + 1)) = (acc.push k).toList ++ plc c (k + 1) ((cps x).drop (k + 1)) := by
        rw [Array.toList_push, List.append_assoc]
        rfl
      rw [e2]
      exact ih
    · have hs : ¬ (k + (⟨#[c]⟩ : Str).length ≤ x.length ∧ subAt x ⟨#[c]⟩ k = true) := fun y => z ((StrLaws.subAt_one x c k).mp y)
      have ih := occ_run x c n (k + 1) free acc (by omega) (by omega) (by omega)
      have ep : plc c k ((cps x).drop k) = plc c (k + 1) ((cps x).drop (k + 1)) := by
        by_cases kl : k < (cps x).length
        · rw [List.drop_eq_getElem_cons kl]
          have : (cps x)[k] ≠ c := fun y => z (by rw [List.getElem?_eq_getElem kl, y])
          show (if (cps x)[k] = c then _ else _) = _
          rw [if_neg this]
        · rw [List.drop_of_length_le (by omega), List.drop_of_length_le (by omega)]
          rfl
      unfold StrLaws.occBody
      rw [if_neg fun y => hs ⟨y.1.2, y.2⟩, ep]
      exact ih
theorem occ_plc (x : Str) (c : Nat) : occurrences x ⟨#[c]⟩ 0 x.length (x.length + 1) = plc c 0 (cps x) := by
  rw [StrLaws.occ_eq]
  have := occ_run x c (x.length + 1) 0 0 #[] (by omega) (Nat.le_refl _) (Nat.le_refl _)
  simpa using this
theorem parts_eq (x : Str) (c : Nat) : partsBetween x (plc c 0 (cps x)) 1 = (spl c (cps x)).map fun p => (⟨p.toArray⟩ : Str) := by
  have h := parts_spl c (cps x) (cps x) 0 0 rfl (Nat.le_refl _) (Nat.zero_le _)
  rw [List.take_zero, List.nil_append, ← spl_eta] at h
  rw [← h, List.map_map]
  unfold partsBetween
  rw [← cps_len]
  refine List.map_congr_left fun ij _ => ?_
  refine str_eq (Array.toList_inj.mp ?_)
  rw [StrLaws.strSub_toList]
  rfl
section
variable {X : Cx}
theorem strs_of : ∀ (ps : List Str) (tk : Nat), Vals (ps.map V.str) (strsFrom tk ps)
  | [], _ => .nil
  | p :: ps, tk => .cons ⟨tk, rfl⟩ (strs_of ps (tk + 1))
theorem strsAre_of : ∀ {zs : List Str} {us : List Value}, Vals (zs.map V.str) us → StrsAre us zs
  | [], _, .nil => .nil
  | z :: zs, _, .cons r rs => by
    obtain ⟨t, rfl⟩ := (show ∃ t, _ = Value.str z t from r)
    exact .cons z t (strsAre_of rs)
/-- the texts between -/
def splS (c : Nat) (z : Str) : List Str := (spl c (cps z)).map fun p => (⟨p.toArray⟩ : Str)
theorem splS_len (c : Nat) (z : Str) : (splS c z).length ≤ z.length + 1 := by
  unfold splS
  rw [List.length_map, ← plc_len c (cps z) 0, plc_count, ← cps_len]
  exact Nat.succ_le_succ List.count_le_length
theorem splS_single {c : Nat} {z : Str} (h : plc c 0 (cps z) = []) : splS c z = [z] := by
  have e := parts_eq z c
  rw [h] at e
  unfold splS
  rw [← e]
  show [strSub z 0 z.length] = [z]
  refine congrArg (fun y => [y]) (str_eq (Array.toList_inj.mp ?_))
  rw [StrLaws.strSub_toList, List.drop_zero, Nat.sub_zero]
  exact List.take_of_length_le (by show z.cps.toList.length ≤ z.cps.size; rw [Array.length_toList]; exact Nat.le_refl _)
def rSplit : V → List V → Hp → VK → Prop := fun x xs H Q => ∃ z c, x = .str z ∧ xs = [.str ⟨#[c]⟩] ∧ c < 256 ∧ z.length ≤ 1000000 ∧ ∀ l, H l = none → Q (.ref l) (upd H l (.lst ((splS c z).map V.str)))
theorem mt_split : MtR X "str.split" rSplit := by
  intro pins s σ H x xs v us Q I rx rs h
  obtain ⟨z, c, rfl, rfl, hc, hz, q⟩ := h
  obtain ⟨t, rfl⟩ := (show ∃ t, v = Value.str z t from rx)
  obtain ⟨u, rfl, ru⟩ := vals1 rs
  obtain ⟨t', rfl⟩ := (show ∃ t, u = Value.str ⟨#[c]⟩ t from ru)
  have sl : z.length + 1 ≤ sizeLine := Nat.le_trans (Nat.succ_le_succ hz) (by decide)
  have one : (⟨#[c]⟩ : Str).length = 1 := rfl
  have itself : splS c z = [z] → EP X pins σ Q (.ref s.heap.objs.size) { s with heap := s.heap.push { cls := .type "list", data := .seq [Value.str z t].toArray } } := fun e => by
    refine ⟨.ref _, _, I.laid (a := s.heap.objs.size) (o := .lst ((splS c z).map V.str)) (fun _ _ e => Heap.get?_push_of_some _ e) (Nat.le_refl _) ⟨by rw [e]; show 1 ≤ sizeLine; decide, [Value.str z t], 0, by rw [e]; exact .cons ⟨t, rfl⟩ .nil, Heap.get?_push_size _ rfl⟩, rfl, q _ I.fresh⟩
  by_cases h1 : (decide (z.length < (⟨#[c]⟩ : Str).length) || decide (PySem.Builtin.Str.strKind z < PySem.Builtin.Str.strKind ⟨#[c]⟩)) = true
  · have e : splS c z = [z] := by
      have k1 : PySem.Builtin.Str.strKind (⟨#[c]⟩ : Str) = 1 := by
        unfold PySem.Builtin.Str.strKind
        simp [hc]
      have k0 : 1 ≤ PySem.Builtin.Str.strKind z := by
        unfold PySem.Builtin.Str.strKind
        repeat' split
        all_goals omega
      rw [k1, one, decide_eq_false (show ¬ PySem.Builtin.Str.strKind z < 1 by omega), Bool.or_false, decide_eq_true_eq] at h1
      refine splS_single ?_
      have : cps z = [] := List.length_eq_zero_iff.mp (by rw [cps_len]; omega)
      rw [this]
      rfl
    exact call_meets F.slot_str_split (typeIs_str _ _ _) F.entry_str_split (F.args_str_split_2 _ _) (meets_str_split_cannot_occur z ⟨#[c]⟩ t t' h1) (itself e)
  · have h1' := (Bool.not_eq_true _).mp h1
    by_cases h2 : (occurrences z ⟨#[c]⟩ 0 z.length (z.length + 1)).isEmpty = true
    · have e : splS c z = [z] := by
        rw [occ_plc, List.isEmpty_iff] at h2
        exact splS_single h2
      exact call_meets F.slot_str_split (typeIs_str _ _ _) F.entry_str_split (F.args_str_split_2 _ _) (meets_str_split_not_found z ⟨#[c]⟩ t t' h1' rfl h2) (itself e)
    · have h2' := (Bool.not_eq_true _).mp h2
      have ep : partsBetween z (occurrences z ⟨#[c]⟩ 0 z.length (z.length + 1)) (⟨#[c]⟩ : Str).length = splS c z := by rw [occ_plc]; exact parts_eq z c
      refine call_meets F.slot_str_split (typeIs_str _ _ _) F.entry_str_split (F.args_str_split_2 _ _) (meets_str_split_sep z ⟨#[c]⟩ t t' h1' rfl h2' (by omega) (by rw [ep]; exact Nat.le_trans (splS_len c z) sl)) ?_
      rw [ep]
      exact ⟨.ref _, _, I.laid (a := s.heap.objs.size) (o := .lst ((splS c z).map V.str)) (fun _ _ e => Heap.get?_push_of_some _ e) (Nat.le_refl _) ⟨by rw [List.length_map]; exact Nat.le_trans (splS_len c z) sl, strsFrom s.toks (splS c z), 0, strs_of _ _, Heap.get?_push_size _ rfl⟩, rfl, q _ I.fresh⟩
def rJoin (K : PySem.W.Frag) : V → List V → Hp → VK → Prop := fun x xs H Q => ∃ z l zs, x = .str z ∧ xs = [.ref l] ∧ SqL K H l (zs.map V.str) ∧ (zs.map (·.length)).sum + zs.length * z.length ≤ 16777216 ∧ Q (.str (Txt.join z zs)) H
theorem mt_join : MtR X "str.join" (rJoin X.K) := by
  intro pins s σ H x xs v us Q I rx rs h
  obtain ⟨z, l, zs, rfl, rfl, hl, hz, q⟩ := h
  obtain ⟨t, rfl⟩ := (show ∃ t, v = Value.str z t from rx)
  obtain ⟨u, rfl, ru⟩ := vals1 rs
  obtain rfl : u = Value.ref l := ru
  obtain ⟨its, r, pl, _⟩ := I.list hl
  exact join_list pl.isList (by simpa using strsAre_of r) hz fun t' k => ⟨.str _, H, I.tok _, ⟨_, rfl⟩, q⟩
end
end L2

set_option Elab.async false
set_option linter.all false
set_option maxRecDepth 100000
set_option maxHeartbeats 4000000
namespace L2
open PySem PySem.Spec PyProof.Rows
section
variable {s : Shared} {A : Around} {w : World} {prog : Program}
end
section
variable {X : Cx}
/-- list(range(i, j)) wherever i and j lie, if they are not too far apart -/
def tLRA (ta : TA) : TE := fun σ H Q => ta σ H fun vs H1 => ∃ (i j : Int), vs = [.int i, .int j] ∧ i ≤ j ∧ j - i ≤ 1000000 ∧
  ∀ l, H1 l = none → Q (.ref l) (upd H1 l (.lst ((List.range (j - i).toNat).map fun (k : Nat) => V.int (i + (k : Int)))))
theorem rd_lra {ta : TA} {σ : St} {H : Hp} {Q : VK} (h : ta σ H fun vs H1 => ∃ (i j : Int), vs = [.int i, .int j] ∧ i ≤ j ∧ j - i ≤ 1000000 ∧
  ∀ l, H1 l = none → Q (.ref l) (upd H1 l (.lst ((List.range (j - i).toNat).map fun (k : Nat) => V.int (i + (k : Int)))))) : tLRA ta σ H Q := h
end
end L2

set_option Elab.async false
set_option linter.all false
set_option maxRecDepth 100000
set_option maxHeartbeats 4000000
namespace L2
open PySem PySem.Spec PyProof.Rows
section
variable {X : Cx}
/-- a value is the text z -/
def isZ (z : Str) (v : Value) : Bool := match v with | .str y _ => y == z | _ => false
theorem PlainL.at' {h : Heap} {a : Addr} {its : Array Value} (p : PlainL h a its) : ∃ n dd sl, h.get? a = some { cls := .type "list", dict := dd, data := .seq its n, slots := sl } := by
  obtain ⟨⟨cl, di, da, sl⟩, n, e, e1, e2, e3⟩ := p
  cases e1
  cases e3
  exact ⟨n, di, sl, e⟩
theorem vals_str : ∀ {zs : List Str} {us : List Value}, Vals (zs.map V.str) us → us.length = zs.length ∧ ∀ (j : Nat) (z : Str), zs[j]? = some z → ∃ t, us[j]? = some (Value.str z t)
  | [], _, .nil => ⟨rfl, fun j z h => by simp at h⟩
  | y :: zs, _, .cons r rs => by
    obtain ⟨t, rfl⟩ := (show ∃ t, _ = Value.str y t from r)
    obtain ⟨l, h⟩ := vals_str rs
    refine ⟨by rw [List.length_cons, List.length_cons, l], fun j z hj => ?_⟩
    cases j with
    | zero =>
      simp at hj
      exact ⟨t, by rw [hj]; rfl⟩
    | succ j => exact h j z (by simpa using hj)
theorem vals_strM {zs : List Str} {us : List Value} (r : Vals (zs.map V.str) us) {v : Value} (h : v ∈ us) : ∃ z t, v = Value.str z t := by
  obtain ⟨l, g⟩ := vals_str r
  obtain ⟨j, hj, rfl⟩ := List.getElem_of_mem h
  obtain ⟨t, ht⟩ := g j (zs[j]'(by omega)) (List.getElem?_eq_getElem _)
  rw [List.getElem?_eq_getElem hj] at ht
  exact ⟨_, t, Option.some.inj ht⟩
theorem count_isZ (z : Str) : ∀ {zs : List Str} {us : List Value}, Vals (zs.map V.str) us → us.countP (isZ z) = zs.count z
  | [], _, .nil => rfl
  | y :: zs, _, .cons r rs => by
    obtain ⟨t, rfl⟩ := (show ∃ t, _ = Value.str y t from r)
    rw [List.countP_cons, count_isZ z rs, List.count_cons]
    rfl
def rLCount (K : PySem.W.Frag) : V → List V → Hp → VK → Prop := fun x xs H Q => ∃ (l : Addr) (zs : List Str) (z : Str), x = .ref l ∧ xs = [.str z] ∧ SqL K H l (zs.map V.str) ∧ Q (.int ((zs.count z : Nat) : Int)) H
theorem mt_lcount : MtR X "list.count" (rLCount X.K) := by
  intro pins s σ H x xs v us Q I rx rs h
  obtain ⟨l, zs, z, rfl, rfl, hl, q⟩ := h
  obtain rfl : v = Value.ref l := rx
  obtain ⟨u, rfl, ru⟩ := vals1 rs
  obtain ⟨t', rfl⟩ := (show ∃ t, u = Value.str z t from ru)
  obtain ⟨its, r, pl, _⟩ := I.list hl
  obtain ⟨c0, dd, sl, at0⟩ := PlainL.at' pl
  have eq : ∀ y ∈ its.toArray, SeqAt.EqAt X.A.in1 s y (Value.str z t') (isZ z y) := fun y hy => by
    obtain ⟨a, t, rfl⟩ := vals_strM r (by simpa using hy)
    exact SeqAt.EqAt.str_str a t z t'
  refine call_meets F.slot_list_count pl.isList.typeIs F.entry_list_count (F.args_list_count_2 _ _) (SeqAt.list_countAt l its.toArray _ _ _ (Value.str z t') (isZ z)) ⟨at0, eq, ?_⟩
  have ec : its.toArray.toList.countP (isZ z) = zs.count z := count_isZ z r
  rw [ec]
  exact ⟨.int _, H, I.tok _, ⟨_, rfl⟩, q⟩
def rLIndex (K : PySem.W.Frag) : V → List V → Hp → VK → Prop := fun x xs H Q => ∃ (l : Addr) (zs : List Str) (z : Str) (j : Nat), x = .ref l ∧ xs = [.str z] ∧ SqL K H l (zs.map V.str) ∧ zs[j]? = some z ∧ (∀ m, m < j → zs[m]? ≠ some z) ∧ Q (.int ((j : Nat) : Int)) H
theorem mt_lindex : MtR X "list.index" (rLIndex X.K) := by
  intro pins s σ H x xs v us Q I rx rs h
  obtain ⟨l, zs, z, j, rfl, rfl, hl, hj, hno, q⟩ := h
  obtain rfl : v = Value.ref l := rx
  obtain ⟨u, rfl, ru⟩ := vals1 rs
  obtain ⟨t', rfl⟩ := (show ∃ t, u = Value.str z t from ru)
  obtain ⟨its, r, pl, lim⟩ := I.list hl
  obtain ⟨c0, dd, sl, at0⟩ := PlainL.at' pl
  obtain ⟨il, ig⟩ := vals_str r
  have jl : j < zs.length := (List.getElem?_eq_some_iff.mp hj).1
  rw [List.length_map, sizeLine_eq] at lim
  have eq : ∀ y ∈ its.toArray, SeqAt.EqAt X.A.in1 s y (Value.str z t') (isZ z y) := fun y hy => by
    obtain ⟨a, t, rfl⟩ := vals_strM r (by simpa using hy)
    exact SeqAt.EqAt.str_str a t z t'
  have at_ : ∀ m (hm : m < its.toArray.size), ∃ a t, zs[m]? = some a ∧ its.toArray[m] = Value.str a t := fun m hm => by
    have hm' : m < its.length := by simpa using hm
    obtain ⟨t, ht⟩ := ig m (zs[m]'(by omega)) (List.getElem?_eq_getElem _)
    refine ⟨_, t, List.getElem?_eq_getElem (by omega), ?_⟩
    rw [List.getElem?_eq_getElem hm'] at ht
    simpa using Option.some.inj ht
  refine call_meets F.slot_list_index pl.isList.typeIs F.entry_list_index (F.args_list_index_2 _ _) (SeqAt.list_indexAt l its.toArray _ _ _ (Value.str z t') (isZ z) j (by simpa using (show j < its.length by omega)) (by omega) ?_ fun m hm lt => ?_) ⟨at0, eq, ?_⟩
  · obtain ⟨a, t, ha, e⟩ := at_ j (by simpa using (show j < its.length by omega))
    rw [e]
    rw [hj] at ha
    cases ha
    show (z == z) = true
    simp
  · obtain ⟨a, t, ha, e⟩ := at_ m hm
    rw [e]
    show (a == z) = false
    have : a ≠ z := fun y => hno m lt (by rw [ha, y])
    simpa using this
  · exact ⟨.int _, H, I.tok _, ⟨_, rfl⟩, q⟩
end
end L2

set_option Elab.async false
set_option linter.all false
set_option maxRecDepth 100000
set_option maxHeartbeats 4000000
local macro_rules | `(tactic| walk_at "rd1") => `(tactic| first
  | with_reducible refine L2.rd_seq ?_ | with_reducible refine L2.rd_ret ?_ | with_reducible refine L2.rd_asg ?_ | with_reducible refine L2.rd_ifS ?_ | with_reducible refine L2.rd_next ?_ | with_reducible refine L2.rd_drop ?_
  | with_reducible refine L2.rd_op ?_ | ((with_reducible refine' L2.rd_var ?ev ?_); (case ev => exact rfl)) | with_reducible refine L2.rd_c ?_ | with_reducible refine L2.rd_un ?_ | with_reducible refine L2.rd_test ?_ | with_reducible refine L2.rd_b ?_
  | with_reducible refine L2.rd_i0 ?_ | with_reducible refine L2.rd_u ?_ | ((with_reducible refine' L2.rd_eq ?es ?_); (case es => exact rfl)) | ((with_reducible refine' L2.rd_ne ?es ?_); (case es => exact rfl))
  | with_reducible refine L2.rd_bl ?_ | with_reducible refine L2.rd_not ?_ | with_reducible refine L2.rd_and ?_ | with_reducible refine L2.rd_or ?_ | with_reducible refine L2.rd_andV ?_ | with_reducible refine L2.rd_orV ?_ | with_reducible refine L2.rd_notV ?_ | with_reducible refine L2.rd_chain ?_
  | with_reducible refine L2.rd_call ?_ | with_reducible refine L2.rd_cb ?_ | with_reducible refine L2.rd_nil ?_ | with_reducible refine L2.rd_cons ?_ | with_reducible refine L2.rd_tup ?_ | with_reducible refine L2.rd_lst ?_
  | with_reducible refine L2.rd_bm0 ?_ | with_reducible refine L2.rd_makeD ?_ | with_reducible refine L2.rd_fld ?_ | with_reducible refine L2.rd_sfld ?_ | with_reducible refine L2.rd_meth ?_ | with_reducible refine L2.rd_methL ?_ | with_reducible refine L2.rd_lr ?_ | with_reducible refine L2.rd_lra ?_ | with_reducible refine L2.rd_slice ?_ | with_reducible refine L2.rd_part ?_ | with_reducible refine L2.rd_exI ?_ | with_reducible refine L2.rd_noPart ?_ | with_reducible refine L2.rd_tru ?_ | with_reducible refine L2.rd_truI ?_ | with_reducible refine L2.rd_gsub ?_ | with_reducible refine L2.rd_bitsV ?_
  | with_reducible refine L2.rd_par ?_ | with_reducible refine L2.rd_gname ?_ | with_reducible refine L2.rd_gcons ?_ | with_reducible refine L2.rd_gnil ?_
  | ((with_reducible refine' L2.rd_i ?ec ?_); (case ec => first | ((with_reducible show L2.CPow _ _); exact ⟨by decide, by decide, by decide⟩) | ((with_reducible show L2.CDivB _ _); exact L2.cdiv_small (by decide) (by decide)) | (show (0 : Int) < _; first | decide | omega | exact L2.pow2_pos _))))
local macro_rules | `(tactic| walk_at "rd") => `(tactic| repeat walk_at "rd1")
local macro_rules | `(tactic| walk_at "fm") => `(tactic| (repeat (first | exact List.forall_mem_nil _ | refine List.forall_mem_cons.mpr ⟨by with_unfolding_all rfl, ?_⟩)))
local macro_rules | `(tactic| walk_at "rdi") => `(tactic| ((with_reducible refine' L2.rd_ixT ?hs1 ?he1 ?_); (case hs1 => first | assumption | exact L2.SqT.of (by assumption)); (case he1 => exact rfl)))
local macro_rules | `(tactic| walk_at "rdf") => `(tactic| ((with_reducible refine L2.rd_for ?_); (first | with_reducible refine L2.rd_iL ?_ | with_reducible refine L2.rd_iT ?_ | with_reducible refine L2.rd_rng1 ?_ | with_reducible refine L2.rd_rng2 ?_ | with_reducible refine L2.rd_rng3 ?_ | with_reducible refine L2.rd_rng2A ?_)))
local macro_rules | `(tactic| walk_at "rdx") => `(tactic| (repeat (first | walk_at "rd1" | with_reducible refine L2.rd_callE ?_ | with_reducible refine L2.rd_makeE ?_ | with_reducible refine L2.rd_methE ?_ | with_reducible refine L2.rd_methLE ?_ | with_reducible refine L2.rd_raise ?_ | with_reducible refine L2.rd_try ?_ | with_reducible refine L2.rd_xinit ?_ | with_reducible refine L2.rd_xf1 ?_ | with_reducible refine L2.rd_xf2 ?_ | with_reducible refine L2.rd_join ?_ | with_reducible refine L2.rd_xget ?_ | with_reducible refine L2.rd_ifE ?_)))
namespace Fw
theorem fmod_small (r d : Int) (hd : d ≠ 0) : 0 ≤ r.fmod d * d ∧ (r.fmod d).natAbs < d.natAbs := by
  rcases (by omega : 0 < d ∨ d < 0) with h | h
  · have a := Int.fmod_nonneg_of_pos r h
    have b := Int.fmod_lt_of_pos r h
    exact ⟨Int.mul_nonneg a (Int.le_of_lt h), by omega⟩
  · have e : r.fmod d = -((-r).fmod (-d)) := by
      rw [Int.fmod_def, Int.fmod_def, Int.neg_fdiv_neg, Int.neg_mul]; omega
    have a := Int.fmod_nonneg_of_pos (-r) (b := -d) (by omega)
    have b := Int.fmod_lt_of_pos (-r) (b := -d) (by omega)
    rw [e]
    generalize (-r).fmod (-d) = z at *
    refine ⟨?_, by omega⟩
    have := Int.mul_nonneg a (show 0 ≤ -d by omega)
    rw [Int.neg_mul]; rw [Int.mul_neg] at this; omega

structure EqI (a b u v r u' v' r' : Int) : Prop where
  e1 : u * a + v * b = r
  e2 : u' * a + v' * b = r'
  g : Int.gcd r r' = Int.gcd a b
  ph : (u = 1 ∧ v = 0 ∧ r = a ∧ u' = 0 ∧ v' = 1 ∧ r' = b) ∨
    (b ≠ 0 ∧ r ≠ 0 ∧ 0 ≤ r' * r ∧ r.natAbs ≤ b.natAbs ∧ r'.natAbs ≤ b.natAbs ∧ u'.natAbs * r.natAbs + u.natAbs * r'.natAbs ≤ b.natAbs ∧ u.natAbs ≤ b.natAbs + 1)

theorem EqI.start (a b : Int) : EqI a b 1 0 a 0 1 b := ⟨by omega, by omega, rfl, .inl ⟨rfl, rfl, rfl, rfl, rfl, rfl⟩⟩

theorem natAbs_sub_mul (u q x : Int) : (u - q * x).natAbs ≤ u.natAbs + q.natAbs * x.natAbs := by
  have h := Int.natAbs_sub_le u (q * x)
  rw [Int.natAbs_mul] at h
  exact h

theorem same_sign_quot {r d : Int} (hd : d ≠ 0) (hs : 0 ≤ d * r) : (r - r.fdiv d * d).natAbs + (r.fdiv d).natAbs * d.natAbs = r.natAbs := by
  have e : r.fmod d + r.fdiv d * d = r := Int.fmod_add_fdiv_mul r d
  have e2 : r - r.fdiv d * d = r.fmod d := by omega
  rw [e2, ← Int.natAbs_mul]
  have fs := fmod_small r d hd
  rcases (by omega : 0 < d ∨ d < 0) with h | h
  · have r0 : 0 ≤ r := by
      rcases (by omega : 0 ≤ r ∨ r < 0) with z | z
      · exact z
      · have := Int.mul_neg_of_pos_of_neg h z; omega
    have q0 : 0 ≤ r.fdiv d := Int.fdiv_nonneg r0 (Int.le_of_lt h)
    have a := Int.fmod_nonneg_of_pos r h
    have p := Int.mul_nonneg q0 (Int.le_of_lt h)
    omega
  · have r0 : r ≤ 0 := by
      rcases (by omega : r ≤ 0 ∨ 0 < r) with z | z
      · exact z
      · have := Int.mul_neg_of_neg_of_pos h z; omega
    have q0 : 0 ≤ r.fdiv d := Int.fdiv_nonneg_of_nonpos_of_nonpos r0 (Int.le_of_lt h)
    have a : r.fmod d ≤ 0 := by
      rcases (by omega : r.fmod d ≤ 0 ∨ 0 < r.fmod d) with z | z
      · exact z
      · have := Int.mul_neg_of_pos_of_neg z h; omega
    have p := Int.mul_nonneg q0 (show 0 ≤ -d by omega)
    rw [Int.mul_neg] at p
    omega

theorem EqI.step {a b u v r u' v' r' : Int} (I : EqI a b u v r u' v' r') (h : r' ≠ 0) :
    EqI a b u' v' r' (u - r.fdiv r' * u') (v - r.fdiv r' * v') (r - r.fdiv r' * r') ∧ (r - r.fdiv r' * r').natAbs < r'.natAbs := by
  have e : r.fmod r' + r.fdiv r' * r' = r := Int.fmod_add_fdiv_mul r r'
  have e2 : r - r.fdiv r' * r' = r.fmod r' := by omega
  have fs := fmod_small r r' h
  refine ⟨⟨I.e2, ?_, ?_, ?_⟩, by rw [e2]; exact fs.2⟩
  · have := I.e1
    have := I.e2
    grind
  · rw [Int.gcd_sub_mul_right_right, Int.gcd_comm]
    exact I.g
  · right
    rcases I.ph with ⟨h1, h2, h3, h4, h5, h6⟩ | ⟨hb, hr, hs, l1, l2, l3, l4⟩
    · subst h1 h2 h3 h4 h5 h6
      refine ⟨h, h, by rw [e2]; exact fs.1, Nat.le_refl _, by rw [e2]; omega, ?_, by simp⟩
      simp
    · have q := same_sign_quot h hs
      refine ⟨hb, h, by rw [e2]; exact fs.1, l2, by rw [e2]; omega, ?_, ?_⟩
      · have m := natAbs_sub_mul u (r.fdiv r') u'
        generalize (r - r.fdiv r' * r').natAbs = A at *
        generalize (u - r.fdiv r' * u').natAbs = B at *
        generalize (r.fdiv r').natAbs = C at *
        have k1 : B * r'.natAbs ≤ (u.natAbs + C * u'.natAbs) * r'.natAbs := Nat.mul_le_mul_right _ m
        have k2 : (u.natAbs + C * u'.natAbs) * r'.natAbs + u'.natAbs * A = u.natAbs * r'.natAbs + u'.natAbs * (A + C * r'.natAbs) := by grind
        rw [q] at k2
        omega
      · have : u'.natAbs * 1 ≤ u'.natAbs * r.natAbs := Nat.mul_le_mul_left _ (by omega)
        omega

theorem v_bound {a b u v r : Int} (hb : b ≠ 0) (e : u * a + v * b = r) (l1 : r.natAbs ≤ b.natAbs) (l4 : u.natAbs ≤ b.natAbs + 1) : v.natAbs ≤ 1 + 2 * a.natAbs := by
  have e1 : v * b = r - u * a := by omega
  have h := natAbs_sub_mul r u a
  rw [← e1, Int.natAbs_mul] at h
  have hb' : 0 < b.natAbs := by omega
  have k : u.natAbs * a.natAbs ≤ (b.natAbs + 1) * a.natAbs := Nat.mul_le_mul_right _ l4
  have k2 : a.natAbs * 1 ≤ a.natAbs * b.natAbs := Nat.mul_le_mul_left _ hb'
  have k3 : v.natAbs * b.natAbs ≤ (1 + 2 * a.natAbs) * b.natAbs := by grind
  exact Nat.le_of_mul_le_mul_right k3 hb'

theorem EqI.bounds {a b u v r u' v' r' : Int} (I : EqI a b u v r u' v' r') :
    u.natAbs ≤ b.natAbs + 1 ∧ v.natAbs ≤ 1 + 2 * a.natAbs ∧ u'.natAbs ≤ b.natAbs + 1 ∧ v'.natAbs ≤ 1 + 2 * a.natAbs ∧ r.natAbs ≤ a.natAbs + b.natAbs ∧ r'.natAbs ≤ b.natAbs := by
  rcases I.ph with ⟨h1, h2, h3, h4, h5, h6⟩ | ⟨hb, hr, hs, l1, l2, l3, l4⟩
  · subst h1 h2 h3 h4 h5 h6
    refine ⟨by simp, by simp, by simp, by simp, by omega, by omega⟩
  · have : u'.natAbs * 1 ≤ u'.natAbs * r.natAbs := Nat.mul_le_mul_left _ (by omega)
    have lu : u'.natAbs ≤ b.natAbs + 1 := by omega
    exact ⟨l4, v_bound hb I.e1 l1 l4, lu, v_bound hb I.e2 l2 lu, by omega, l2⟩

theorem quot_bound {r d : Int} (hd : d ≠ 0) : (r.fdiv d).natAbs ≤ r.natAbs + 1 := by
  have e : r.fmod d + r.fdiv d * d = r := Int.fmod_add_fdiv_mul r d
  have fs := (fmod_small r d hd).2
  have h : (r.fdiv d * d).natAbs ≤ r.natAbs + (r.fmod d).natAbs := by omega
  rw [Int.natAbs_mul] at h
  have d1 : 1 ≤ d.natAbs := by omega
  generalize (r.fdiv d).natAbs = x at *
  generalize d.natAbs = y at *
  generalize r.natAbs = z at *
  rcases (by omega : x ≤ 1 ∨ 2 ≤ x) with c | c
  · omega
  · obtain ⟨k, rfl⟩ : ∃ k, x = k + 1 := ⟨x - 1, by omega⟩
    have : (k + 1) * y = k * y + y := Nat.succ_mul k y
    have : k * 1 ≤ k * y := Nat.mul_le_mul_left k d1
    omega
/-- what an equation tells -/
structure Eqn (a b u v g : Int) : Prop where
  eq : u * a + v * b = g
  gd : g = (Int.gcd a b : Int)
  bu : u.natAbs ≤ b.natAbs + 1
  bv : v.natAbs ≤ 1 + 2 * a.natAbs

theorem EqI.done {a b u v r u' v' : Int} (I : EqI a b u v r u' v' 0) : (r < 0 → Eqn a b (-u) (-v) (-r)) ∧ (¬ r < 0 → Eqn a b u v r) := by
  have g := I.g
  rw [Int.gcd_zero_right] at g
  have B := I.bounds
  refine ⟨fun h => ⟨?_, by omega, by omega, by omega⟩, fun h => ⟨I.e1, by omega, B.1, B.2.1⟩⟩
  have := I.e1
  rw [Int.neg_mul, Int.neg_mul]; omega
end Fw

namespace Fw
theorem gcd_pos {a b : Int} (ha : 0 < a) : 0 < (Int.gcd a b : Int) := by
  have : Int.gcd a b ≠ 0 := fun z => by
    have := Int.eq_zero_of_gcd_eq_zero_left z
    omega
  omega
theorem gcd_le {a b : Int} (ha : 0 < a) : (Int.gcd a b : Int) ≤ a := Int.le_of_dvd ha (Int.gcd_dvd_left ..)
/-- a // g * b -/
def lcmI (a b : Int) : Int := a / (Int.gcd a b : Int) * b
theorem lcmI_facts {a b : Int} (ha : 0 < a) (hb : 0 < b) :
    0 < lcmI a b ∧ a ∣ lcmI a b ∧ b ∣ lcmI a b ∧ lcmI a b * (Int.gcd a b : Int) = a * b ∧ (∀ t, a ∣ t → b ∣ t → lcmI a b ∣ t) ∧ lcmI a b = (Int.lcm a b : Int) := by
  have gp := gcd_pos (b := b) ha
  obtain ⟨x, hx⟩ : (Int.gcd a b : Int) ∣ a := Int.gcd_dvd_left ..
  obtain ⟨y, hy⟩ : (Int.gcd a b : Int) ∣ b := Int.gcd_dvd_right ..
  have e1 : a / (Int.gcd a b : Int) = x := by
    have gne : (Int.gcd a b : Int) ≠ 0 := by omega
    generalize hg : (Int.gcd a b : Int) = g at *
    rw [hx]
    exact Int.mul_ediv_cancel_left x gne
  have e : lcmI a b = x * b := by unfold lcmI; rw [e1]
  have pr : lcmI a b * (Int.gcd a b : Int) = a * b := by rw [e]; conv => rhs; rw [hx]
                                                         grind
  have pl : (Int.lcm a b : Int) * (Int.gcd a b : Int) = a * b := by
    have h := Int.gcd_mul_lcm a b
    have h2 : ((Int.gcd a b * Int.lcm a b : Nat) : Int) = ((a.natAbs * b.natAbs : Nat) : Int) := by rw [h]
    rw [Int.natCast_mul, Int.natCast_mul, Int.natAbs_of_nonneg (Int.le_of_lt ha), Int.natAbs_of_nonneg (Int.le_of_lt hb)] at h2
    rw [Int.mul_comm]; exact h2
  have el : lcmI a b = (Int.lcm a b : Int) := Int.eq_of_mul_eq_mul_right (by omega : (Int.gcd a b : Int) ≠ 0) (pr.trans pl.symm)
  refine ⟨?_, ?_, ?_, pr, ?_, el⟩
  · have : 0 < lcmI a b * (Int.gcd a b : Int) := by rw [pr]; exact Int.mul_pos ha hb
    exact Int.pos_of_mul_pos_left this gp
  · rw [el]; exact Int.dvd_lcm_left ..
  · rw [el]; exact Int.dvd_lcm_right ..
  · intro t h1 h2; rw [el]; exact Int.coe_lcm_dvd h1 h2
theorem lcmI_le {a b : Int} (ha : 0 < a) (hb : 0 < b) : lcmI a b ≤ a * b := by
  have f := lcmI_facts ha hb
  have gp := gcd_pos (b := b) ha
  have h : lcmI a b * 1 ≤ lcmI a b * (Int.gcd a b : Int) := Int.mul_le_mul_of_nonneg_left (by omega) (Int.le_of_lt f.1)
  rw [f.2.2.2.1] at h; omega
end Fw

namespace Fw
def On (n : Int) (b : Nat) (d : Int) : Bool := b.testBit (d % n).toNat
theorem bits_ext {w b c : Nat} (hb : b < 2 ^ w) (hc : c < 2 ^ w) (h : ∀ i, i < w → b.testBit i = c.testBit i) : b = c := by
  refine Nat.eq_of_testBit_eq fun i => ?_
  by_cases hi : i < w
  · exact h i hi
  · have p : 2 ^ w ≤ 2 ^ i := Nat.pow_le_pow_right (by decide) (by omega)
    rw [Nat.testBit_lt_two_pow (by omega), Nat.testBit_lt_two_pow (by omega)]
theorem high {n b i : Nat} (hb : b < 2 ^ n) (h : n ≤ i) : b.testBit i = false := by
  have p : 2 ^ n ≤ 2 ^ i := Nat.pow_le_pow_right (by decide) h
  exact Nat.testBit_lt_two_pow (by omega)
structure Strt (n b w c : Nat) : Prop where
  lt : c < 2 ^ w
  bit : ∀ i, i < w → c.testBit i = b.testBit (i % n)
theorem Strt.start {n b : Nat} (h : b < 2 ^ n) : Strt n b n b := ⟨h, fun i hi => by rw [Nat.mod_eq_of_lt hi]⟩
theorem Strt.uniq {n b w c c' : Nat} (S : Strt n b w c) (S' : Strt n b w c') : c = c' := bits_ext S.lt S'.lt fun i hi => by rw [S.bit i hi, S'.bit i hi]
theorem Strt.on {n m : Int} {b c : Nat} (hn : 0 < n) (hm : 0 < m) (hd : n ∣ m) (S : Strt n.toNat b m.toNat c) (d : Int) : On m c d = On n b d := by
  unfold On
  have h1 := Int.emod_nonneg d (show m ≠ 0 by omega)
  have h2 := Int.emod_lt_of_pos d hm
  rw [S.bit _ (by omega)]
  congr 1
  have e : (d % m) % n = d % n := Int.emod_emod_of_dvd d hd
  have h3 := Int.emod_nonneg d (show n ≠ 0 by omega)
  have k : (((d % m).toNat % n.toNat : Nat) : Int) = d % m % n := by
    rw [Int.natCast_emod]
    have a1 : ((d % m).toNat : Int) = d % m := by omega
    have a2 : (n.toNat : Int) = n := by omega
    rw [a1, a2]
  rw [e] at k
  omega
end Fw

namespace Fw
abbrev Tm := Int × Int × Int × Int
structure OkT (t : Tm) : Prop where
  sg : t.1 = 1 ∨ t.1 = -1
  n0 : 1 ≤ t.2.2.2
  n1 : t.2.2.2 ≤ 1000
  a0 : 0 ≤ t.2.1
  a1 : t.2.1 ≤ t.2.2.2
  b0 : 0 ≤ t.2.2.1
  b1 : t.2.2.1 < t.2.2.2
/-- the term is on in k -/
def onT (t : Tm) (k : Int) : Bool := decide (t.2.2.2 ≤ (t.2.1 * k + t.2.2.1) % t.2.2.2 + t.2.1)
/-- counted up to k -/
def ctT (t : Tm) (k : Int) : Int := (t.2.1 * k + t.2.2.1) / t.2.2.2
def SU (ts : List Tm) (k : Int) : Int := (ts.map fun t => t.1 * ctT t k).sum
def UP (base : Int) (ts : List Tm) (k : Int) : Int := base * k + SU ts k
def ONS (ts : List Tm) (k : Int) : Int := ((ts.filter fun t => onT t k).map fun t => t.1).sum
def AT (base : Int) (ts : List Tm) (k : Int) : Int := base + ONS ts k
def falls (ts : List Tm) : Int := ((ts.filter fun t => decide (t.1 = -1)).length : Int)
theorem ct_step {t : Tm} (h : OkT t) (k : Int) : ctT t (k + 1) = ctT t k + (if onT t k = true then 1 else 0) := by
  unfold ctT onT
  obtain ⟨s, a, b, n⟩ := t
  have n0 := h.n0
  have a0 := h.a0
  have a1 := h.a1
  dsimp only at n0 a0 a1 ⊢
  have e : a * (k + 1) + b = a * k + b + a := by rw [Int.mul_add, Int.mul_one]; omega
  rw [e]
  generalize a * k + b = y
  have q := Int.mul_ediv_add_emod y n
  have r0 := Int.emod_nonneg y (show n ≠ 0 by omega)
  have r1 := Int.emod_lt_of_pos y (show 0 < n by omega)
  by_cases c : n ≤ y % n + a
  · rw [decide_eq_true c, if_pos rfl]
    have h : y + a = n * (y / n + 1) + (y % n + a - n) := by rw [Int.mul_add, Int.mul_one]; omega
    conv => lhs; rw [h]
    rw [Int.mul_add_ediv_left _ _ (by omega), Int.ediv_eq_zero_of_lt (a := y % n + a - n) (b := n) (by omega) (by omega)]
    omega
  · rw [decide_eq_false c, if_neg Bool.false_ne_true]
    have h : y + a = n * (y / n) + (y % n + a) := by omega
    conv => lhs; rw [h]
    rw [Int.mul_add_ediv_left _ _ (by omega), Int.ediv_eq_zero_of_lt (a := y % n + a) (b := n) (by omega) (by omega)]
theorem ct_zero {t : Tm} (h : OkT t) : ctT t 0 = 0 := by
  unfold ctT
  rw [Int.mul_zero, Int.zero_add]
  exact Int.ediv_eq_zero_of_lt h.b0 h.b1
theorem SU_step : ∀ {ts : List Tm} (_ : ∀ t ∈ ts, OkT t) (k : Int), SU ts (k + 1) = SU ts k + ONS ts k
  | [], _, k => rfl
  | t :: ts, h, k => by
    have ih := SU_step (ts := ts) (fun x hx => h x (List.mem_cons_of_mem _ hx)) k
    have s := ct_step (h t List.mem_cons_self) k
    unfold SU ONS at *
    rw [List.map_cons, List.map_cons, List.sum_cons, List.sum_cons, ih, s, List.filter_cons]
    by_cases c : onT t k = true
    · rw [if_pos c, if_pos c, List.map_cons, List.sum_cons, Int.mul_add, Int.mul_one]
      omega
    · rw [if_neg c, if_neg c, Int.add_zero]
      omega
theorem SU_zero : ∀ {ts : List Tm} (_ : ∀ t ∈ ts, OkT t), SU ts 0 = 0
  | [], _ => rfl
  | t :: ts, h => by
    have ih := SU_zero (ts := ts) (fun x hx => h x (List.mem_cons_of_mem _ hx))
    unfold SU at *
    rw [List.map_cons, List.sum_cons, ih, ct_zero (h t List.mem_cons_self)]
    simp
theorem ONS_low : ∀ {ts : List Tm} (_ : ∀ t ∈ ts, OkT t) (k : Int), -falls ts ≤ ONS ts k
  | [], _, k => by show (-((0 : Nat) : Int)) ≤ 0; omega
  | t :: ts, h, k => by
    have ih := ONS_low (ts := ts) (fun x hx => h x (List.mem_cons_of_mem _ hx)) k
    have sg := (h t List.mem_cons_self).sg
    unfold falls ONS at *
    rw [List.filter_cons, List.filter_cons]
    by_cases c : onT t k = true
    · rw [if_pos c, List.map_cons, List.sum_cons]
      rcases sg with z | z
      · rw [if_neg (by rw [decide_eq_true_eq]; omega)]
        omega
      · rw [if_pos (decide_eq_true z), List.length_cons]
        omega
    · rw [if_neg c]
      split
      · rw [List.length_cons]
        omega
      · omega
theorem UP_step {base : Int} {ts : List Tm} (h : ∀ t ∈ ts, OkT t) (k : Int) : UP base ts (k + 1) = UP base ts k + AT base ts k := by
  unfold UP AT
  rw [SU_step h, Int.mul_add, Int.mul_one]
  omega
theorem UP_zero {base : Int} {ts : List Tm} (h : ∀ t ∈ ts, OkT t) : UP base ts 0 = 0 := by
  unfold UP
  rw [SU_zero h, Int.mul_zero]
  rfl
theorem UP_mono {base : Int} {ts : List Tm} (h : ∀ t ∈ ts, OkT t) (hf : falls ts ≤ base) {j k : Int} (jk : j ≤ k) : UP base ts j ≤ UP base ts k := by
  have : ∀ m : Nat, UP base ts j ≤ UP base ts (j + (m : Int)) := by
    intro m
    induction m with
    | zero => simp
    | succ m ih =>
      have e := UP_step (base := base) h (j + (m : Int))
      have l := ONS_low h (j + (m : Int))
      unfold AT at e
      rw [show j + ((m + 1 : Nat) : Int) = j + (m : Int) + 1 by omega, e]
      omega
  have := this (k - j).toNat
  rwa [show j + ((k - j).toNat : Int) = k by omega] at this
theorem ct_per {t : Tm} (h : OkT t) {P : Int} (hd : t.2.2.2 ∣ P) (k q : Int) : ctT t (k + P * q) = ctT t k + q * ctT t P := by
  have n0 := h.n0
  obtain ⟨c, rfl⟩ := hd
  unfold ctT
  obtain ⟨s, a, b, n⟩ := t
  dsimp only at n0 ⊢
  have b0 := h.b0
  have b1 := h.b1
  dsimp only at b0 b1
  have e1 : a * (k + n * c * q) + b = a * k + b + n * (a * (c * q)) := by
    rw [Int.mul_add, show a * (n * c * q) = n * (a * (c * q)) by rw [Int.mul_assoc, Int.mul_left_comm]]
    omega
  have e2 : a * (n * c) + b = b + n * (a * c) := by rw [Int.mul_left_comm]; omega
  rw [e1, e2, Int.add_mul_ediv_left _ _ (by omega), Int.add_mul_ediv_left _ _ (by omega), Int.ediv_eq_zero_of_lt b0 b1, Int.zero_add]
  congr 1
  rw [Int.mul_left_comm q a c, Int.mul_comm q c]
theorem SU_per : ∀ {ts : List Tm} (_ : ∀ t ∈ ts, OkT t) {P : Int} (_ : ∀ t ∈ ts, t.2.2.2 ∣ P) (k q : Int), SU ts (k + P * q) = SU ts k + q * SU ts P
  | [], _, P, _, k, q => by unfold SU; simp
  | t :: ts, h, P, hd, k, q => by
    have ih := SU_per (ts := ts) (fun x hx => h x (List.mem_cons_of_mem _ hx)) (P := P) (fun x hx => hd x (List.mem_cons_of_mem _ hx)) k q
    have s := ct_per (h t List.mem_cons_self) (hd t List.mem_cons_self) k q
    unfold SU at *
    rw [List.map_cons, List.map_cons, List.map_cons, List.sum_cons, List.sum_cons, List.sum_cons, ih, s, Int.mul_add, Int.mul_add, Int.mul_left_comm t.1 q]
    omega
theorem UP_per {base : Int} {ts : List Tm} (h : ∀ t ∈ ts, OkT t) {P : Int} (hd : ∀ t ∈ ts, t.2.2.2 ∣ P) (k q : Int) : UP base ts (k + P * q) = UP base ts k + q * UP base ts P := by
  unfold UP
  rw [SU_per h hd, Int.mul_add, Int.mul_add, show base * (P * q) = q * (base * P) by rw [← Int.mul_assoc, Int.mul_comm]]
  omega
theorem ct_le {t : Tm} (h : OkT t) {k : Int} (k0 : 0 ≤ k) : 0 ≤ ctT t k ∧ ctT t k ≤ k := by
  have n0 := h.n0
  have a0 := h.a0
  have b0 := h.b0
  have b1 := h.b1
  have p0 : 0 ≤ t.2.1 * k := Int.mul_nonneg a0 k0
  have p1 : t.2.1 * k ≤ t.2.2.2 * k := Int.mul_le_mul_of_nonneg_right h.a1 k0
  unfold ctT
  refine ⟨Int.ediv_nonneg (by omega) (by omega), ?_⟩
  have : (t.2.1 * k + t.2.2.1) / t.2.2.2 < k + 1 := by
    rw [Int.ediv_lt_iff_lt_mul (by omega), Int.add_mul, Int.one_mul, Int.mul_comm k]
    omega
  omega
theorem SU_le : ∀ {ts : List Tm} (_ : ∀ t ∈ ts, OkT t) {k : Int} (_ : 0 ≤ k), -((ts.length : Int) * k) ≤ SU ts k ∧ SU ts k ≤ (ts.length : Int) * k
  | [], _, k, _ => by unfold SU; simp
  | t :: ts, h, k, k0 => by
    have ih := SU_le (ts := ts) (fun x hx => h x (List.mem_cons_of_mem _ hx)) k0
    have c := ct_le (h t List.mem_cons_self) k0
    have sg := (h t List.mem_cons_self).sg
    unfold SU at *
    rw [List.map_cons, List.sum_cons, List.length_cons, Int.natCast_add, Int.add_mul]
    have e1 : ((1 : Nat) : Int) * k = k := by simp
    rcases sg with z | z
    · rw [z, Int.one_mul]
      omega
    · rw [z, show (-1 : Int) * ctT t k = -ctT t k by omega]
      omega
/-- the least number that the n of all terms divide -/
def PER (ts : List Tm) : Int := ts.foldl (fun p t => lcmI p t.2.2.2) 1
end Fw

namespace Fw
theorem UP_pos {base : Int} {ts : List Tm} (h : ∀ t ∈ ts, OkT t) (hf : falls ts < base) {P : Int} (P0 : 0 < P) : 0 < UP base ts P := by
  have m := UP_mono h (Int.le_refl (falls ts)) (show (0 : Int) ≤ P by omega)
  rw [UP_zero h] at m
  unfold UP at *
  have : (falls ts + 1) * P ≤ base * P := Int.mul_le_mul_of_nonneg_right (by omega) (by omega)
  rw [Int.add_mul, Int.one_mul] at this
  omega
theorem ct_neg {t : Tm} (h : OkT t) {k : Int} (k0 : k ≤ 0) : k ≤ ctT t k ∧ ctT t k ≤ 0 := by
  have n0 := h.n0
  have a0 := h.a0
  have b0 := h.b0
  have b1 := h.b1
  have p0 : t.2.1 * k ≤ 0 := Int.mul_nonpos_of_nonneg_of_nonpos a0 k0
  have p1 : t.2.2.2 * k ≤ t.2.1 * k := Int.mul_le_mul_of_nonpos_right h.a1 k0
  unfold ctT
  constructor
  · rw [Int.le_ediv_iff_mul_le (by omega), Int.mul_comm]
    omega
  · have : (t.2.1 * k + t.2.2.1) / t.2.2.2 < 1 := by
      rw [Int.ediv_lt_iff_lt_mul (by omega), Int.one_mul]
      omega
    omega
theorem SU_neg : ∀ {ts : List Tm} (_ : ∀ t ∈ ts, OkT t) {k : Int} (_ : k ≤ 0), (ts.length : Int) * k ≤ SU ts k ∧ SU ts k ≤ -((ts.length : Int) * k)
  | [], _, k, _ => by unfold SU; simp
  | t :: ts, h, k, k0 => by
    have ih := SU_neg (ts := ts) (fun x hx => h x (List.mem_cons_of_mem _ hx)) k0
    have c := ct_neg (h t List.mem_cons_self) k0
    have sg := (h t List.mem_cons_self).sg
    unfold SU at *
    rw [List.map_cons, List.sum_cons, List.length_cons, Int.natCast_add, Int.add_mul]
    have e1 : ((1 : Nat) : Int) * k = k := by simp
    rcases sg with z | z
    · rw [z, Int.one_mul]
      omega
    · rw [z, show (-1 : Int) * ctT t k = -ctT t k by omega]
      omega
theorem UP_abs {b : Int} {ts : List Tm} (h : ∀ t ∈ ts, OkT t) (b0 : 0 ≤ b) (b1 : b ≤ 20000) (few : ts.length ≤ 6) {k K : Int} (h0 : -K ≤ k) (h1 : k ≤ K) : -(20006 * K) ≤ UP b ts k ∧ UP b ts k ≤ 20006 * K := by
  unfold UP
  rcases Int.lt_or_le k 0 with c | c
  · obtain ⟨s1, s2⟩ := SU_neg h (show k ≤ 0 by omega)
    have m1 : 20000 * k ≤ b * k := Int.mul_le_mul_of_nonpos_right b1 (by omega)
    have m2 : b * k ≤ 0 := Int.mul_nonpos_of_nonneg_of_nonpos b0 (by omega)
    have m3 : 6 * k ≤ (ts.length : Int) * k := Int.mul_le_mul_of_nonpos_right (by omega) (by omega)
    omega
  · obtain ⟨s1, s2⟩ := SU_le h c
    have m1 : b * k ≤ 20000 * k := Int.mul_le_mul_of_nonneg_right b1 c
    have m2 : 0 ≤ b * k := Int.mul_nonneg b0 c
    have m3 : (ts.length : Int) * k ≤ 6 * k := Int.mul_le_mul_of_nonneg_right (by omega) c
    omega
end Fw

namespace Fw
theorem AT_high {ts : List Tm} (h : ∀ t ∈ ts, OkT t) (k : Int) : ONS ts k ≤ (ts.length : Int) := by
  unfold ONS
  induction ts with
  | nil => exact Int.le_refl 0
  | cons t ts ih =>
    have i := ih fun x hx => h x (List.mem_cons_of_mem _ hx)
    have sg := (h t List.mem_cons_self).sg
    rw [List.filter_cons, List.length_cons]
    split
    · rw [List.map_cons, List.sum_cons]
      omega
    · omega
end Fw

namespace Fw
theorem sum_le : ∀ {ls : List Int}, (∀ n ∈ ls, 0 ≤ n ∧ n ≤ 1000) → 0 ≤ ls.sum ∧ ls.sum ≤ 1000 * (ls.length : Int)
  | [], _ => by simp
  | a :: ls, h => by
    have i := sum_le (ls := ls) fun n hn => h n (List.mem_cons_of_mem _ hn)
    have := h a List.mem_cons_self
    rw [List.sum_cons, List.length_cons]
    omega
theorem sum_set : ∀ {ls : List Int} {i : Nat} {e : Int}, i < ls.length → (ls.set i (ls.getD i 0 + e)).sum = ls.sum + e
  | [], i, e, h => by simp at h
  | a :: ls, 0, e, _ => by
    show (a + e) + ls.sum = (a :: ls).sum + e
    rw [List.sum_cons]
    omega
  | a :: ls, i + 1, e, h => by
    have ih := sum_set (ls := ls) (i := i) (e := e) (by simpa using h)
    show a + (ls.set i (ls.getD i 0 + e)).sum = (a :: ls).sum + e
    rw [ih, List.sum_cons]
    omega
def LENS (ls : List Int) (lp : Int) (ts : List Tm) (y : Int) : List Int := ls.set (lp - 1).toNat (ls.getD (lp - 1).toNat 0 + ONS ts y)
structure GoodS (ls : List Int) (lp : Int) (ts : List Tm) : Prop where
  l0 : 1 ≤ ls.length
  l1 : ls.length ≤ 20
  m : ∀ n ∈ ls, 0 ≤ n ∧ n ≤ 1000
  p0 : 1 ≤ lp
  p1 : lp ≤ (ls.length : Int)
  f0 : falls ts ≤ ls.getD (lp - 1).toNat 0
  f1 : falls ts < ls.sum
  ok : ∀ t ∈ ts, OkT t
  few : ts.length ≤ 6
theorem GoodS.sum {ls : List Int} {lp : Int} {ts : List Tm} (g : GoodS ls lp ts) : 0 ≤ ls.sum ∧ ls.sum ≤ 20000 := by
  have := sum_le g.m
  have := g.l1
  omega
theorem LENS_sum {ls : List Int} {lp : Int} {ts : List Tm} (g : GoodS ls lp ts) (y : Int) : (LENS ls lp ts y).sum = AT ls.sum ts y := by
  have p0 := g.p0
  have p1 := g.p1
  unfold LENS AT
  exact sum_set (by omega)
theorem getD_mem' {ls : List Int} {i : Nat} (h : i < ls.length) : ls.getD i 0 ∈ ls := by
  rw [List.getD_eq_getElem?_getD, List.getElem?_eq_getElem h]
  exact List.getElem_mem h
theorem LENS_mem {ls : List Int} {lp : Int} {ts : List Tm} (g : GoodS ls lp ts) (y : Int) : ∀ n ∈ LENS ls lp ts y, 0 ≤ n ∧ n ≤ 1006 := by
  intro n hn
  have p0 := g.p0
  have p1 := g.p1
  unfold LENS at hn
  rcases List.mem_or_eq_of_mem_set hn with z | z
  · have := g.m n z
    omega
  · have := g.m _ (getD_mem' (ls := ls) (i := (lp - 1).toNat) (by omega))
    have l := ONS_low g.ok y
    have u := AT_high g.ok y
    have := g.few
    have := g.f0
    omega
theorem LENS_len {ls : List Int} {lp : Int} {ts : List Tm} {y : Int} : (LENS ls lp ts y).length = ls.length := by
  unfold LENS
  rw [List.length_set]
end Fw

namespace Fw
theorem UP_less {b : Int} {ts : List Tm} {k : Int} : UP b ts k = UP (b - 1) ts k + k := by
  unfold UP
  rw [Int.sub_mul, Int.one_mul]
  omega
theorem UP_lt {b : Int} {ts : List Tm} (h : ∀ t ∈ ts, OkT t) (hf : falls ts < b) {j k : Int} (jk : j < k) : UP b ts j < UP b ts k := by
  have := UP_mono h (show falls ts ≤ b - 1 by omega) (Int.le_of_lt jk)
  rw [UP_less (b := b), UP_less (b := b) (k := k)]
  omega
theorem seek_small {b : Int} {ts : List Tm} (h : ∀ t ∈ ts, OkT t) (hf : falls ts < b) {n k : Int} (u1 : UP b ts k ≤ n) (u2 : n < UP b ts (k + 1)) : k.natAbs ≤ n.natAbs := by
  have z := UP_zero (base := b - 1) h
  rw [UP_less] at u1 u2
  rcases Int.lt_or_le k 0 with c | c
  · have := UP_mono h (show falls ts ≤ b - 1 by omega) (show k + 1 ≤ 0 by omega)
    omega
  · have := UP_mono h (show falls ts ≤ b - 1 by omega) c
    omega
structure GoodMo (bd : Int) (td : List Tm) (bm : Int) (tm : List Tm) : Prop where
  fd : falls td < bd
  gd : bd ≤ 1000
  fm : falls tm < bm
  gm : bm ≤ 20
  okd : ∀ t ∈ td, OkT t
  okm : ∀ t ∈ tm, OkT t
  fwd : td.length ≤ 6
  fwm : tm.length ≤ 6
def MYS (s bd : Int) (td : List Tm) (bm : Int) (tm : List Tm) (y : Int) : Int := s + UP bd td (UP bm tm y)
def MLEN (bd : Int) (td : List Tm) (bm : Int) (tm : List Tm) (y : Int) : List Int := (List.range (AT bm tm y).toNat).map fun i : Nat => AT bd td (UP bm tm y + (i : Int))
theorem at_sum {b : Int} {ts : List Tm} (h : ∀ t ∈ ts, OkT t) (f : Int) : ∀ n : Nat, ((List.range n).map fun i : Nat => AT b ts (f + (i : Int))).sum = UP b ts (f + (n : Int)) - UP b ts f
  | 0 => by simp
  | n + 1 => by
    have s := UP_step (base := b) h (f + (n : Int))
    rw [List.range_succ, List.map_append, List.sum_append, at_sum h f n, show f + ((n + 1 : Nat) : Int) = f + (n : Int) + 1 by omega, s]
    simp
    omega
theorem falls_nn {ts : List Tm} : 0 ≤ falls ts := by
  unfold falls
  omega
theorem AT_pos {b : Int} {ts : List Tm} (h : ∀ t ∈ ts, OkT t) (hf : falls ts < b) (k : Int) : 1 ≤ AT b ts k := by
  have := ONS_low h k
  unfold AT
  omega
theorem AT_le {b : Int} {ts : List Tm} (h : ∀ t ∈ ts, OkT t) (few : ts.length ≤ 6) (k : Int) : AT b ts k ≤ b + 6 := by
  have := AT_high h k
  unfold AT
  omega
theorem MLEN_sum {s bd : Int} {td : List Tm} {bm : Int} {tm : List Tm} (g : GoodMo bd td bm tm) (y : Int) : (MLEN bd td bm tm y).sum = MYS s bd td bm tm (y + 1) - MYS s bd td bm tm y := by
  unfold MLEN MYS
  have p := AT_pos g.okm g.fm y
  rw [at_sum g.okd, show ((AT bm tm y).toNat : Int) = AT bm tm y by omega, ← UP_step g.okm]
  omega
theorem MLEN_mem {bd : Int} {td : List Tm} {bm : Int} {tm : List Tm} (g : GoodMo bd td bm tm) (y : Int) : ∀ n ∈ MLEN bd td bm tm y, 0 ≤ n ∧ n ≤ 1006 := by
  intro n hn
  unfold MLEN at hn
  obtain ⟨i, _, rfl⟩ := List.mem_map.mp hn
  have := AT_pos g.okd g.fd (UP bm tm y + (i : Int))
  have := AT_le g.okd g.fwd (b := bd) (UP bm tm y + (i : Int))
  have := g.gd
  omega
theorem MLEN_len {bd : Int} {td : List Tm} {bm : Int} {tm : List Tm} (g : GoodMo bd td bm tm) (y : Int) : 1 ≤ (MLEN bd td bm tm y).length ∧ (MLEN bd td bm tm y).length ≤ 26 := by
  unfold MLEN
  rw [List.length_map, List.length_range]
  have := AT_pos g.okm g.fm y
  have := AT_le g.okm g.fwm (b := bm) y
  have := g.gm
  omega
end Fw

namespace Fw
inductive CalD where
  | sun (s : Int) (ls : List Int) (lp : Int) (ts : List Tm)
  | moon (s bd : Int) (td : List Tm) (bm : Int) (tm : List Tm)
def CalD.Y : CalD → Int → Int
  | .sun s ls _ ts, y => s + UP ls.sum ts y
  | .moon s bd td bm tm, y => MYS s bd td bm tm y
def CalD.L : CalD → Int → List Int
  | .sun _ ls lp ts, y => LENS ls lp ts y
  | .moon _ bd td bm tm, y => MLEN bd td bm tm y
def CalD.good : CalD → Prop
  | .sun _ ls lp ts => GoodS ls lp ts
  | .moon _ bd td bm tm => GoodMo bd td bm tm
def CalD.st : CalD → Int
  | .sun s _ _ _ => s
  | .moon s _ _ _ _ => s
/-- the days of the first j months -/
def PS (l : List Int) (j : Nat) : Int := (l.take j).sum
theorem PS_zero {l : List Int} : PS l 0 = 0 := rfl
theorem PS_succ {l : List Int} {j : Nat} (h : j < l.length) : PS l (j + 1) = PS l j + l.getD j 0 := by
  unfold PS
  rw [List.take_add_one, List.getD_eq_getElem?_getD, List.getElem?_eq_getElem h, List.sum_append]
  simp
theorem PS_mono {l : List Int} (h : ∀ n ∈ l, 0 ≤ n) {i : Nat} : ∀ {j : Nat}, i ≤ j → j ≤ l.length → PS l i ≤ PS l j
  | 0, hij, _ => by
    have : i = 0 := by omega
    subst this
    exact Int.le_refl _
  | j + 1, hij, hj => by
    rcases Nat.lt_or_eq_of_le hij with c | c
    · have := PS_mono (i := i) h (show i ≤ j by omega) (by omega)
      have e := PS_succ (l := l) (j := j) (by omega)
      have := h _ (getD_mem' (ls := l) (i := j) (by omega))
      omega
    · subst c
      exact Int.le_refl _
theorem PS_len {l : List Int} : PS l l.length = l.sum := by
  unfold PS
  rw [List.take_length]
theorem CalD.step {d : CalD} (g : d.good) (y : Int) : d.Y (y + 1) = d.Y y + (d.L y).sum := by
  cases d with
  | sun s ls lp ts =>
    show s + UP ls.sum ts (y + 1) = s + UP ls.sum ts y + (LENS ls lp ts y).sum
    rw [LENS_sum g y, UP_step (GoodS.ok g)]
    omega
  | moon s bd td bm tm =>
    show MYS s bd td bm tm (y + 1) = MYS s bd td bm tm y + (MLEN bd td bm tm y).sum
    rw [MLEN_sum (s := s) g y]
    omega
theorem CalD.mem {d : CalD} (g : d.good) (y : Int) : ∀ n ∈ d.L y, 0 ≤ n ∧ n ≤ 1006 := by
  cases d with
  | sun s ls lp ts => exact LENS_mem g y
  | moon s bd td bm tm => exact MLEN_mem g y
theorem CalD.len {d : CalD} (g : d.good) (y : Int) : 1 ≤ (d.L y).length ∧ (d.L y).length ≤ 26 := by
  cases d with
  | sun s ls lp ts =>
    show 1 ≤ (LENS ls lp ts y).length ∧ (LENS ls lp ts y).length ≤ 26
    rw [LENS_len]
    have := GoodS.l0 g
    have := GoodS.l1 g
    omega
  | moon s bd td bm tm => exact MLEN_len g y
theorem CalD.lt {d : CalD} (g : d.good) {j k : Int} (h : j < k) : d.Y j < d.Y k := by
  cases d with
  | sun s ls lp ts =>
    have := UP_lt (GoodS.ok g) (GoodS.f1 g) h
    show s + UP ls.sum ts j < s + UP ls.sum ts k
    omega
  | moon s bd td bm tm =>
    have := UP_lt (GoodMo.okd g) (GoodMo.fd g) (UP_lt (GoodMo.okm g) (GoodMo.fm g) h)
    show s + UP bd td (UP bm tm j) < s + UP bd td (UP bm tm k)
    omega
theorem CalD.uniq {d : CalD} (g : d.good) {n j k : Int} (h1 : d.Y j ≤ n) (h2 : n < d.Y (j + 1)) (h3 : d.Y k ≤ n) (h4 : n < d.Y (k + 1)) : j = k := by
  rcases Int.lt_trichotomy j k with c | c | c
  · rcases Int.lt_or_eq_of_le (show j + 1 ≤ k by omega) with z | z
    · have := CalD.lt g z
      omega
    · rw [z] at h2
      omega
  · exact c
  · rcases Int.lt_or_eq_of_le (show k + 1 ≤ j by omega) with z | z
    · have := CalD.lt g z
      omega
    · rw [z] at h4
      omega
theorem CalD.zero {d : CalD} (g : d.good) : d.Y 0 = d.st := by
  cases d with
  | sun s ls lp ts =>
    show s + UP ls.sum ts 0 = s
    rw [UP_zero (GoodS.ok g), Int.add_zero]
  | moon s bd td bm tm =>
    show s + UP bd td (UP bm tm 0) = s
    rw [UP_zero (GoodMo.okm g), UP_zero (GoodMo.okd g), Int.add_zero]
/-- (y, m, r) is a date; it is that of the day n -/
structure IsD (d : CalD) (y m r : Int) : Prop where
  m0 : 1 ≤ m
  m1 : m ≤ ((d.L y).length : Int)
  r0 : 1 ≤ r
  r1 : r ≤ (d.L y).getD (m - 1).toNat 0
def DayOf (d : CalD) (y m r : Int) : Int := d.Y y + PS (d.L y) (m - 1).toNat + r - 1
theorem IsD.year {d : CalD} (g : d.good) {y m r : Int} (h : IsD d y m r) : d.Y y ≤ DayOf d y m r ∧ DayOf d y m r < d.Y (y + 1) := by
  have m0 := h.m0
  have m1 := h.m1
  have r0 := h.r0
  have r1 := h.r1
  have nn : ∀ n ∈ d.L y, 0 ≤ n := fun n hn => (CalD.mem g y n hn).1
  have a := PS_mono nn (i := 0) (j := (m - 1).toNat) (by omega) (by omega)
  have b := PS_succ (l := d.L y) (j := (m - 1).toNat) (by omega)
  have c := PS_mono nn (i := (m - 1).toNat + 1) (j := (d.L y).length) (by omega) (Nat.le_refl _)
  rw [PS_len] at c
  rw [PS_zero] at a
  rw [CalD.step g]
  unfold DayOf
  omega
theorem IsD.uniq {d : CalD} (g : d.good) {y m r y' m' r' : Int} (h : IsD d y m r) (h' : IsD d y' m' r') (e : DayOf d y m r = DayOf d y' m' r') : y = y' ∧ m = m' ∧ r = r' := by
  have e1 := h.year g
  have e2 := h'.year g
  rw [← e] at e2
  have ey := CalD.uniq g e1.1 e1.2 e2.1 e2.2
  subst ey
  have m0 := h.m0
  have m1 := h.m1
  have r0 := h.r0
  have r1 := h.r1
  have m0' := h'.m0
  have m1' := h'.m1
  have r0' := h'.r0
  have r1' := h'.r1
  have nn : ∀ n ∈ d.L y, 0 ≤ n := fun n hn => (CalD.mem g y n hn).1
  have b := PS_succ (l := d.L y) (j := (m - 1).toNat) (by omega)
  have b' := PS_succ (l := d.L y) (j := (m' - 1).toNat) (by omega)
  unfold DayOf at e
  have em : m = m' := by
    rcases Int.lt_trichotomy m m' with c | c | c
    · have := PS_mono nn (i := (m - 1).toNat + 1) (j := (m' - 1).toNat) (by omega) (by omega)
      omega
    · exact c
    · have := PS_mono nn (i := (m' - 1).toNat + 1) (j := (m - 1).toNat) (by omega) (by omega)
      omega
  subst em
  exact ⟨rfl, rfl, by omega⟩
end Fw

namespace Fw
theorem per_pos' {ts : List Tm} (h : ∀ t ∈ ts, OkT t) : 0 < PER ts ∧ ∀ t ∈ ts, t.2.2.2 ∣ PER ts := by
  have key : ∀ (us : List Tm) (p : Int), 0 < p → (∀ t ∈ us, OkT t) → 0 < us.foldl (fun p t => lcmI p t.2.2.2) p ∧ p ∣ us.foldl (fun p t => lcmI p t.2.2.2) p ∧ ∀ t ∈ us, t.2.2.2 ∣ us.foldl (fun p t => lcmI p t.2.2.2) p := by
    intro us
    induction us with
    | nil => exact fun p hp _ => ⟨hp, Int.dvd_refl _, fun t ht => nomatch ht⟩
    | cons u us ih =>
      intro p hp ok
      have n0 := (ok u List.mem_cons_self).n0
      have f := lcmI_facts hp (show 0 < u.2.2.2 by omega)
      obtain ⟨i1, i2, i3⟩ := ih (lcmI p u.2.2.2) f.1 fun t ht => ok t (List.mem_cons_of_mem _ ht)
      refine ⟨i1, Int.dvd_trans f.2.1 i2, fun t ht => ?_⟩
      rcases List.mem_cons.mp ht with e | e
      · subst e
        exact Int.dvd_trans f.2.2.1 i2
      · exact i3 t e
  exact ⟨(key ts 1 (by decide) h).1, (key ts 1 (by decide) h).2.2⟩
theorem UP_whole {b : Int} {ts : List Tm} (h : ∀ t ∈ ts, OkT t) {P : Int} (hd : ∀ t ∈ ts, t.2.2.2 ∣ P) (k : Int) : UP b ts (k + P) = UP b ts k + UP b ts P := by
  have := UP_per (base := b) h hd k 1
  rwa [Int.mul_one, Int.one_mul] at this
theorem AT_whole {b : Int} {ts : List Tm} (h : ∀ t ∈ ts, OkT t) {P : Int} (hd : ∀ t ∈ ts, t.2.2.2 ∣ P) (k : Int) : AT b ts (k + P) = AT b ts k := by
  have a := UP_step (base := b) h (k + P)
  have c := UP_step (base := b) h k
  have u := UP_whole (b := b) h hd k
  have v := UP_whole (b := b) h hd (k + 1)
  rw [show k + 1 + P = k + P + 1 by omega] at v
  omega
theorem ONS_whole {ts : List Tm} (h : ∀ t ∈ ts, OkT t) {P : Int} (hd : ∀ t ∈ ts, t.2.2.2 ∣ P) (k : Int) : ONS ts (k + P) = ONS ts k := by
  have := AT_whole (b := 0) h hd k
  unfold AT at this
  omega
def moT (td : List Tm) (bm : Int) (tm : List Tm) : Int := PER td / (Int.gcd (PER td) (UP bm tm (PER tm)) : Int)
def CalD.cy : CalD → Int × Int
  | .sun _ ls _ ts => (PER ts, UP ls.sum ts (PER ts))
  | .moon _ bd td bm tm => (PER tm * moT td bm tm, UP bd td (UP bm tm (PER tm) * moT td bm tm))
theorem mo_dvd {td : List Tm} {bm : Int} {tm : List Tm} (h : ∀ t ∈ td, OkT t) : ∀ t ∈ td, t.2.2.2 ∣ UP bm tm (PER tm) * moT td bm tm := by
  intro t ht
  obtain ⟨p0, pd⟩ := per_pos' h
  refine Int.dvd_trans (pd t ht) ?_
  unfold moT
  generalize UP bm tm (PER tm) = M
  generalize PER td = D at *
  have g1 := Int.gcd_dvd_left (a := D) (b := M)
  have g2 := Int.gcd_dvd_right (a := D) (b := M)
  have g0 := gcd_pos (b := M) p0
  obtain ⟨u, hu⟩ := g1
  obtain ⟨v, hv⟩ := g2
  generalize (Int.gcd D M : Int) = G at *
  rw [hu, hv, Int.mul_ediv_cancel_left _ (by omega)]
  exact ⟨v, by rw [Int.mul_assoc, Int.mul_assoc, Int.mul_comm u v]⟩
theorem CalD.cyY {d : CalD} (g : d.good) (y : Int) : d.Y (y + d.cy.1) = d.Y y + d.cy.2 := by
  cases d with
  | sun s ls lp ts =>
    have := UP_whole (b := ls.sum) (GoodS.ok g) (per_pos' (GoodS.ok g)).2 y
    show s + UP ls.sum ts (y + PER ts) = s + UP ls.sum ts y + UP ls.sum ts (PER ts)
    omega
  | moon s bd td bm tm =>
    show MYS s bd td bm tm (y + PER tm * moT td bm tm) = MYS s bd td bm tm y + UP bd td (UP bm tm (PER tm) * moT td bm tm)
    have a := UP_per (base := bm) (GoodMo.okm g) (per_pos' (GoodMo.okm g)).2 y (moT td bm tm)
    have b := UP_whole (b := bd) (GoodMo.okd g) (mo_dvd (bm := bm) (tm := tm) (GoodMo.okd g)) (UP bm tm y)
    unfold MYS
    rw [a, Int.mul_comm (moT td bm tm), b]
    omega
theorem CalD.cyL {d : CalD} (g : d.good) (y : Int) : d.L (y + d.cy.1) = d.L y := by
  cases d with
  | sun s ls lp ts =>
    show LENS ls lp ts (y + PER ts) = LENS ls lp ts y
    unfold LENS
    rw [ONS_whole (GoodS.ok g) (per_pos' (GoodS.ok g)).2]
  | moon s bd td bm tm =>
    show MLEN bd td bm tm (y + PER tm * moT td bm tm) = MLEN bd td bm tm y
    have a := UP_per (base := bm) (GoodMo.okm g) (per_pos' (GoodMo.okm g)).2 y (moT td bm tm)
    have e : ∀ t ∈ tm, t.2.2.2 ∣ PER tm * moT td bm tm := fun t ht => Int.dvd_trans ((per_pos' (GoodMo.okm g)).2 t ht) (Int.dvd_mul_right _ _)
    unfold MLEN
    rw [AT_whole (GoodMo.okm g) e, a]
    refine List.map_congr_left fun i _ => ?_
    rw [Int.mul_comm (moT td bm tm), show UP bm tm y + UP bm tm (PER tm) * moT td bm tm + (i : Int) = UP bm tm y + (i : Int) + UP bm tm (PER tm) * moT td bm tm by omega]
    exact AT_whole (GoodMo.okd g) (mo_dvd (bm := bm) (tm := tm) (GoodMo.okd g)) _
theorem IsD.cyc {d : CalD} (g : d.good) {y m r : Int} (h : IsD d y m r) : IsD d (y + d.cy.1) m r ∧ DayOf d (y + d.cy.1) m r = DayOf d y m r + d.cy.2 := by
  have e := CalD.cyL g y
  refine ⟨⟨h.m0, by rw [e]; exact h.m1, h.r0, by rw [e]; exact h.r1⟩, ?_⟩
  unfold DayOf
  rw [e, CalD.cyY g]
  omega
end Fw

namespace Fw
open PySem L2 PyProof.Rows
def top (i : Nat) : Stmt := PySem.Challenge.pw_feastwheel_k72_calendars_as_texts.main.body.getD i (.Pass ⟨0, 0, 0, 0⟩)
abbrev s_refuse_below_one : Stmt := top 7
abbrev s_divisor : Stmt := top 8
abbrev s_equation : Stmt := top 9
abbrev s_common : Stmt := top 10
abbrev s_term_on : Stmt := top 15
abbrev s_signs_upto : Stmt := top 16
abbrev s_is_term : Stmt := top 17
abbrev s_least_length : Stmt := top 18
abbrev s_refuse_measure : Stmt := top 19
abbrev s_period_of : Stmt := top 20
abbrev s_Measure___init__ : Stmt := inClass (top 21) 0
abbrev s_Measure_at : Stmt := inClass (top 21) 1
abbrev s_Measure_upto : Stmt := inClass (top 21) 2
abbrev s_Measure_period : Stmt := inClass (top 21) 3
abbrev s_Measure_seek : Stmt := inClass (top 21) 4
abbrev s_term_text : Stmt := top 26
abbrev s_term_words : Stmt := top 27
abbrev s_refuse_months : Stmt := top 28
abbrev s_Sun___init__ : Stmt := inClass (top 29) 0
abbrev s_Sun_year_start : Stmt := inClass (top 29) 1
abbrev s_Sun_year_at : Stmt := inClass (top 29) 2
abbrev s_Sun_lengths : Stmt := inClass (top 29) 3
abbrev s_Sun_cycle : Stmt := inClass (top 29) 4
abbrev s_Sun_shown : Stmt := inClass (top 29) 5
abbrev s_refuse_part : Stmt := top 30
abbrev s_Moon___init__ : Stmt := inClass (top 31) 0
abbrev s_Moon_year_start : Stmt := inClass (top 31) 1
abbrev s_Moon_year_at : Stmt := inClass (top 31) 2
abbrev s_Moon_lengths : Stmt := inClass (top 31) 3
abbrev s_Moon_cycle : Stmt := inClass (top 31) 4
abbrev s_Moon_shown : Stmt := inClass (top 31) 5
abbrev s_is_readable : Stmt := top 36
abbrev s_is_number : Stmt := top 37
abbrev s_read_number : Stmt := top 38
abbrev s_read_numbers : Stmt := top 40
abbrev s_read_term : Stmt := top 41
abbrev s_read_terms : Stmt := top 42
abbrev s_read_sun : Stmt := top 43
abbrev s_read_moon : Stmt := top 44
abbrev s_read_calendar : Stmt := top 45
abbrev s_law_cell_at : Stmt := top 47
abbrev s_law_number : Stmt := top 48
abbrev s_law_mixed : Stmt := top 49
abbrev s_law_term : Stmt := top 50
abbrev s_law_terms : Stmt := top 51
abbrev s_law_fallen : Stmt := top 52
abbrev s_law_term_text : Stmt := top 53
abbrev s_law_terms_text : Stmt := top 54
abbrev s_law_sun : Stmt := top 55
abbrev s_law_base : Stmt := top 56
abbrev s_law_moon : Stmt := top 57
abbrev s_law_alike : Stmt := top 58
abbrev s_law : Stmt := top 59
abbrev s_Sun_date_of : Stmt := inClass (top 25) 0
abbrev s_Sun_day_of : Stmt := inClass (top 25) 1
abbrev s_Moon_date_of : Stmt := inClass (top 25) 0
abbrev s_Moon_day_of : Stmt := inClass (top 25) 1
def spCell (K : PySem.W.Frag) : Sp := fun vs H Q _ => ∃ (a : Addr) (ns : List Int) (k : Int), vs = [.ref a, .int k] ∧ SqL K H a (ns.map V.int) ∧ 0 ≤ k ∧ ns.length ≤ 63 ∧ Q (.int (ns.getD k.toNat 0)) H
def spWhole : Sp := fun vs H Q _ => ∃ i : Int, vs = [.int i] ∧ Q (.bl true) H
theorem rd_cell {K : PySem.W.Frag} {a : Addr} {ns : List Int} {k : Int} {H : Hp} {Q : VK} {E : XK} (hS : SqL K H a (ns.map V.int)) (hl : ns.length ≤ 63) (hk : 0 ≤ k) (h : Q (.int (ns.getD k.toNat 0)) H) : spCell K ([.ref a, .int k] ++ []) H Q E := ⟨a, ns, k, rfl, hS, hk, hl, h⟩
theorem rd_whole {i : Int} {H : Hp} {Q : VK} {E : XK} (h : Q (.bl true) H) : spWhole ([.int i] ++ []) H Q E := ⟨i, rfl, h⟩
theorem at_ints {ns : List Int} {k : Int} (h0 : 0 ≤ k) (h : k < (ns.length : Int)) : atI (ns.map V.int) k = some (.int (ns.getD k.toNat 0)) := by
  have hk : k.toNat < ns.length := by omega
  have ek : k = ((k.toNat : Nat) : Int) := by omega
  have q : atI (ns.map V.int) ((k.toNat : Nat) : Int) = some (.int ns[k.toNat]) := atI_nat (by rw [List.getElem?_map, List.getElem?_eq_getElem hk] <;> rfl)
  rw [← ek] at q
  rw [q]
  simp [List.getD, hk]
theorem p40 : (10 : Int) ^ (40 : Int).toNat = 10000000000000000000000000000000000000000 := by decide
theorem bt_of {x : Int} (h1 : -1000000000000000000000000000000000000000000000000000000000000 ≤ x) (h2 : x ≤ 1000000000000000000000000000000000000000000000000000000000000) : Bt 200 x := by
  unfold Bt
  have : (2 : Nat) ^ 200 = 1606938044258990275541962092341162602522202993782792835301376 := by decide
  omega
theorem at0 {x y : V} : atI [x, y] 0 = some x := rfl
local macro_rules | `(tactic| walk_at "rdc") => `(tactic| (repeat (first | walk_at "rd1" | ((with_reducible refine' Fw.rd_cell ?hc1 ?hc2 ?hc3 ?_); (case hc1 => assumption); (case hc2 => assumption); (case hc3 => decide)) | with_reducible refine Fw.rd_whole ?_)))
local macro_rules | `(tactic| walk_at "rdy") => `(tactic| (repeat (first | walk_at "rd1" | ((with_reducible refine' Fw.rd_cell ?hc1 ?hc2 ?hc3 ?_); (case hc1 => assumption); (case hc2 => assumption); (case hc3 => decide)) | with_reducible refine Fw.rd_whole ?_ | with_reducible refine L2.rd_callE ?_ | with_reducible refine L2.rd_raise ?_ | with_reducible refine L2.rd_try ?_ | with_reducible refine L2.rd_xget ?_ | with_reducible refine L2.rd_ifE ?_)))
def spRefuse : Sp := fun vs H Q _ => ∃ n : Int, vs = [.int n] ∧ 1 ≤ n ∧ Q .non H
def spEq : Sp := fun vs H Q _ => ∃ a b : Int, vs = [.int a, .int b] ∧ Bt 500 a ∧ Bt 500 b ∧ ∀ (p : Addr) (u v g : Int) (H' : Hp), Same H H' → H' p = some (.tup [.int u, .int v, .int g]) → Eqn a b u v g → Q (.ref p) H'
def spDivisor : Sp := fun vs H Q _ => ∃ a b : Int, vs = [.int a, .int b] ∧ Bt 500 a ∧ Bt 500 b ∧ ∀ H', Same H H' → Q (.int (Int.gcd a b : Int)) H'
def spCommon : Sp := fun vs H Q _ => ∃ a b : Int, vs = [.int a, .int b] ∧ 0 < a ∧ 0 < b ∧ Bt 500 a ∧ Bt 500 b ∧ ∀ H', Same H H' → Q (.int (lcmI a b)) H'
theorem at30 {x y z : V} : atI [x, y, z] 0 = some x := rfl
theorem at31 {x y z : V} : atI [x, y, z] 1 = some y := rfl
theorem at32 {x y z : V} : atI [x, y, z] 2 = some z := rfl
theorem three {a b c : V} : ([a, b, c] : List V).length ≤ sizeLine := by show 3 ≤ sizeLine; decide
theorem two {a b : V} : ([a, b] : List V).length ≤ sizeLine := by show 2 ≤ sizeLine; decide
theorem bt_le {k m : Nat} {x y : Int} (h : Bt k y) (l : x.natAbs ≤ 4 * y.natAbs + 4) (hk : k + 4 ≤ m) : Bt m x := by
  unfold Bt at *
  have p : 2 ^ (k + 4) ≤ 2 ^ m := Nat.pow_le_pow_right (by decide) hk
  have e : 2 ^ (k + 4) = 2 ^ k * 16 := by rw [Nat.pow_add]
  omega
theorem bt_le2 {k m : Nat} {x y z : Int} (h : Bt k y) (h' : Bt k z) (l : x.natAbs ≤ y.natAbs + z.natAbs + 4) (hk : k + 4 ≤ m) : Bt m x := by
  unfold Bt at *
  have p : 2 ^ (k + 4) ≤ 2 ^ m := Nat.pow_le_pow_right (by decide) hk
  have e : 2 ^ (k + 4) = 2 ^ k * 16 := by rw [Nat.pow_add]
  omega
theorem bt_small {k : Nat} {x : Int} (h0 : 0 ≤ x) (h1 : x < 18446744073709551616) (hk : 64 ≤ k) : Bt k x := Bt.mono (k := 64) (by unfold Bt; omega) hk
theorem bt_div {k : Nat} {d n : Int} (h : Bt k d) (hn : 0 < n) : Bt k (d / n) := by
  refine h.le ?_
  rcases Int.lt_or_le d 0 with c | c
  · have h1 : d / n < 0 := Int.ediv_neg_of_neg_of_pos c hn
    have h2 : d ≤ d / n := (Int.le_ediv_iff_mul_le hn).mpr (by
      have := Int.mul_le_mul_of_nonpos_left (show d ≤ 0 by omega) (show 1 ≤ n by omega)
      omega)
    omega
  · have h1 : 0 ≤ d / n := Int.ediv_nonneg c (by omega)
    have h2 : d / n ≤ d := Int.ediv_le_self n c
    omega
theorem _root_.L2.Bt.sub {k : Nat} {x y : Int} (h : Bt k x) (g : Bt k y) : Bt (k + 1) (x - y) := by
  have := h.add g.neg
  rwa [← Int.sub_eq_add_neg] at this
def tmV (t : Tm) : List V := [.int t.1, .int t.2.1, .int t.2.2.1, .int t.2.2.2]
inductive Tms (H : Hp) : List V → List Tm → Prop
  | nil : Tms H [] []
  | cons {p : Addr} {t : Tm} {vs : List V} {ts : List Tm} : H p = some (.tup (tmV t)) → Tms H vs ts → Tms H (.ref p :: vs) (t :: ts)
theorem Tms.same {H H' : Hp} (s : Same H H') : ∀ {vs : List V} {ts : List Tm}, Tms H vs ts → Tms H' vs ts
  | _, _, .nil => .nil
  | _, _, .cons h t => .cons (s _ _ h) (Tms.same s t)
theorem Tms.len {H : Hp} : ∀ {vs : List V} {ts : List Tm}, Tms H vs ts → vs.length = ts.length
  | _, _, .nil => rfl
  | _, _, .cons _ t => by rw [List.length_cons, List.length_cons, Tms.len t]
theorem Tms.mem {H : Hp} {x : V} : ∀ {vs : List V} {ts : List Tm}, Tms H vs ts → x ∈ vs → ∃ p t, x = .ref p ∧ t ∈ ts ∧ H p = some (.tup (tmV t))
  | _, _, .nil, h => nomatch h
  | _, _, .cons g r, h => by
    rcases List.mem_cons.mp h with e | e
    · exact ⟨_, _, e, List.mem_cons_self, g⟩
    · obtain ⟨p, t, e1, e2, e3⟩ := Tms.mem r e
      exact ⟨p, t, e1, List.mem_cons_of_mem _ e2, e3⟩
theorem Tms.at {H : Hp} : ∀ {vs : List V} {ts : List Tm}, Tms H vs ts → ∀ {i : Nat} {x : V}, vs[i]? = some x → ∃ p t, x = .ref p ∧ ts[i]? = some t ∧ H p = some (.tup (tmV t))
  | _, _, .nil, i, x, h => by simp at h
  | _, _, .cons g r, 0, x, h => by
    injection h with h
    exact ⟨_, _, h.symm, rfl, g⟩
  | _, _, .cons g r, i + 1, x, h => Tms.at r (i := i) h
/-- what stands in the term at v, by g -/
def tmAt (H : Hp) (v : V) : Option Tm := match v with
  | .ref p => match H p with
    | some (.tup [.int s, .int a, .int b, .int n]) => some (s, a, b, n)
    | _ => none
  | _ => none
theorem tmAt_eq {H : Hp} {p : Addr} {t : Tm} (h : H p = some (.tup (tmV t))) : tmAt H (.ref p) = some t := by
  unfold tmAt tmV at *
  simp only [h]
theorem Tms.fm {H : Hp} (g : Tm → Bool) (f : Tm → V) : ∀ {vs : List V} {ts : List Tm}, Tms H vs ts → (vs.filter fun v => ((tmAt H v).map g).getD false).map (fun v => ((tmAt H v).map f).getD .non) = (ts.filter g).map f
  | _, _, .nil => rfl
  | _, _, .cons (p := p) (t := t) h r => by
    rw [List.filter_cons, List.filter_cons, tmAt_eq h]
    show (if g t = true then _ else _ : List V).map _ = _
    by_cases c : g t = true
    · rw [if_pos c, if_pos c, List.map_cons, List.map_cons, Tms.fm g f r, tmAt_eq h]
      rfl
    · rw [if_neg c, if_neg c, Tms.fm g f r]
theorem at40 {t : Tm} : atI (tmV t) 0 = some (V.int t.1) := rfl
theorem at41 {t : Tm} : atI (tmV t) 1 = some (V.int t.2.1) := rfl
theorem at42 {t : Tm} : atI (tmV t) 2 = some (V.int t.2.2.1) := rfl
theorem at43 {t : Tm} : atI (tmV t) 3 = some (V.int t.2.2.2) := rfl
/-- terms in a tuple -/
structure TmT (K : PySem.W.Frag) (H : Hp) (p : Addr) (ts : List Tm) : Prop where
  ex : ∃ vs, SqT K H p vs ∧ Tms H vs ts
  ok : ∀ t ∈ ts, OkT t
  few : ts.length ≤ 6
theorem TmT.same {K : PySem.W.Frag} {H H' : Hp} {p : Addr} {ts : List Tm} (T : TmT K H p ts) (s : Same H H') : TmT K H' p ts := by
  obtain ⟨vs, h1, h2⟩ := T.ex
  exact ⟨⟨vs, s.tup h1, h2.same s⟩, T.ok, T.few⟩
def spTermOn : Sp := fun vs H Q _ => ∃ (p : Addr) (k : Int) (t : Tm), vs = [.ref p, .int k] ∧ H p = some (.tup (tmV t)) ∧ OkT t ∧ Bt 400 k ∧ Q (.bl (onT t k)) H
def spSigns (K : PySem.W.Frag) : Sp := fun vs H Q _ => ∃ (p : Addr) (k : Int) (ts : List Tm), vs = [.ref p, .int k] ∧ TmT K H p ts ∧ Bt 400 k ∧ ∀ H', Same H H' → Q (.int (SU ts k)) H'
def spIsTerm : Sp := fun vs H Q _ => ∃ (p : Addr) (t : Tm), vs = [.ref p] ∧ H p = some (.tup (tmV t)) ∧ OkT t ∧ Q (.bl true) H
def spLeast (K : PySem.W.Frag) : Sp := fun vs H Q _ => ∃ (p : Addr) (b : Int) (ts : List Tm), vs = [.int b, .ref p] ∧ TmT K H p ts ∧ ∀ H', Same H H' → Q (.int (b - falls ts)) H'
structure GoodM (b : Int) (ts : List Tm) : Prop where
  b0 : 0 ≤ b
  b1 : b ≤ 20000
  fl : falls ts ≤ b
def spRefuseM (K : PySem.W.Frag) : Sp := fun vs H Q _ => ∃ (p : Addr) (b : Int) (ts : List Tm), vs = [.int b, .ref p] ∧ TmT K H p ts ∧ GoodM b ts ∧ ∀ H', Same H H' → Q .non H'
def spPeriod (K : PySem.W.Frag) : Sp := fun vs H Q _ => ∃ (p : Addr) (ts : List Tm), vs = [.ref p] ∧ TmT K H p ts ∧ ∀ H', Same H H' → Q (.int (PER ts)) H'
theorem per_pow {ts : List Tm} (h : ∀ t ∈ ts, OkT t) : ∀ (i : Nat), i ≤ 6 → 0 < PER (ts.take i) ∧ PER (ts.take i) ≤ 1000 ^ i
  | 0, _ => ⟨(show (0 : Int) < 1 by decide), (show (1 : Int) ≤ 1 by decide)⟩
  | i + 1, hi => by
    obtain ⟨h1, h2⟩ := per_pow h i (by omega)
    rw [List.take_add_one]
    cases e : ts[i]? with
    | none =>
      simp only [Option.toList_none, List.append_nil]
      refine ⟨h1, Int.le_trans h2 ?_⟩
      rw [Int.pow_succ]
      have : (0 : Int) < 1000 ^ i := Int.pow_pos (by decide)
      omega
    | some t =>
      have ok := h t (List.mem_of_getElem? e)
      have e2 : PER (ts.take i ++ (some t).toList) = lcmI (PER (ts.take i)) t.2.2.2 := by
        unfold PER
        rw [Option.toList_some, List.foldl_append]
        rfl
      rw [e2]
      have n0 := ok.n0
      refine ⟨(lcmI_facts h1 (by omega)).1, Int.le_trans (lcmI_le h1 (by omega)) ?_⟩
      rw [Int.pow_succ]
      exact Int.mul_le_mul h2 ok.n1 (by omega) (Int.le_of_lt (Int.pow_pos (by decide)))
theorem pow6 {i : Nat} (h : i ≤ 6) : (1000 : Int) ^ i ≤ 1000000000000000000 := by
  rcases (by omega : i = 0 ∨ i = 1 ∨ i = 2 ∨ i = 3 ∨ i = 4 ∨ i = 5 ∨ i = 6) with e | e | e | e | e | e | e <;> subst e <;> decide
theorem per_dvd {ts : List Tm} (h : ∀ t ∈ ts, OkT t) : ∀ (i : Nat), i ≤ 6 → ∀ t ∈ ts.take i, t.2.2.2 ∣ PER (ts.take i)
  | 0, _ => fun t ht => by simp at ht
  | i + 1, hi => by
    obtain ⟨h1, _⟩ := per_pow h i (by omega)
    have ih := per_dvd h i (by omega)
    rw [List.take_add_one]
    cases e : ts[i]? with
    | none =>
      simp only [Option.toList_none, List.append_nil]
      exact ih
    | some u =>
      have ok := h u (List.mem_of_getElem? e)
      have e2 : PER (ts.take i ++ (some u).toList) = lcmI (PER (ts.take i)) u.2.2.2 := by
        unfold PER
        rw [Option.toList_some, List.foldl_append]
        rfl
      have n0 := ok.n0
      have f := lcmI_facts h1 (show 0 < u.2.2.2 by omega)
      rw [e2]
      intro t ht
      rcases List.mem_append.mp ht with z | z
      · exact Int.dvd_trans (ih t z) f.2.1
      · rw [Option.toList_some, List.mem_singleton] at z
        subst z
        exact f.2.2.1
/-- the fields of a measure -/
def mF (b : Int) (p : Addr) (c s : Int) : List (Str × V) := [("base", .int b), ("terms", .ref p), ("full_count", .int c), ("full_sum", .int s)]
structure Me (K : PySem.W.Frag) (C : Addr) (H : Hp) (x : Addr) (b : Int) (ts : List Tm) : Prop where
  ex : ∃ dx p, H x = some (.ins C dx (mF b p (PER ts) (UP b ts (PER ts)))) ∧ TmT K H p ts
  gd : GoodM b ts
  po : 0 < UP b ts (PER ts)
def spUpto (K : PySem.W.Frag) (C : Addr) : Sp := fun vs H Q _ => ∃ (x p dx : Addr) (k b : Int) (ts : List Tm) (fs : List (Str × V)), vs = [.ref x, .int k] ∧ H x = some (.ins C dx fs) ∧ fs.lookup (Str.ofString "base") = some (V.int b) ∧ fs.lookup (Str.ofString "terms") = some (V.ref p) ∧ TmT K H p ts ∧ 0 ≤ b ∧ b ≤ 20000 ∧ Bt 400 k ∧ ∀ H', Same H H' → Q (.int (UP b ts k)) H'
def spSeek (K : PySem.W.Frag) (C : Addr) : Sp := fun vs H Q _ => ∃ (x : Addr) (n b : Int) (ts : List Tm), vs = [.ref x, .int n] ∧ Me K C H x b ts ∧ Bt 300 n ∧ ∀ (k : Int) H', Same H H' → UP b ts k ≤ n → n < UP b ts (k + 1) → Bt 370 k → Q (.int k) H'
def spInitM (K : PySem.W.Frag) (C : Addr) : Sp := fun vs H Q _ => ∃ (x dx : Addr) (b : Int) (v : V) (us : List V) (ts : List Tm), vs = [.ref x, .int b, v] ∧ H x = some (.ins C dx []) ∧ Tms H us ts ∧ ((v = .non ∧ us = []) ∨ ∃ l, v = .ref l ∧ H l = some (.lst us)) ∧ (∀ t ∈ ts, OkT t) ∧ ts.length ≤ 6 ∧ GoodM b ts ∧ 0 < UP b ts (PER ts) ∧
  ∀ H', (∀ y o, y ≠ x → H y = some o → H' y = some o) → Me K C H' x b ts → Q .non H'
theorem Me.same {K : PySem.W.Frag} {C : Addr} {H H' : Hp} {x : Addr} {b : Int} {ts : List Tm} (M : Me K C H x b ts) (s : Same H H') : Me K C H' x b ts := by
  obtain ⟨dx, p, e, T⟩ := M.ex
  exact ⟨⟨dx, p, s _ _ e, T.same s⟩, M.gd, M.po⟩
theorem Me.meth {K : PySem.W.Frag} {C : Addr} {H : Hp} {x : Addr} {b : Int} {ts : List Tm} (M : Me K C H x b ts) : ∃ dx fs, H x = some (.ins C dx fs) ∧ fs.lookup (Str.ofString "seek") = none ∧ fs.lookup (Str.ofString "at") = none ∧ fs.lookup (Str.ofString "upto") = none ∧ fs.lookup (Str.ofString "period") = none := by
  obtain ⟨dx, p, e, T⟩ := M.ex
  exact ⟨dx, _, e, rfl, rfl, rfl, rfl⟩
def spAt (K : PySem.W.Frag) (C : Addr) : Sp := fun vs H Q _ => ∃ (x : Addr) (k b : Int) (ts : List Tm), vs = [.ref x, .int k] ∧ Me K C H x b ts ∧ Bt 400 k ∧ ∀ H', Same H H' → Q (.int (AT b ts k)) H'
def spPer (K : PySem.W.Frag) (C : Addr) : Sp := fun vs H Q _ => ∃ (x : Addr) (b : Int) (ts : List Tm), vs = [.ref x] ∧ Me K C H x b ts ∧ Q (.int (PER ts)) H
theorem init_me {K : PySem.W.Frag} {C : Addr} {H1 : Hp} {x dx : Addr} {b : Int} {v : V} {us : List V} {ts : List Tm} {Q : VK} {E : XK} (hx : H1 x = none) (hdx : H1 dx = none) (ne : dx ≠ x) (hT : Tms H1 us ts) (hv : (v = .non ∧ us = []) ∨ ∃ l, v = .ref l ∧ H1 l = some (.lst us)) (ok : ∀ t ∈ ts, OkT t) (few : ts.length ≤ 6) (g : GoodM b ts) (po : 0 < UP b ts (PER ts))
    (q : ∀ H', Same H1 H' → Me K C H' x b ts → Q .non H') : spInitM K C [.ref x, .int b, v] (upd (upd H1 dx (.own x)) x (.ins C dx [])) Q E := by
  have k4 : Same H1 (upd (upd H1 dx (.own x)) x (.ins C dx [])) := (same_new hdx _).trans (same_new (by rw [upd_ne (Ne.symm ne)]; exact hx) _)
  have x4 : upd (upd H1 dx (.own x)) x (.ins C dx []) x = some (.ins C dx []) := upd_same
  refine ⟨x, dx, b, v, us, ts, rfl, x4, hT.same k4, ?_, ok, few, g, po, fun H5 k5 M => q _ (fun y o h => k5 y o (fun e => by subst e; rw [hx] at h; cases h) (k4 y o h)) M⟩
  rcases hv with z | ⟨l, z, e⟩
  · exact .inl z
  · exact .inr ⟨l, z, k4 _ _ e⟩
/-- all but one list -/
def But (l : Addr) (H H' : Hp) : Prop := ∀ y o, y ≠ l → H y = some o → H' y = some o
theorem But.upd {l : Addr} {H : Hp} {o : HO} : But l H (L2.upd H l o) := fun y o hy h => by rw [upd_ne hy]; exact h
/-- neither a tuple nor what is kept as it is -/
structure NoT (o : HO) : Prop where
  t : ∀ vs, o ≠ .tup vs
  f : ∀ ob u, o ≠ .frz ob u
theorem NoT.lst {xs : List V} : NoT (.lst xs) := ⟨fun _ z => (nomatch z), fun _ _ z => (nomatch z)⟩
theorem NoT.ins {C d : Addr} {fs : List (Str × V)} : NoT (.ins C d fs) := ⟨fun _ z => (nomatch z), fun _ _ z => (nomatch z)⟩
theorem Tms.but {l : Addr} {H H' : Hp} {o : HO} (hl : H l = some o) (no : NoT o) (k : But l H H') : ∀ {vs : List V} {ts : List Tm}, Tms H vs ts → Tms H' vs ts
  | _, _, .nil => .nil
  | _, _, .cons g r => .cons (k _ _ (ne_of g hl (Ne.symm (no.t _))) g) (Tms.but hl no k r)
theorem sqT_but {K : PySem.W.Frag} {l p : Addr} {H H' : Hp} {o : HO} {vs : List V} (hl : H l = some o) (no : NoT o) (k : But l H H') (h : SqT K H p vs) : SqT K H' p vs := by
  rcases h with (h | ⟨o, h⟩) | h
  · exact .inl (.inl (k _ _ (ne_of h hl (Ne.symm (no.t _))) h))
  · exact .inl (.inr ⟨o, k _ _ (ne_of h hl (Ne.symm (no.f _ _))) h⟩)
  · exact .inr h
theorem TmT.but {K : PySem.W.Frag} {l p : Addr} {H H' : Hp} {o : HO} {ts : List Tm} (hl : H l = some o) (no : NoT o) (k : But l H H') (T : TmT K H p ts) : TmT K H' p ts := by
  obtain ⟨vs, h1, h2⟩ := T.ex
  exact ⟨⟨vs, sqT_but hl no k h1, h2.but hl no k⟩, T.ok, T.few⟩
theorem Me.butX {K : PySem.W.Frag} {C l : Addr} {H H' : Hp} {o : HO} {x : Addr} {b : Int} {ts : List Tm} (M : Me K C H x b ts) (hl : H l = some o) (no : NoT o) (ne : x ≠ l) (k : But l H H') : Me K C H' x b ts := by
  obtain ⟨dx, p, e, T⟩ := M.ex
  exact ⟨⟨dx, p, k _ _ ne e, T.but hl no k⟩, M.gd, M.po⟩
theorem Me.but {K : PySem.W.Frag} {C l : Addr} {H H' : Hp} {xs : List V} {x : Addr} {b : Int} {ts : List Tm} (M : Me K C H x b ts) (hl : H l = some (.lst xs)) (k : But l H H') : Me K C H' x b ts := by
  obtain ⟨dx, p, e, T⟩ := M.ex
  exact M.butX hl .lst (ne_of e hl (by intro z; cases z)) k
theorem Tms.upd {H : Hp} {l : Addr} {xs : List V} {o : HO} (h : H l = some (.lst xs)) : ∀ {vs : List V} {ts : List Tm}, Tms H vs ts → Tms (L2.upd H l o) vs ts
  | _, _, .nil => .nil
  | _, _, .cons g r => .cons (by rw [upd_ne (ne_of g h (by intro z; cases z))]; exact g) (Tms.upd h r)
theorem Tms.snoc {H : Hp} {p : Addr} {t : Tm} (h : H p = some (.tup (tmV t))) : ∀ {vs : List V} {ts : List Tm}, Tms H vs ts → Tms H (vs ++ [.ref p]) (ts ++ [t])
  | _, _, .nil => .cons h .nil
  | _, _, .cons g r => .cons g (Tms.snoc h r)
def spNumB : Sp := fun vs H Q _ => ∃ c : Int, vs = [.int c] ∧ ∀ (k : Int) (H' : Hp), Same H H' → -10000000000000000000000000000000000000000 ≤ k → k ≤ 10000000000000000000000000000000000000000 → Q (.int k) H'
def spMixed : Sp := fun vs H Q _ => ∃ c k : Int, vs = [.int c, .int k] ∧ 0 ≤ k ∧ k ≤ 100 ∧ ∀ m : Int, 0 ≤ m → Q (.int m) H
def spTermL : Sp := fun vs H Q _ => ∃ c k m : Int, vs = [.int c, .int k, .int m] ∧ 0 ≤ k ∧ k ≤ 10 ∧ 1 ≤ m ∧ m ≤ 1000 ∧ ∀ (p : Addr) (t : Tm) (H' : Hp), Same H H' → H' p = some (.tup (tmV t)) → OkT t → Q (.ref p) H'
/-- terms in a list -/
structure TmL (K : PySem.W.Frag) (H : Hp) (l : Addr) (us : List V) (ts : List Tm) : Prop where
  li : H l = some (.lst us)
  tm : Tms H us ts
  ok : ∀ t ∈ ts, OkT t
  few : ts.length ≤ 6
theorem TmL.same {K : PySem.W.Frag} {H H' : Hp} {l : Addr} {us : List V} {ts : List Tm} (T : TmL K H l us ts) (s : Same H H') : TmL K H' l us ts := ⟨s _ _ T.li, T.tm.same s, T.ok, T.few⟩
def spTermsL (K : PySem.W.Frag) : Sp := fun vs H Q _ => ∃ c : Int, vs = [.int c] ∧ ∀ (l : Addr) (us : List V) (ts : List Tm) (H' : Hp), Same H H' → TmL K H' l us ts → Q (.ref l) H'
theorem TmL.per {K : PySem.W.Frag} {H : Hp} {l : Addr} {us : List V} {ts : List Tm} (T : TmL K H l us ts) : 0 < PER ts ∧ PER ts ≤ 1000000000000000000 ∧ ∀ t ∈ ts, t.2.2.2 ∣ PER ts := by
  obtain ⟨h1, h2⟩ := per_pow T.ok 6 (by decide)
  have hd := per_dvd T.ok 6 (by decide)
  rw [List.take_of_length_le T.few] at h1 h2 hd
  exact ⟨h1, Int.le_trans h2 (pow6 (by decide)), hd⟩
theorem GoodS.gm {ls : List Int} {lp : Int} {ts : List Tm} (g : GoodS ls lp ts) : GoodM ls.sum ts := ⟨g.sum.1, g.sum.2, Int.le_of_lt g.f1⟩
theorem per_pos {ts : List Tm} (ok : ∀ t ∈ ts, OkT t) (few : ts.length ≤ 6) : 0 < PER ts ∧ PER ts ≤ 1000000000000000000 ∧ ∀ t ∈ ts, t.2.2.2 ∣ PER ts := by
  obtain ⟨h1, h2⟩ := per_pow ok 6 (by decide)
  have hd := per_dvd ok 6 (by decide)
  rw [List.take_of_length_le few] at h1 h2 hd
  exact ⟨h1, Int.le_trans h2 (pow6 (by decide)), hd⟩
theorem GoodS.po {ls : List Int} {lp : Int} {ts : List Tm} (g : GoodS ls lp ts) : 0 < UP ls.sum ts (PER ts) := UP_pos g.ok g.f1 (per_pos g.ok g.few).1
def sF (s lp : Int) (p y : Addr) : List (Str × V) := [("start", .int s), ("months", .ref p), ("leap", .int lp), ("years", .ref y)]
structure SunO (K : PySem.W.Frag) (CS CM : Addr) (H : Hp) (x : Addr) (s : Int) (ls : List Int) (lp : Int) (ts : List Tm) : Prop where
  ex : ∃ dx p y, H x = some (.ins CS dx (sF s lp p y)) ∧ SqT K H p (ls.map V.int) ∧ Me K CM H y ls.sum ts
  gd : GoodS ls lp ts
  bs : Bt 290 s
section
variable {K : PySem.W.Frag} {CS CM : Addr} {H H' : Hp} {x : Addr} {s : Int} {ls : List Int} {lp : Int} {ts : List Tm}
theorem SunO.same (S : SunO K CS CM H x s ls lp ts) (e : Same H H') : SunO K CS CM H' x s ls lp ts := by
  obtain ⟨dx, p, y, h1, h2, h3⟩ := S.ex
  exact ⟨⟨dx, p, y, e _ _ h1, e.tup h2, h3.same e⟩, S.gd, S.bs⟩
theorem SunO.but {l : Addr} {xs : List V} (S : SunO K CS CM H x s ls lp ts) (hl : H l = some (.lst xs)) (k : But l H H') : SunO K CS CM H' x s ls lp ts := by
  obtain ⟨dx, p, y, h1, h2, h3⟩ := S.ex
  exact ⟨⟨dx, p, y, k _ _ (ne_of h1 hl (by intro z; cases z)) h1, sqT_but hl .lst k h2, h3.but hl k⟩, S.gd, S.bs⟩
theorem SunO.meth (S : SunO K CS CM H x s ls lp ts) : ∃ dx fs, H x = some (.ins CS dx fs) ∧ fs.lookup (Str.ofString "year_start") = none ∧ fs.lookup (Str.ofString "year_at") = none ∧ fs.lookup (Str.ofString "lengths") = none ∧ fs.lookup (Str.ofString "cycle") = none ∧ fs.lookup (Str.ofString "date_of") = none ∧ fs.lookup (Str.ofString "day_of") = none := by
  obtain ⟨dx, p, y, e, _⟩ := S.ex
  exact ⟨dx, _, e, rfl, rfl, rfl, rfl, rfl, rfl⟩
end
def spRefMo (K : PySem.W.Frag) : Sp := fun vs H Q _ => ∃ (l : Addr) (lp : Int) (ls : List Int) (ts : List Tm), vs = [.ref l, .int lp] ∧ SqL K H l (ls.map V.int) ∧ GoodS ls lp ts ∧ Q .non H
def spInitS (K : PySem.W.Frag) (CS CM : Addr) : Sp := fun vs H Q _ => ∃ (x dx ll : Addr) (s lp : Int) (v : V) (us : List V) (ls : List Int) (ts : List Tm), vs = [.ref x, .int s, .ref ll, .int lp, v] ∧ H x = some (.ins CS dx []) ∧ H ll = some (.lst (ls.map V.int)) ∧ Tms H us ts ∧ ((v = .non ∧ us = []) ∨ ∃ l, v = .ref l ∧ H l = some (.lst us)) ∧ GoodS ls lp ts ∧ Bt 290 s ∧
  ∀ H', (∀ y o, y ≠ x → H y = some o → H' y = some o) → SunO K CS CM H' x s ls lp ts → Q .non H'
theorem init_sun {K : PySem.W.Frag} {CS CM : Addr} {H1 : Hp} {x dx ll : Addr} {s lp : Int} {v : V} {us : List V} {ls : List Int} {ts : List Tm} {Q : VK} {E : XK} (hx : H1 x = none) (hdx : H1 dx = none) (ne : dx ≠ x) (hl : H1 ll = some (.lst (ls.map V.int))) (hT : Tms H1 us ts) (hv : (v = .non ∧ us = []) ∨ ∃ l, v = .ref l ∧ H1 l = some (.lst us)) (g : GoodS ls lp ts) (bs : Bt 290 s)
    (q : ∀ H', Same H1 H' → SunO K CS CM H' x s ls lp ts → Q .non H') : spInitS K CS CM [.ref x, .int s, .ref ll, .int lp, v] (upd (upd H1 dx (.own x)) x (.ins CS dx [])) Q E := by
  have k4 : Same H1 (upd (upd H1 dx (.own x)) x (.ins CS dx [])) := (same_new hdx _).trans (same_new (by rw [upd_ne (Ne.symm ne)]; exact hx) _)
  have x4 : upd (upd H1 dx (.own x)) x (.ins CS dx []) x = some (.ins CS dx []) := upd_same
  refine ⟨x, dx, ll, s, lp, v, us, ls, ts, rfl, x4, k4 _ _ hl, hT.same k4, ?_, g, bs, fun H5 k5 M => q _ (fun y o h => k5 y o (fun e => by subst e; rw [hx] at h; cases h) (k4 y o h)) M⟩
  rcases hv with z | ⟨l, z, e⟩
  · exact .inl z
  · exact .inr ⟨l, z, k4 _ _ e⟩
def spYS (K : PySem.W.Frag) (CS CM : Addr) : Sp := fun vs H Q _ => ∃ (x : Addr) (n s : Int) (ls : List Int) (lp : Int) (ts : List Tm), vs = [.ref x, .int n] ∧ SunO K CS CM H x s ls lp ts ∧ Bt 390 n ∧ ∀ H', Same H H' → Q (.int (s + UP ls.sum ts n)) H'
def spYA (K : PySem.W.Frag) (CS CM : Addr) : Sp := fun vs H Q _ => ∃ (x : Addr) (n s : Int) (ls : List Int) (lp : Int) (ts : List Tm), vs = [.ref x, .int n] ∧ SunO K CS CM H x s ls lp ts ∧ Bt 290 n ∧ ∀ (k : Int) H', Same H H' → s + UP ls.sum ts k ≤ n → n < s + UP ls.sum ts (k + 1) → Bt 300 k → Q (.int k) H'
def spLens (K : PySem.W.Frag) (CS CM : Addr) : Sp := fun vs H Q _ => ∃ (x : Addr) (n s : Int) (ls : List Int) (lp : Int) (ts : List Tm), vs = [.ref x, .int n] ∧ SunO K CS CM H x s ls lp ts ∧ Bt 390 n ∧ ∀ (p : Addr) H', H p = none → Same H H' → H' p = some (.lst ((LENS ls lp ts n).map V.int)) → Q (.ref p) H'
def spCyc (K : PySem.W.Frag) (CS CM : Addr) : Sp := fun vs H Q _ => ∃ (x : Addr) (s : Int) (ls : List Int) (lp : Int) (ts : List Tm), vs = [.ref x] ∧ SunO K CS CM H x s ls lp ts ∧ ∀ (p : Addr) H', Same H H' → H' p = some (.tup [.int (PER ts), .int (UP ls.sum ts (PER ts))]) → Q (.ref p) H'
theorem bt_up {n : Nat} {b : Int} {ts : List Tm} (h : ∀ t ∈ ts, OkT t) (b0 : 0 ≤ b) (b1 : b ≤ 20000) (few : ts.length ≤ 6) {k : Int} (bk : Bt n k) : Bt (n + 16) (UP b ts k) := by
  have := UP_abs h b0 b1 few (k := k) (K := (k.natAbs : Int)) (by omega) (by omega)
  unfold Bt at *
  rw [Nat.pow_add]
  omega
def moF (s : Int) (d m : Addr) : List (Str × V) := [("start", .int s), ("days", .ref d), ("many", .ref m)]
structure MoonO (K : PySem.W.Frag) (CO CM : Addr) (H : Hp) (x : Addr) (s bd : Int) (td : List Tm) (bm : Int) (tm : List Tm) : Prop where
  ex : ∃ dx d m, H x = some (.ins CO dx (moF s d m)) ∧ Me K CM H d bd td ∧ Me K CM H m bm tm
  gd : GoodMo bd td bm tm
  bs : Bt 290 s
section
variable {K : PySem.W.Frag} {CO CM : Addr} {H H' : Hp} {x : Addr} {s bd : Int} {td : List Tm} {bm : Int} {tm : List Tm}
theorem MoonO.same (S : MoonO K CO CM H x s bd td bm tm) (e : Same H H') : MoonO K CO CM H' x s bd td bm tm := by
  obtain ⟨dx, d, m, h1, h2, h3⟩ := S.ex
  exact ⟨⟨dx, d, m, e _ _ h1, h2.same e, h3.same e⟩, S.gd, S.bs⟩
theorem MoonO.but {l : Addr} {xs : List V} (S : MoonO K CO CM H x s bd td bm tm) (hl : H l = some (.lst xs)) (k : But l H H') : MoonO K CO CM H' x s bd td bm tm := by
  obtain ⟨dx, d, m, h1, h2, h3⟩ := S.ex
  exact ⟨⟨dx, d, m, k _ _ (ne_of h1 hl (by intro z; cases z)) h1, h2.but hl k, h3.but hl k⟩, S.gd, S.bs⟩
theorem MoonO.meth (S : MoonO K CO CM H x s bd td bm tm) : ∃ dx fs, H x = some (.ins CO dx fs) ∧ fs.lookup (Str.ofString "year_start") = none ∧ fs.lookup (Str.ofString "year_at") = none ∧ fs.lookup (Str.ofString "lengths") = none ∧ fs.lookup (Str.ofString "cycle") = none ∧ fs.lookup (Str.ofString "date_of") = none ∧ fs.lookup (Str.ofString "day_of") = none := by
  obtain ⟨dx, d, m, e, _⟩ := S.ex
  exact ⟨dx, _, e, rfl, rfl, rfl, rfl, rfl, rfl⟩
end
def spRefPt (K : PySem.W.Frag) (C : Addr) : Sp := fun vs H Q _ => ∃ (y : Addr) (b g : Int) (ts : List Tm), vs = [.ref y, .int g] ∧ Me K C H y b ts ∧ falls ts < b ∧ b ≤ g ∧ ∀ H', Same H H' → Q .non H'
def spInitMo (K : PySem.W.Frag) (CO CM : Addr) : Sp := fun vs H Q _ => ∃ (x dx d m : Addr) (s bd bm : Int) (td tm : List Tm), vs = [.ref x, .int s, .ref d, .ref m] ∧ H x = some (.ins CO dx []) ∧ Me K CM H d bd td ∧ Me K CM H m bm tm ∧ GoodMo bd td bm tm ∧ Bt 290 s ∧
  ∀ H', (∀ y o, y ≠ x → H y = some o → H' y = some o) → MoonO K CO CM H' x s bd td bm tm → Q .non H'
theorem init_moon {K : PySem.W.Frag} {CO CM : Addr} {H1 : Hp} {x dx d m : Addr} {s bd bm : Int} {td tm : List Tm} {Q : VK} {E : XK} (hx : H1 x = none) (hdx : H1 dx = none) (ne : dx ≠ x) (hd : Me K CM H1 d bd td) (hm : Me K CM H1 m bm tm) (g : GoodMo bd td bm tm) (bs : Bt 290 s)
    (q : ∀ H', Same H1 H' → MoonO K CO CM H' x s bd td bm tm → Q .non H') : spInitMo K CO CM [.ref x, .int s, .ref d, .ref m] (upd (upd H1 dx (.own x)) x (.ins CO dx [])) Q E := by
  have k4 : Same H1 (upd (upd H1 dx (.own x)) x (.ins CO dx [])) := (same_new hdx _).trans (same_new (by rw [upd_ne (Ne.symm ne)]; exact hx) _)
  have x4 : upd (upd H1 dx (.own x)) x (.ins CO dx []) x = some (.ins CO dx []) := upd_same
  exact ⟨x, dx, d, m, s, bd, bm, td, tm, rfl, x4, hd.same k4, hm.same k4, g, bs, fun H5 k5 M => q _ (fun y o h => k5 y o (fun e => by subst e; rw [hx] at h; cases h) (k4 y o h)) M⟩
def spMYS (K : PySem.W.Frag) (CO CM : Addr) : Sp := fun vs H Q _ => ∃ (x : Addr) (n s bd bm : Int) (td tm : List Tm), vs = [.ref x, .int n] ∧ MoonO K CO CM H x s bd td bm tm ∧ Bt 370 n ∧ ∀ H', Same H H' → Q (.int (MYS s bd td bm tm n)) H'
def spMYA (K : PySem.W.Frag) (CO CM : Addr) : Sp := fun vs H Q _ => ∃ (x : Addr) (n s bd bm : Int) (td tm : List Tm), vs = [.ref x, .int n] ∧ MoonO K CO CM H x s bd td bm tm ∧ Bt 290 n ∧ ∀ (k : Int) H', Same H H' → MYS s bd td bm tm k ≤ n → n < MYS s bd td bm tm (k + 1) → Bt 300 k → Q (.int k) H'
def spMLens (K : PySem.W.Frag) (CO CM : Addr) : Sp := fun vs H Q _ => ∃ (x : Addr) (n s bd bm : Int) (td tm : List Tm), vs = [.ref x, .int n] ∧ MoonO K CO CM H x s bd td bm tm ∧ Bt 370 n ∧ ∀ (p : Addr) H', H p = none → Same H H' → H' p = some (.lst ((MLEN bd td bm tm n).map V.int)) → Q (.ref p) H'
/-- a measure as a tuple of its base and its list of terms -/
structure MdT (K : PySem.W.Frag) (H : Hp) (p l : Addr) (us : List V) (b : Int) (ts : List Tm) : Prop where
  tu : H p = some (.tup [.int b, .ref l])
  tm : TmL K H l us ts
  fl : falls ts < b
theorem MdT.same {K : PySem.W.Frag} {H H' : Hp} {p l : Addr} {us : List V} {b : Int} {ts : List Tm} (T : MdT K H p l us b ts) (s : Same H H') : MdT K H' p l us b ts := ⟨s _ _ T.tu, T.tm.same s, T.fl⟩
theorem good_m {b : Int} {ts : List Tm} (f : falls ts < b) (h : b ≤ 1000) : GoodM b ts := ⟨by have := falls_nn (ts := ts); omega, by omega, Int.le_of_lt f⟩
theorem cutV_upto (xs : List Int) {j : Nat} (hj : j ≤ xs.length) : cutV (xs.map V.int) none (some (j : Int)) = (xs.take j).map V.int := by
  unfold cutV
  rw [HT.sIx_none, HT.sIx_nat, List.length_map, Nat.min_eq_left hj, List.drop_zero, Nat.sub_zero, List.map_take]
theorem rd_brk {D : Ends} {σ : L2.St} {H : Hp} (h : D.bk σ H) : tBreak D σ H := h
def CalO (K : PySem.W.Frag) (CS CO CM : Addr) (H : Hp) (x : Addr) : CalD → Prop
  | .sun s ls lp ts => SunO K CS CM H x s ls lp ts
  | .moon s bd td bm tm => MoonO K CO CM H x s bd td bm tm
def isSun : CalD → Bool
  | .sun .. => true
  | .moon .. => false
section
variable {K : PySem.W.Frag} {CS CO CM : Addr} {H H' : Hp} {x : Addr} {d : CalD}
theorem CalO.same (S : CalO K CS CO CM H x d) (e : Same H H') : CalO K CS CO CM H' x d := by
  cases d with
  | sun s ls lp ts => exact SunO.same S e
  | moon s bd td bm tm => exact MoonO.same S e
theorem CalO.but {l : Addr} {xs : List V} (S : CalO K CS CO CM H x d) (hl : H l = some (.lst xs)) (k : But l H H') : CalO K CS CO CM H' x d := by
  cases d with
  | sun s ls lp ts => exact SunO.but S hl k
  | moon s bd td bm tm => exact MoonO.but S hl k
theorem CalO.good (S : CalO K CS CO CM H x d) : d.good := by
  cases d with
  | sun s ls lp ts => exact SunO.gd S
  | moon s bd td bm tm => exact MoonO.gd S
theorem CalO.bs (S : CalO K CS CO CM H x d) : Bt 290 d.st := by
  cases d with
  | sun s ls lp ts => exact SunO.bs S
  | moon s bd td bm tm => exact MoonO.bs S
theorem CalO.ys (S : CalO K CS CO CM H x d) : ∃ C dx fs sp, (C, sp) ∈ [(CS, spYS K CS CM), (CO, spMYS K CO CM)] ∧ H x = some (.ins C dx fs) ∧ fs.lookup (Str.ofString "year_start") = none ∧
    ∀ {H2 : Hp} {n : Int} {Q : VK} {E : XK}, CalO K CS CO CM H2 x d → Bt 370 n → (∀ H', Same H2 H' → Q (.int (d.Y n)) H') → sp [.ref x, .int n] H2 Q E := by
  cases d with
  | sun s ls lp ts =>
    obtain ⟨dx, fs, e, m⟩ := SunO.meth S
    exact ⟨CS, dx, fs, _, List.mem_cons_self, e, m.1, fun S2 bn q => ⟨x, _, s, ls, lp, ts, rfl, S2, bn.mono (by decide), q⟩⟩
  | moon s bd td bm tm =>
    obtain ⟨dx, fs, e, m⟩ := MoonO.meth S
    exact ⟨CO, dx, fs, _, List.mem_cons_of_mem _ List.mem_cons_self, e, m.1, fun S2 bn q => ⟨x, _, s, bd, bm, td, tm, rfl, S2, bn, q⟩⟩
theorem CalO.le (S : CalO K CS CO CM H x d) : ∃ C dx fs sp, (C, sp) ∈ [(CS, spLens K CS CM), (CO, spMLens K CO CM)] ∧ H x = some (.ins C dx fs) ∧ fs.lookup (Str.ofString "lengths") = none ∧
    ∀ {H2 : Hp} {n : Int} {Q : VK} {E : XK}, CalO K CS CO CM H2 x d → Bt 370 n → (∀ (p : Addr) H', H2 p = none → Same H2 H' → H' p = some (.lst ((d.L n).map V.int)) → Q (.ref p) H') → sp [.ref x, .int n] H2 Q E := by
  cases d with
  | sun s ls lp ts =>
    obtain ⟨dx, fs, e, m⟩ := SunO.meth S
    exact ⟨CS, dx, fs, _, List.mem_cons_self, e, m.2.2.1, fun S2 bn q => ⟨x, _, s, ls, lp, ts, rfl, S2, bn.mono (by decide), q⟩⟩
  | moon s bd td bm tm =>
    obtain ⟨dx, fs, e, m⟩ := MoonO.meth S
    exact ⟨CO, dx, fs, _, List.mem_cons_of_mem _ List.mem_cons_self, e, m.2.2.1, fun S2 bn q => ⟨x, _, s, bd, bm, td, tm, rfl, S2, bn, q⟩⟩
end
/-- the date of a day; b: of the sun -/
def spDate (K : PySem.W.Frag) (CS CO CM : Addr) (b : Bool) : Sp := fun vs H Q _ => ∃ (x : Addr) (n : Int) (d : CalD), vs = [.ref x, .int n] ∧ isSun d = b ∧ CalO K CS CO CM H x d ∧ Bt 290 n ∧ ∀ (p : Addr) (y m r : Int) H', Same H H' → H' p = some (.tup [.int y, .int m, .int r]) → IsD d y m r → DayOf d y m r = n → Bt 300 y → Q (.ref p) H'
/-- the day of a date that is one -/
def spDay (K : PySem.W.Frag) (CS CO CM : Addr) (b : Bool) : Sp := fun vs H Q _ => ∃ (x p : Addr) (y m r : Int) (d : CalD), vs = [.ref x, .ref p] ∧ isSun d = b ∧ CalO K CS CO CM H x d ∧ SqT K H p [.int y, .int m, .int r] ∧ IsD d y m r ∧ Bt 360 y ∧ ∀ H', Same H H' → Q (.int (DayOf d y m r)) H'
section
variable {K : PySem.W.Frag} {CS CO CM : Addr} {H H' : Hp} {x : Addr} {d : CalD}
theorem CalO.dt (S : CalO K CS CO CM H x d) : ∃ C dx fs sp, (C, sp) ∈ [(CS, spDate K CS CO CM true), (CO, spDate K CS CO CM false)] ∧ H x = some (.ins C dx fs) ∧ fs.lookup (Str.ofString "date_of") = none ∧
    ∀ {H2 : Hp} {n : Int} {Q : VK} {E : XK}, CalO K CS CO CM H2 x d → Bt 290 n → (∀ (p : Addr) (y m r : Int) H', Same H2 H' → H' p = some (.tup [.int y, .int m, .int r]) → IsD d y m r → DayOf d y m r = n → Bt 300 y → Q (.ref p) H') → sp [.ref x, .int n] H2 Q E := by
  cases d with
  | sun s ls lp ts =>
    obtain ⟨dx, fs, e, m⟩ := SunO.meth S
    exact ⟨CS, dx, fs, _, List.mem_cons_self, e, m.2.2.2.2.1, fun S2 bn q => ⟨x, _, _, rfl, rfl, S2, bn, q⟩⟩
  | moon s bd td bm tm =>
    obtain ⟨dx, fs, e, m⟩ := MoonO.meth S
    exact ⟨CO, dx, fs, _, List.mem_cons_of_mem _ List.mem_cons_self, e, m.2.2.2.2.1, fun S2 bn q => ⟨x, _, _, rfl, rfl, S2, bn, q⟩⟩
theorem CalO.dy (S : CalO K CS CO CM H x d) : ∃ C dx fs sp, (C, sp) ∈ [(CS, spDay K CS CO CM true), (CO, spDay K CS CO CM false)] ∧ H x = some (.ins C dx fs) ∧ fs.lookup (Str.ofString "day_of") = none ∧
    ∀ {H2 : Hp} {p : Addr} {y m r : Int} {Q : VK} {E : XK}, CalO K CS CO CM H2 x d → SqT K H2 p [.int y, .int m, .int r] → IsD d y m r → Bt 360 y → (∀ H', Same H2 H' → Q (.int (DayOf d y m r)) H') → sp [.ref x, .ref p] H2 Q E := by
  cases d with
  | sun s ls lp ts =>
    obtain ⟨dx, fs, e, m⟩ := SunO.meth S
    exact ⟨CS, dx, fs, _, List.mem_cons_self, e, m.2.2.2.2.2, fun S2 hp hd by' q => ⟨x, _, _, _, _, _, rfl, rfl, S2, hp, hd, by', q⟩⟩
  | moon s bd td bm tm =>
    obtain ⟨dx, fs, e, m⟩ := MoonO.meth S
    exact ⟨CO, dx, fs, _, List.mem_cons_of_mem _ List.mem_cons_self, e, m.2.2.2.2.2, fun S2 hp hd by' q => ⟨x, _, _, _, _, _, rfl, rfl, S2, hp, hd, by', q⟩⟩
end
theorem eq3 {a b c a' b' c' : Int} (h1 : a = a') (h2 : b = b') (h3 : c = c') : eqVs [V.int a, V.int b, V.int c] [V.int a', V.int b', V.int c'] = true := by
  subst h1 h2 h3
  show ((a == a) && ((b == b) && ((c == c) && true))) = true
  simp
def spMCyc (K : PySem.W.Frag) (CO CM : Addr) : Sp := fun vs H Q _ => ∃ (x : Addr) (s bd bm : Int) (td tm : List Tm), vs = [.ref x] ∧ MoonO K CO CM H x s bd td bm tm ∧ ∀ (p : Addr) H', Same H H' → H' p = some (.tup [.int (PER tm * moT td bm tm), .int (UP bd td (UP bm tm (PER tm) * moT td bm tm))]) → Q (.ref p) H'
theorem CalO.cyc {K : PySem.W.Frag} {CS CO CM : Addr} {H : Hp} {x : Addr} {d : CalD} (S : CalO K CS CO CM H x d) : ∃ C dx fs sp, (C, sp) ∈ [(CS, spCyc K CS CM), (CO, spMCyc K CO CM)] ∧ H x = some (.ins C dx fs) ∧ fs.lookup (Str.ofString "cycle") = none ∧
    ∀ {H2 : Hp} {Q : VK} {E : XK}, CalO K CS CO CM H2 x d → (∀ (p : Addr) H', Same H2 H' → H' p = some (.tup [.int d.cy.1, .int d.cy.2]) → Q (.ref p) H') → sp [.ref x] H2 Q E := by
  cases d with
  | sun s ls lp ts =>
    obtain ⟨dx, fs, e, m⟩ := SunO.meth S
    exact ⟨CS, dx, fs, _, List.mem_cons_self, e, m.2.2.2.1, fun S2 q => ⟨x, s, ls, lp, ts, rfl, S2, q⟩⟩
  | moon s bd td bm tm =>
    obtain ⟨dx, fs, e, m⟩ := MoonO.meth S
    exact ⟨CO, dx, fs, _, List.mem_cons_of_mem _ List.mem_cons_self, e, m.2.2.2.1, fun S2 q => ⟨x, s, bd, bm, td, tm, rfl, S2, q⟩⟩
def spFallsL (K : PySem.W.Frag) : Sp := fun vs H Q _ => ∃ (l : Addr) (us : List V) (ts : List Tm), vs = [.ref l] ∧ TmL K H l us ts ∧ ∀ H', Same H H' → Q (.int (falls ts)) H'
def spBaseB (K : PySem.W.Frag) : Sp := fun vs H Q _ => ∃ (c mo : Int) (l : Addr) (us : List V) (ts : List Tm), vs = [.int c, .ref l, .int mo] ∧ TmL K H l us ts ∧ 20 ≤ mo ∧ mo ≤ 1000 ∧ ∀ (b : Int) (H' : Hp), Same H H' → falls ts < b → b ≤ mo → Q (.int b) H'
def cpl (z : Str) : List Nat := z.cps.toList
theorem str_ext {y z : Str} (h : cpl y = cpl z) : y = z := by
  cases y
  cases z
  simp only [cpl] at h
  exact congrArg Str.mk (Array.toList_inj.mp h)
def figs (cs : List Nat) : List Nat := if cs.head? = some 45 then cs.drop 1 else cs
structure IsNum (cs : List Nat) : Prop where
  lo : 1 ≤ (figs cs).length
  hi : (figs cs).length ≤ 60
  dg : ∀ c ∈ figs cs, 48 ≤ c ∧ c ≤ 57
  z0 : (figs cs).head? = some 48 → cs = [48]
def numVal (cs : List Nat) : Int := if cs.head? = some 45 then -((PySem.NumText.digitsVal (figs cs) : Nat) : Int) else ((PySem.NumText.digitsVal (figs cs) : Nat) : Int)
theorem len_cpl (z : Str) : (cpl z).length = z.length := Array.length_toList
theorem int_reads {z : Str} (h : IsNum (cpl z)) : PySem.intText? z = some (numVal (cpl z)) := by
  have hl : z.length ≤ 4300 := by
    have := h.hi
    rw [← len_cpl]
    unfold figs at this
    split at this
    · rw [List.length_drop] at this; omega
    · omega
  unfold numVal
  by_cases e : (cpl z).head? = some 45
  · rw [if_pos e]
    have ef : figs (cpl z) = (cpl z).drop 1 := by unfold figs; rw [if_pos e]
    have hz : z.cps.toList = 45 :: (cpl z).drop 1 := by
      show cpl z = _
      generalize cpl z = cs at e
      cases cs with
      | nil => cases e
      | cons a r =>
        injection e with e
        rw [e]
        rfl
    rw [ef]
    refine PySem.intText_neg hz (fun c hc => h.dg c (by rw [ef]; exact hc)) (fun z0 => ?_) hl
    have := h.lo
    rw [ef, z0] at this
    simp at this
  · rw [if_neg e]
    have ef : figs (cpl z) = cpl z := by unfold figs; rw [if_neg e]
    rw [ef]
    refine PySem.intText_digits (fun c hc => h.dg c (by rw [ef]; exact hc)) (fun z0 => ?_) hl
    have := h.lo
    rw [ef] at this
    have z1 : cpl z = [] := z0
    rw [z1] at this
    simp at this
theorem slice_from1 {z : Str} (h : 1 ≤ z.length) : cpl (Txt.slice z (some 1) none) = (cpl z).drop 1 := by
  rw [slice_from_eq (b := (z.length : Int)) (by decide) (by omega) rfl]
  show ((List.drop 1 z.cps.toList).take ((z.length : Int) - 1).toNat) = _
  rw [List.take_of_length_le]
  · rfl
  · rw [List.length_drop]
    have : z.cps.toList.length = z.length := len_cpl z
    omega
theorem slice_to1 (z : Str) : cpl (Txt.slice z none (some 1)) = (cpl z).take 1 := by
  by_cases h : 1 ≤ z.length
  · have e := slice_closes_toL (x := z) (j := 1) (by decide) (by omega)
    rw [eq_of_beq e]
    rfl
  · have e0 : (cpl z).length = 0 := by rw [len_cpl]; omega
    have e1 : (cpl (Txt.slice z none (some 1))).length = 0 := by
      have := Txt.slice_le z none (some 1)
      rw [len_cpl]
      omega
    rw [List.length_eq_zero_iff.mp e0, List.length_eq_zero_iff.mp e1]
    rfl
theorem slice_mem {z : Str} {lo hi : Option Int} {c : Nat} (h : c ∈ cpl (Txt.slice z lo hi)) : c ∈ cpl z := by
  unfold Txt.slice at h
  split at h
  · exact h
  · simp only [cpl] at h
    obtain ⟨i, _, hi⟩ := List.mem_filterMap.mp h
    have hi' : z.cps.toList[i]? = some c := by rw [Array.getElem?_toList]; exact hi
    exact List.mem_of_getElem? hi'
theorem asc_iff {z : Str} : asc z = true ↔ ∀ c ∈ cpl z, c < 128 := by
  unfold asc cpl
  rw [Array.all_eq_true']
  simp [Array.mem_toList_iff]
theorem starts_minus {z : Str} (h : 1 ≤ z.length ∨ True) : Txt.startswith z "-" = decide ((cpl z).head? = some 45) := by
  have ey : (Str.ofString "-") = ⟨#[45]⟩ := by decide +kernel
  rw [ey]
  unfold Txt.startswith Builtin.Str.subAt
  show (decide (0 + 1 ≤ z.length) && (z.cps.extract 0 (0 + 1) == #[45])) = _
  rw [Bool.eq_iff_iff, Bool.and_eq_true, decide_eq_true_eq, decide_eq_true_eq, beq_iff_eq]
  have el : (cpl z).length = z.length := len_cpl z
  have ex : (z.cps.extract 0 (0 + 1)).toList = (cpl z).take 1 := by
    rw [Array.toList_extract]
    simp [cpl, List.extract_eq_drop_take]
  constructor
  · rintro ⟨_, e⟩
    rw [e] at ex
    generalize cpl z = cs at ex
    cases cs with
    | nil => cases ex
    | cons a r =>
      injection ex with e1 _
      rw [e1]
      rfl
  · intro e
    cases hc : cpl z with
    | nil => rw [hc] at e; cases e
    | cons a r =>
      rw [hc] at e ex el
      injection e with e
      rw [List.length_cons] at el
      refine ⟨by omega, Array.toList_inj.mp ?_⟩
      rw [ex, e]
      rfl
theorem dig_mem (c : Nat) : c ∈ cpl (Str.ofString "0123456789") ↔ 48 ≤ c ∧ c ≤ 57 := by
  have e : cpl (Str.ofString "0123456789") = [48, 49, 50, 51, 52, 53, 54, 55, 56, 57] := by decide +kernel
  rw [e]
  simp only [List.mem_cons, List.not_mem_nil, or_false]
  omega
theorem in_dig (c : Nat) : (!(Builtin.Str.occurrences (Str.ofString "0123456789") ⟨#[c]⟩ 0 (Str.ofString "0123456789").length 1).isEmpty) = decide (48 ≤ c ∧ c ≤ 57) := by
  rw [StrLaws.found_one, Bool.eq_iff_iff, decide_eq_true_eq, decide_eq_true_eq]
  exact dig_mem c
/-- a text that may be handed in -/
structure TOk (z : Str) : Prop where
  asc : asc z = true
  len : z.length ≤ 1000000
theorem TOk.fit {z : Str} (h : TOk z) : z.length ≤ sizeLine := Nat.le_trans h.len (by decide)
theorem TOk.slice {z : Str} (h : TOk z) (lo hi : Option Int) : TOk (Txt.slice z lo hi) := ⟨asc_iff.mpr fun c hc => asc_iff.mp h.asc c (slice_mem hc), Nat.le_trans (Txt.slice_le z lo hi) h.len⟩
/-- what may be handed in -/
inductive Hnd (H : Hp) : V → Prop
  | txt (z : Str) : TOk z → Hnd H (.str z)
  | non : Hnd H .non
  | int (i : Int) : Hnd H (.int i)
  | tup (a : Addr) (xs : List V) : H a = some (.tup xs) → Hnd H (.ref a)
  | lst (a : Addr) (xs : List V) : H a = some (.lst xs) → Hnd H (.ref a)
theorem Hnd.keep {H H' : Hp} {v : V} (h : Hnd H v) (s : Same H H') : Hnd H' v := by
  cases h with
  | txt z hz => exact .txt z hz
  | non => exact .non
  | int i => exact .int i
  | tup a xs e => exact .tup a xs (s _ _ e)
  | lst a xs e => exact .lst a xs (s _ _ e)
def isT (v : V) : Bool := match v with | .str _ => true | _ => false
theorem kit_ss (K : PySem.W.Frag) : PySem.W.kitOne K (.type "str") (.type "str") = some true := by unfold PySem.W.kitOne; rw [if_pos (by simp)]
theorem kit_ns (K : PySem.W.Frag) : PySem.W.kitOne K (.type "NoneType") (.type "str") = some false := by first | rfl | decide +kernel | with_unfolding_all rfl
theorem kit_is' (K : PySem.W.Frag) : PySem.W.kitOne K (.type "int") (.type "str") = some false := by first | rfl | decide +kernel | with_unfolding_all rfl
theorem kit_ts (K : PySem.W.Frag) : PySem.W.kitOne K (.type "tuple") (.type "str") = some false := by first | rfl | decide +kernel | with_unfolding_all rfl
theorem kit_ls (K : PySem.W.Frag) : PySem.W.kitOne K (.type "list") (.type "str") = some false := by first | rfl | decide +kernel | with_unfolding_all rfl
theorem rd_isS {K : PySem.W.Frag} {H : Hp} {v : V} {Q : VK} (h : Hnd H v) (q : Q (.bl (isT v)) H) : rIsi K [v, .ty "str"] H Q := by
  cases h with
  | txt z hz => exact rd_isi (.str z) (kit_ss K) q
  | non => exact rd_isi .non (kit_ns K) q
  | int i => exact rd_isi (.int i) (kit_is' K) q
  | tup a xs e => exact rd_isi (.tup e) (kit_ts K) q
  | lst a xs e => exact rd_isi (.lst e) (kit_ls K) q
def spIsNum : Sp := fun vs H Q _ => ∃ z : Str, vs = [.str z] ∧ TOk z ∧ ∀ (v : Bool) (H' : Hp), Same H H' → (v = true ↔ IsNum (cpl z)) → Q (.bl v) H'
theorem cpl_app (a b : Str) : cpl (a ++ b) = cpl a ++ cpl b := by
  show (a.cps ++ b.cps).toList = _
  rw [Array.toList_append]
  rfl
/-- a text of at most k signs -/
structure TL (k : Nat) (z : Str) : Prop where
  asc : asc z = true
  len : z.length ≤ k
theorem TL.mono {k m : Nat} {a : Str} (h1 : TL k a) (h : k ≤ m) : TL m a := ⟨h1.asc, Nat.le_trans h1.len h⟩
theorem TL.ok {k : Nat} {a : Str} (h1 : TL k a) (h : k ≤ 1000000) : TOk a := ⟨h1.asc, Nat.le_trans h1.len h⟩
theorem TL.slice {k : Nat} {z : Str} (h : TL k z) (lo hi : Option Int) : TL k (Txt.slice z lo hi) := ⟨asc_iff.mpr fun c hc => asc_iff.mp h.asc c (slice_mem hc), Nat.le_trans (Txt.slice_le z lo hi) h.len⟩
theorem TL.sign {c : Nat} (h : c < 128) : TL 1 ⟨#[c]⟩ := ⟨asc_iff.mpr fun d hd => by
  have : d = c := by simpa [cpl] using hd
  omega, Nat.le_refl _⟩
theorem digs_asc (m : Nat) : ∀ c ∈ (Nat.toDigits 10 m).map Char.toNat, c < 128 := fun c hc => by
  obtain ⟨ch, hch, e⟩ := List.mem_map.mp hc
  have r := digit_range (Nat.isDigit_of_mem_toDigits (by decide) (by decide) hch)
  omega
theorem TL.int {i : Int} (h : i.natAbs.log2 < 1920) : TL 1921 (intT i) := by
  refine ⟨asc_iff.mpr fun c hc => ?_, intT_len h⟩
  unfold intT cpl at hc
  rw [signs_ofString] at hc
  cases i with
  | ofNat m =>
    have e : (toString (Int.ofNat m)).toList = Nat.toDigits 10 m := by
      show (Nat.repr m).toList = _
      rw [Nat.toList_repr]
    rw [e] at hc
    exact digs_asc m c hc
  | negSucc m =>
    have e : (toString (Int.negSucc m)).toList = '-' :: Nat.toDigits 10 (m + 1) := by
      show ("-" ++ Nat.repr (m + 1)).toList = _
      rw [String.toList_append, Nat.toList_repr]
      rfl
    rw [e, List.map_cons] at hc
    rcases List.mem_cons.mp hc with h | h
    · have : ('-' : Char).toNat = 45 := by decide
      omega
    · exact digs_asc (m + 1) c h
theorem log_small {i : Int} (h1 : -1000000000000000000000000000000000000000000000000000000000000 ≤ i) (h2 : i ≤ 1000000000000000000000000000000000000000000000000000000000000) : i.natAbs.log2 < 1920 := by
  have b : Bt 200 i := bt_of h1 h2
  unfold Bt at b
  by_cases z : i.natAbs = 0
  · rw [z]; decide
  · exact Nat.lt_of_lt_of_le ((Nat.log2_lt z).mpr b) (by decide)
theorem mul_mem {z : Str} {n : Int} {c : Nat} (h : c ∈ cpl (Txt.mul z n)) : c ∈ cpl z := by
  unfold Txt.mul at h
  split at h
  · have : cpl Str.empty = [] := by decide
    rw [this] at h
    cases h
  · split at h
    · exact h
    · have gen : ∀ (k : Nat) (acc : Array Nat), (∀ c ∈ acc.toList, c ∈ cpl z) → ∀ c ∈ ((List.replicate k z.cps).foldl (· ++ ·) acc).toList, c ∈ cpl z := by
        intro k
        induction k with
        | zero => intro acc ha c hc; exact ha c hc
        | succ k ih =>
          intro acc ha c hc
          rw [List.replicate_succ, List.foldl_cons] at hc
          refine ih _ (fun d hd => ?_) c hc
          rw [Array.toList_append] at hd
          rcases List.mem_append.mp hd with x | x
          · exact ha d x
          · exact x
      exact gen n.toNat #[] (by simp) c h
theorem mul_len (z : Str) (k : Nat) : ∀ acc : Array Nat, ((List.replicate k z.cps).foldl (· ++ ·) acc).size = acc.size + k * z.length := by
  induction k with
  | zero => intro acc; simp
  | succ k ih =>
    intro acc
    rw [List.replicate_succ, List.foldl_cons, ih, Array.size_append, Nat.succ_mul]
    show acc.size + z.length + _ = _
    omega
theorem TL.mul {k : Nat} {z : Str} {n : Int} (h : TL k z) (hn : n ≤ 10) : TL (10 * k) (Txt.mul z n) := by
  refine ⟨asc_iff.mpr fun c hc => asc_iff.mp h.asc c (mul_mem hc), ?_⟩
  have hl := h.len
  unfold Txt.mul
  split
  · show 0 ≤ _
    omega
  · split
    · omega
    · show ((List.replicate n.toNat z.cps).foldl (· ++ ·) #[]).size ≤ _
      rw [mul_len]
      have : n.toNat * z.length ≤ 10 * k := Nat.mul_le_mul (by omega) hl
      simpa using this
theorem dT (n : Nat) : cpl (intT (n : Int)) = (Nat.toDigits 10 n).map Char.toNat := by
  unfold intT cpl
  rw [signs_ofString]
  have e : (toString (Int.ofNat n)).toList = Nat.toDigits 10 n := by
    show (Nat.repr n).toList = _
    rw [Nat.toList_repr]
  exact congrArg (List.map Char.toNat) e
theorem ofNat_toNat {cs : List Nat} (h : ∀ c ∈ cs, 48 ≤ c ∧ c ≤ 57) : (cs.map Char.ofNat).map Char.toNat = cs := by
  rw [List.map_map]
  conv => rhs; rw [← List.map_id cs]
  refine List.map_congr_left fun c hc => ?_
  have := h c hc
  rcases (by omega : c = 48 ∨ c = 49 ∨ c = 50 ∨ c = 51 ∨ c = 52 ∨ c = 53 ∨ c = 54 ∨ c = 55 ∨ c = 56 ∨ c = 57) with e | e | e | e | e | e | e | e | e | e <;> subst e <;> rfl
theorem canon {cs : List Nat} (h : ∀ c ∈ cs, 48 ≤ c ∧ c ≤ 57) (ne : cs ≠ []) (z : cs.head? = some 48 → cs = [48]) : cpl (intT ((PySem.NumText.digitsVal cs : Nat) : Int)) = cs := by
  rw [dT]
  obtain ⟨c, r, rfl⟩ : ∃ c r, cs = c :: r := by
    cases cs with
    | nil => exact absurd rfl ne
    | cons c r => exact ⟨c, r, rfl⟩
  have hc := h c List.mem_cons_self
  rw [PySem.NumText.toDigits_digitsVal r.length (c :: r) (by simp) h (by
    by_cases e : c = 48
    · have := z (by rw [e]; rfl)
      injection this with _ e2
      exact .inl (by rw [e2]; rfl)
    · exact .inr ⟨c, r, rfl, by omega⟩)]
  exact ofNat_toNat h
theorem canon_iff {cs : List Nat} (h : ∀ c ∈ cs, 48 ≤ c ∧ c ≤ 57) (ne : cs ≠ []) : cpl (intT ((PySem.NumText.digitsVal cs : Nat) : Int)) = cs ↔ (cs.head? = some 48 → cs = [48]) := by
  refine ⟨fun e z => ?_, canon h ne⟩
  refine Classical.byContradiction fun hn => ?_
  obtain ⟨r, rfl⟩ : ∃ r, cs = 48 :: r := by
    cases cs with
    | nil => exact absurd rfl ne
    | cons c r =>
      injection z with z
      exact ⟨r, by rw [z]⟩
  have rn : r ≠ [] := fun y => hn (by rw [y])
  have dr : ∀ c ∈ r, 48 ≤ c ∧ c ≤ 57 := fun c hc => h c (List.mem_cons_of_mem _ hc)
  have ev : PySem.NumText.digitsVal (48 :: r) = PySem.NumText.digitsVal r := rfl
  rw [dT, ev, PySem.NumText.toDigits_all r dr] at e
  have l : r.length + 1 = (match r.dropWhile (· == 48) with | [] => ['0'] | c :: r => (c :: r).map Char.ofNat).length := by
    have := congrArg List.length e
    rw [List.length_map, List.length_cons] at this
    exact this.symm
  have d : (r.dropWhile (· == 48)).length ≤ r.length := (List.dropWhile_sublist _).length_le
  have r1 : 1 ≤ r.length := by
    cases r with
    | nil => exact absurd rfl rn
    | cons _ _ => simp
  cases hd : r.dropWhile (· == 48) with
  | nil =>
    rw [hd] at l
    have l' : r.length + 1 = 1 := l
    omega
  | cons a b =>
    rw [hd] at l d
    have l' : r.length + 1 = ((a :: b).map Char.ofNat).length := l
    rw [List.length_map] at l'
    omega
theorem int_digits (n : Nat) : (∀ c ∈ cpl (intT (n : Int)), 48 ≤ c ∧ c ≤ 57) ∧ cpl (intT (n : Int)) ≠ [] ∧ PySem.NumText.digitsVal (cpl (intT (n : Int))) = n := by
  rw [dT]
  refine ⟨fun c hc => ?_, fun e => ?_, PySem.W.KIN.val_back n⟩
  · obtain ⟨ch, hch, e⟩ := List.mem_map.mp hc
    have r := digit_range (Nat.isDigit_of_mem_toDigits (by decide) (by decide) hch)
    omega
  · have := congrArg List.length e
    rw [List.length_map] at this
    have p := Nat.length_toDigits_pos (b := 10) (n := n)
    rw [List.length_nil] at this
    omega
/-- a month or a day as a text -/
def Two (w : List Nat) : Prop := w.length = 2 ∧ w.head? = some 48
instance (w : List Nat) : Decidable (Two w) := by unfold Two; infer_instance
theorem figs_pos {cs : List Nat} (h : cs.head? ≠ some 45) : figs cs = cs := by unfold figs; rw [if_neg h]
theorem val_pos {cs : List Nat} (h : cs.head? ≠ some 45) : numVal cs = ((PySem.NumText.digitsVal cs : Nat) : Int) := by unfold numVal; rw [if_neg h, figs_pos h]
theorem dg_head {cs : List Nat} (h : ∀ c ∈ cs, 48 ≤ c ∧ c ≤ 57) : cs.head? ≠ some 45 := by
  cases cs with
  | nil => exact fun z => nomatch z
  | cons a r =>
    intro z
    injection z with z
    have := h a List.mem_cons_self
    omega
theorem TOk.part {z : Str} (h : TOk z) {c : Nat} {p : List Nat} (hp : p ∈ spl c (cpl z)) (hs : ∀ a ∈ p, a ∈ cpl z) : TOk (⟨p.toArray⟩ : Str) := by
  refine ⟨asc_iff.mpr fun a ha => asc_iff.mp h.asc a (hs a ha), ?_⟩
  have l := spl_len c (cpl z) p hp
  rw [len_cpl] at l
  have : (⟨p.toArray⟩ : Str).length = p.length := by rw [← len_cpl]; rfl
  have := h.len
  omega
theorem dT_len {n : Nat} (h : n < 10 ^ 60) : (cpl (intT (n : Int))).length ≤ 60 := by
  rw [dT, List.length_map]
  exact (Nat.length_toDigits_le_iff (by decide) (by decide)).mpr h
theorem figs_int {y : Int} (h : y.natAbs < 10 ^ 60) : IsNum (cpl (intT y)) ∧ numVal (cpl (intT y)) = y ∧ 47 ∉ cpl (intT y) := by
  have id := int_digits y.natAbs
  have dl := dT_len h
  have z0 : (cpl (intT ((y.natAbs : Nat) : Int))).head? = some 48 → cpl (intT ((y.natAbs : Nat) : Int)) = [48] := by
    have c := (canon_iff id.1 id.2.1).mp (by rw [id.2.2])
    exact c
  have l1 : 1 ≤ (cpl (intT ((y.natAbs : Nat) : Int))).length := by
    cases hh : cpl (intT ((y.natAbs : Nat) : Int)) with
    | nil => exact absurd hh id.2.1
    | cons a r => simp
  rcases Int.lt_or_le y 0 with c | c
  · have e : cpl (intT y) = 45 :: cpl (intT ((y.natAbs : Nat) : Int)) := by
      cases y with
      | ofNat k => exact absurd c (by simp)
      | negSucc k =>
        show cpl (intT (Int.negSucc k)) = 45 :: cpl (intT (((k + 1 : Nat)) : Int))
        rw [dT]
        unfold intT cpl
        rw [signs_ofString]
        show (("-" ++ Nat.repr (k + 1)).toList).map Char.toNat = _
        rw [String.toList_append, List.map_append, Nat.toList_repr]
        rfl
    have hh : (cpl (intT y)).head? = some 45 := by rw [e]; rfl
    have ef : figs (cpl (intT y)) = cpl (intT ((y.natAbs : Nat) : Int)) := by unfold figs; rw [if_pos hh, e]; rfl
    refine ⟨⟨by rw [ef]; exact l1, by rw [ef]; exact dl, by rw [ef]; exact id.1, fun z => ?_⟩, ?_, ?_⟩
    · rw [ef] at z
      have := z0 z
      have v := id.2.2
      rw [this] at v
      have : PySem.NumText.digitsVal [48] = 0 := rfl
      omega
    · unfold numVal
      rw [if_pos hh, ef, id.2.2]
      omega
    · rw [e]
      intro z
      rcases List.mem_cons.mp z with z | z
      · omega
      · have := id.1 47 z
        omega
  · have e : intT y = intT ((y.natAbs : Nat) : Int) := by congr 1; omega
    rw [e]
    have h45 := dg_head id.1
    refine ⟨⟨by rw [figs_pos h45]; exact l1, by rw [figs_pos h45]; exact dl, by rw [figs_pos h45]; exact id.1, fun z => z0 (by rw [figs_pos h45] at z; exact z)⟩, ?_, fun z => by have := id.1 47 z; omega⟩
    rw [val_pos h45, id.2.2]
    omega
def numT (i : Int) : List Nat := cpl (intT i)
def txt (p : List Nat) : Str := ⟨p.toArray⟩
theorem cpl_txt (p : List Nat) : cpl (txt p) = p := rfl
theorem txt_cpl (z : Str) : txt (cpl z) = z := str_ext (cpl_txt _)
theorem txt_num (i : Int) : txt (numT i) = intT i := txt_cpl _
def joinC (c : Nat) : List (List Nat) → List Nat
  | [] => []
  | w :: ws => w ++ (ws.map (c :: ·)).flatten
theorem joinC_cons (c : Nat) (w y : List Nat) (ws : List (List Nat)) : joinC c (w :: y :: ws) = w ++ c :: joinC c (y :: ws) := by
  show w ++ ((c :: y) ++ (ws.map (c :: ·)).flatten) = w ++ c :: (y ++ (ws.map (c :: ·)).flatten)
  rfl
theorem spl_joinC (c : Nat) : ∀ (w : List Nat) (ws : List (List Nat)), (∀ x ∈ w :: ws, c ∉ x) → spl c (joinC c (w :: ws)) = w :: ws
  | w, [], h => by
    show spl c (w ++ []) = [w]
    rw [List.append_nil]
    exact spl_one c w (h w List.mem_cons_self)
  | w, y :: ws, h => by
    rw [joinC_cons, spl_cut c w _ (h w List.mem_cons_self), spl_joinC c y ws fun x hx => h x (List.mem_cons_of_mem _ hx)]
theorem glue_fold (c : Nat) : ∀ (zs : List Str) (acc : Array Nat), (zs.foldl (fun acc (p : Str) => acc ++ (⟨#[c]⟩ : Str).cps ++ p.cps) acc).toList = acc.toList ++ ((zs.map cpl).map (c :: ·)).flatten
  | [], acc => by simp
  | z :: zs, acc => by
    rw [List.foldl_cons, glue_fold c zs, Array.toList_append, Array.toList_append, List.map_cons, List.map_cons, List.flatten_cons]
    show (acc.toList ++ [c] ++ cpl z) ++ _ = acc.toList ++ ((c :: cpl z) ++ _)
    simp
theorem join_cpl (c : Nat) (zs : List Str) : cpl (Txt.join ⟨#[c]⟩ zs) = joinC c (zs.map cpl) := by
  cases zs with
  | nil => rfl
  | cons z zs =>
    show ((zs.foldl (fun acc (p : Str) => acc ++ (⟨#[c]⟩ : Str).cps ++ p.cps) z.cps)).toList = _
    rw [glue_fold]
    rfl
theorem glue_fold0 : ∀ (zs : List Str) (acc : Array Nat), (zs.foldl (fun acc (p : Str) => acc ++ (⟨#[]⟩ : Str).cps ++ p.cps) acc).toList = acc.toList ++ (zs.map cpl).flatten
  | [], acc => by simp
  | z :: zs, acc => by
    rw [List.foldl_cons, glue_fold0 zs, Array.toList_append, Array.toList_append, List.map_cons, List.flatten_cons]
    show (acc.toList ++ [] ++ cpl z) ++ _ = acc.toList ++ (cpl z ++ _)
    simp
theorem join_cpl0 (zs : List Str) : cpl (Txt.join ⟨#[]⟩ zs) = (zs.map cpl).flatten := by
  cases zs with
  | nil => rfl
  | cons z zs =>
    show ((zs.foldl (fun acc (p : Str) => acc ++ (⟨#[]⟩ : Str).cps ++ p.cps) z.cps)).toList = _
    rw [glue_fold0]
    rfl
theorem e44 : Str.ofString "," = ⟨#[44]⟩ := by decide +kernel
theorem e32 : Str.ofString " " = ⟨#[32]⟩ := by decide +kernel
theorem eNo : Str.ofString "" = ⟨#[]⟩ := by decide +kernel
/-- a number whose text can be read -/
def Sm (i : Int) : Prop := i.natAbs < 10 ^ 60
theorem num_ok {i : Int} (h : Sm i) : IsNum (numT i) ∧ numVal (numT i) = i := ⟨(figs_int h).1, (figs_int h).2.1⟩
theorem num_ch {i : Int} (h : Sm i) : ∀ c ∈ numT i, c = 45 ∨ 48 ≤ c ∧ c ≤ 57 := fun c hc => by
  have N := (num_ok h).1
  have hd := N.dg
  by_cases e : (numT i).head? = some 45
  · have ef : figs (numT i) = (numT i).drop 1 := by unfold figs; rw [if_pos e]
    rw [ef] at hd
    cases hn : numT i with
    | nil => rw [hn] at hc; cases hc
    | cons a r =>
      rw [hn] at hc e hd
      injection e with e
      rcases List.mem_cons.mp hc with z | z
      · exact .inl (by rw [z, e])
      · exact .inr (hd c z)
  · rw [figs_pos e] at hd
    exact .inr (hd c hc)
theorem num_len {i : Int} (h : Sm i) : (numT i).length ≤ 61 := by
  have := (num_ok h).1.hi
  unfold figs at this
  split at this
  · rw [List.length_drop] at this
    omega
  · omega
/-- the text of a term -/
def tmW (t : Tm) : List Nat := (if t.1 = 1 then 43 else 45) :: joinC 44 [numT t.2.1, numT t.2.2.1, numT t.2.2.2]
def sunWs (s : Int) (ls : List Int) (lp : Int) (ts : List Tm) : List (List Nat) := numT s :: joinC 44 (ls.map numT) :: (if ts = [] then [] else [108, 101, 97, 112] :: numT lp :: ts.map tmW)
def moonWs (s bd : Int) (td : List Tm) (bm : Int) (tm : List Tm) : List (List Nat) := numT s :: numT bd :: (td.map tmW ++ [47] :: numT bm :: tm.map tmW)
def calW : CalD → List (List Nat)
  | .sun s ls lp ts => [115, 117, 110] :: sunWs s ls lp ts
  | .moon s bd td bm tm => [109, 111, 111, 110] :: moonWs s bd td bm tm
def calT (d : CalD) : List Nat := joinC 32 (calW d)
/-- as it is read again: without terms the leap month is the first -/
def nrm : CalD → CalD
  | .sun s ls lp ts => if ts = [] then .sun s ls 1 [] else .sun s ls lp ts
  | d => d
/-- two calendars that tell the same -/
structure Like (d e : CalD) : Prop where
  L : ∀ y, d.L y = e.L y
  Y : ∀ y, d.Y y = e.Y y
  cy : d.cy = e.cy
theorem LENS_nil (ls : List Int) (lp y : Int) (h : 1 ≤ lp) (h2 : lp ≤ (ls.length : Int)) : LENS ls lp [] y = ls := by
  have e0 : ONS [] y = 0 := rfl
  have il : (lp - 1).toNat < ls.length := by omega
  unfold LENS
  rw [e0]
  simp
  rw [show lp.toNat - 1 = (lp - 1).toNat by omega, List.getElem?_eq_getElem il]
  simp
theorem nrm_like {d : CalD} (g : d.good) : Like d (nrm d) := by
  cases d with
  | sun s ls lp ts =>
    have g' : GoodS ls lp ts := g
    by_cases c : ts = []
    · subst c
      show Like (CalD.sun s ls lp []) (if ([] : List Tm) = [] then CalD.sun s ls 1 [] else CalD.sun s ls lp [])
      rw [if_pos rfl]
      refine ⟨fun y => ?_, fun y => rfl, rfl⟩
      show LENS ls lp [] y = LENS ls 1 [] y
      rw [LENS_nil ls lp y g'.p0 g'.p1, LENS_nil ls 1 y (by decide) (by have := g'.l0; omega)]
    · show Like (CalD.sun s ls lp ts) (if ts = [] then CalD.sun s ls 1 [] else CalD.sun s ls lp ts)
      rw [if_neg c]
      exact ⟨fun _ => rfl, fun _ => rfl, rfl⟩
  | moon s bd td bm tm => exact ⟨fun _ => rfl, fun _ => rfl, rfl⟩
theorem Like.isD {d e : CalD} (h : Like d e) {y m r : Int} : IsD d y m r → IsD e y m r := fun i => ⟨i.m0, by rw [← h.L]; exact i.m1, i.r0, by rw [← h.L]; exact i.r1⟩
theorem Like.day {d e : CalD} (h : Like d e) (y m r : Int) : DayOf d y m r = DayOf e y m r := by
  unfold DayOf
  rw [h.L, h.Y]
theorem sm_of {i : Int} (h1 : -100000000000000000000000000000000000000000000000000 ≤ i) (h2 : i ≤ 100000000000000000000000000000000000000000000000000) : Sm i := by
  unfold Sm
  have : (10 : Nat) ^ 60 = 1000000000000000000000000000000000000000000000000000000000000 := by decide
  omega
theorem okT_sm {t : Tm} (h : OkT t) : Sm t.2.1 ∧ Sm t.2.2.1 ∧ Sm t.2.2.2 := by
  have a0 := h.a0
  have a1 := h.a1
  have b0 := h.b0
  have b1 := h.b1
  have n0 := h.n0
  have n1 := h.n1
  exact ⟨sm_of (by omega) (by omega), sm_of (by omega) (by omega), sm_of (by omega) (by omega)⟩
theorem joinC_ch {c : Nat} {P : Nat → Prop} (hc : P c) : ∀ {ws : List (List Nat)}, (∀ w ∈ ws, ∀ a ∈ w, P a) → ∀ a ∈ joinC c ws, P a
  | [], _, a, ha => by cases ha
  | w :: ws, h, a, ha => by
    rcases List.mem_append.mp ha with z | z
    · exact h w List.mem_cons_self a z
    · obtain ⟨x, hx, hz⟩ := List.mem_flatten.mp z
      obtain ⟨y, hy, rfl⟩ := List.mem_map.mp hx
      rcases List.mem_cons.mp hz with e | e
      · rw [e]; exact hc
      · exact h y (List.mem_cons_of_mem _ hy) a e
theorem joinC_len (c k : Nat) : ∀ {ws : List (List Nat)}, (∀ w ∈ ws, w.length ≤ k) → (joinC c ws).length ≤ ws.length * (k + 1)
  | [], _ => Nat.zero_le _
  | [w], h => by
    have := h w List.mem_cons_self
    show (w ++ []).length ≤ 1 * (k + 1)
    rw [List.append_nil]
    omega
  | w :: y :: ws, h => by
    have a := h w List.mem_cons_self
    have b := joinC_len c k (ws := y :: ws) fun x hx => h x (List.mem_cons_of_mem _ hx)
    rw [joinC_cons, List.length_append, List.length_cons, List.length_cons (as := y :: ws), Nat.succ_mul]
    omega
/-- signs of a word: none is a blank -/
def wch (a : Nat) : Prop := 43 ≤ a ∧ a ≤ 122
theorem num_w {i : Int} (h : Sm i) : ∀ a ∈ numT i, wch a := fun a ha => by
  have := num_ch h a ha
  unfold wch
  omega
theorem tmW_w {t : Tm} (h : OkT t) : ∀ a ∈ tmW t, wch a := fun a ha => by
  obtain ⟨s1, s2, s3⟩ := okT_sm h
  unfold tmW at ha
  rcases List.mem_cons.mp ha with e | e
  · rw [e]
    unfold wch
    split <;> omega
  · refine joinC_ch (P := wch) (by unfold wch; omega) (fun w hw => ?_) a e
    rcases List.mem_cons.mp hw with rfl | hw
    · exact num_w s1
    rcases List.mem_cons.mp hw with rfl | hw
    · exact num_w s2
    · rw [List.mem_singleton.mp hw]
      exact num_w s3
theorem tmW_len {t : Tm} (h : OkT t) : (tmW t).length ≤ 187 := by
  obtain ⟨s1, s2, s3⟩ := okT_sm h
  have := joinC_len 44 61 (ws := [numT t.2.1, numT t.2.2.1, numT t.2.2.2]) fun w hw => by
    rcases List.mem_cons.mp hw with rfl | hw
    · exact num_len s1
    rcases List.mem_cons.mp hw with rfl | hw
    · exact num_len s2
    · rw [List.mem_singleton.mp hw]
      exact num_len s3
  unfold tmW
  rw [List.length_cons]
  have e : ([numT t.2.1, numT t.2.2.1, numT t.2.2.2] : List (List Nat)).length * (61 + 1) = 186 := rfl
  omega
theorem rd_slT {K : PySem.W.Frag} {a : Addr} {xs : List V} {lo hi : Option Int} {H : Hp} {Q : VK} (h : SqT K H a xs) (n : ¬ (HT.sIx xs.length 0 lo = 0 ∧ HT.sIx xs.length xs.length hi = xs.length)) (q : ∀ p, H p = none → Q (.ref p) (upd H p (.tup (cutV xs lo hi)))) : rSlT K (.ref a) lo hi H Q := ⟨a, xs, rfl, h, n, q⟩
theorem cut_from' (xs : List V) (k : Nat) : cutV xs (some (k : Int)) none = xs.drop k := by
  unfold cutV
  rw [HT.sIx_nat, HT.sIx_none]
  by_cases h : k ≤ xs.length
  · rw [Nat.min_eq_left h, List.take_of_length_le (by rw [List.length_drop]; exact Nat.le_refl _)]
  · rw [Nat.min_eq_right (by omega), List.drop_of_length_le (Nat.le_refl _), List.drop_of_length_le (by omega), List.take_nil]
def strV (v : V) : V := match v with | .int n => .str (intT n) | _ => .non
theorem strV_map (ns : List Int) : (ns.map V.int).map strV = (ns.map intT).map V.str := by
  rw [List.map_map, List.map_map]
  rfl
def tStr : TE := tCB (fun xs H Q => ∃ i : Int, xs = [V.int i] ∧ i.natAbs.log2 < 1920 ∧ Q (V.str (Str.ofString (toString i))) H) (tCons (tVar 0) tNil)
theorem comp_str {J : It} {ok : Hp → Prop} {ns : List Int} {σ : L2.St} {H : Hp} {Q : VK} (Wk : Walk J ok (ns.map V.int)) (hz : ns.length ≤ 1000) (hok : ∀ D ys, H D = none → ok (L2.upd H D (.lst ys))) (sm : ∀ n ∈ ns, n.natAbs.log2 < 1920)
    (h : ∀ D, H D = none → Q (.ref D) (L2.upd H D (.lst ((ns.map intT).map V.str)))) : CompR tTrue tStr σ Q J H := by
  refine comp_go Wk (by rw [List.length_map]; exact small1000 hz) hok (fun _ => true) strV (fun x hx D ys Q' hD h => rd_true h) (fun x hx _ D ys Q' hD h => ?_) (fun D hD => ?_)
  · obtain ⟨n, hn, rfl⟩ := List.mem_map.mp hx
    exact ⟨_, rfl, n, rfl, sm n hn, h⟩
  · rw [List.filter_eq_self.mpr (fun _ _ => rfl), strV_map]
    exact h D hD
theorem sum_lens {k : Nat} : ∀ {zs : List Str}, (∀ z ∈ zs, z.length ≤ k) → (zs.map (·.length)).sum ≤ zs.length * k
  | [], _ => Nat.zero_le _
  | z :: zs, h => by
    have := sum_lens (zs := zs) fun y hy => h y (List.mem_cons_of_mem _ hy)
    have := h z List.mem_cons_self
    rw [List.map_cons, List.sum_cons, List.length_cons, Nat.succ_mul]
    omega
theorem join_nums (ns : List Int) : Txt.join (Str.ofString ",") (ns.map intT) = txt (joinC 44 (ns.map numT)) := by
  rw [e44]
  exact str_ext (by rw [join_cpl, List.map_map]; rfl)
theorem join_words (ws : List (List Nat)) : Txt.join (Str.ofString " ") (ws.map txt) = txt (joinC 32 ws) := by
  rw [e32]
  exact str_ext (by rw [join_cpl, List.map_map]; exact congrArg (joinC 32) (List.map_id' ws))
theorem txt_len (p : List Nat) : (txt p).length = p.length := by rw [← len_cpl]; rfl
theorem intT_lenS {i : Int} (h : Sm i) : (intT i).length ≤ 61 := by rw [← len_cpl]; exact num_len h
def spReadN0 : Sp := fun vs H Q _ => ∃ i : Int, vs = [.str (intT i)] ∧ Sm i ∧ ∀ H', Same H H' → Q (.int i) H'
def spTermText (K : PySem.W.Frag) : Sp := fun vs H Q _ => ∃ (p : Addr) (t : Tm), vs = [.ref p] ∧ SqT K H p (tmV t) ∧ OkT t ∧ ∀ H', Same H H' → Q (.str (txt (tmW t))) H'
theorem sm_log {i : Int} (h : Sm i) : i.natAbs.log2 < 1920 := by
  refine log_small ?_ ?_
  · unfold Sm at h
    have : (10 : Nat) ^ 60 = 1000000000000000000000000000000000000000000000000000000000000 := by decide
    omega
  · unfold Sm at h
    have : (10 : Nat) ^ 60 = 1000000000000000000000000000000000000000000000000000000000000 := by decide
    omega
theorem num_tok {i : Int} (h : Sm i) : TOk (intT i) := (TL.int (sm_log h)).ok (by decide)
def wV (ws : List (List Nat)) : List V := (ws.map txt).map V.str
theorem wV_app (a b : List (List Nat)) : wV (a ++ b) = wV a ++ wV b := by unfold wV; rw [List.map_append, List.map_append]
theorem wV_cons (a : List Nat) (b : List (List Nat)) : wV (a :: b) = V.str (txt a) :: wV b := rfl
theorem wV_len (a : List (List Nat)) : (wV a).length = a.length := by unfold wV; rw [List.length_map, List.length_map]
theorem eSun : Str.ofString "sun" = txt [115, 117, 110] := by decide +kernel
theorem eMoon : Str.ofString "moon" = txt [109, 111, 111, 110] := by decide +kernel
theorem eLeap : Str.ofString "leap" = txt [108, 101, 97, 112] := by decide +kernel
theorem eSlash : Str.ofString "/" = txt [47] := by decide +kernel
theorem eStr (i : Int) : Str.ofString (toString i) = txt (numT i) := (txt_num i).symm
def spTermWords (K : PySem.W.Frag) : Sp := fun vs H Q _ => ∃ (p : Addr) (ts : List Tm), vs = [.ref p] ∧ TmT K H p ts ∧ ∀ (l : Addr) H', H l = none → Same H H' → H' l = some (.lst (wV (ts.map tmW))) → Q (.ref l) H'
def spShowS (K : PySem.W.Frag) (CS CM : Addr) : Sp := fun vs H Q _ => ∃ (x : Addr) (s : Int) (ls : List Int) (lp : Int) (ts : List Tm), vs = [.ref x] ∧ SunO K CS CM H x s ls lp ts ∧ Sm s ∧ ∀ H', Same H H' → Q (.str (txt (calT (.sun s ls lp ts)))) H'
def spShowM (K : PySem.W.Frag) (CO CM : Addr) : Sp := fun vs H Q _ => ∃ (x : Addr) (s bd : Int) (td : List Tm) (bm : Int) (tm : List Tm), vs = [.ref x] ∧ MoonO K CO CM H x s bd td bm tm ∧ Sm s ∧ ∀ H', Same H H' → Q (.str (txt (calT (.moon s bd td bm tm)))) H'
theorem lens_sm {ls : List Int} (h : ∀ n ∈ ls, 0 ≤ n ∧ n ≤ 1000) : ∀ n ∈ ls, Sm n := fun n hn => sm_of (by have := h n hn; omega) (by have := h n hn; omega)
theorem lensT_len {ls : List Int} (h : ∀ n ∈ ls, 0 ≤ n ∧ n ≤ 1000) (l : ls.length ≤ 20) : (joinC 44 (ls.map numT)).length ≤ 1240 := by
  have := joinC_len 44 61 (ws := ls.map numT) fun w hw => by
    obtain ⟨n, hn, rfl⟩ := List.mem_map.mp hw
    exact num_len (lens_sm h n hn)
  rw [List.length_map] at this
  omega
/-- how long the words of a calendar are at most -/
theorem calW_len {d : CalD} (g : d.good) (s : Sm d.st) : (∀ w ∈ calW d, w.length ≤ 1240) ∧ (calW d).length ≤ 20 := by
  cases d with
  | sun s0 ls lp ts =>
    have g' : GoodS ls lp ts := g
    have few := g'.few
    have p0 := g'.p0
    have p1 := g'.p1
    have l1 := g'.l1
    have slp : Sm lp := sm_of (by omega) (by omega)
    have s' : Sm s0 := s
    refine ⟨fun w hw => ?_, ?_⟩
    · have hw : w ∈ [115, 117, 110] :: sunWs s0 ls lp ts := hw
      unfold sunWs at hw
      rcases List.mem_cons.mp hw with rfl | hw
      · decide
      rcases List.mem_cons.mp hw with rfl | hw
      · exact Nat.le_trans (num_len s') (by decide)
      rcases List.mem_cons.mp hw with rfl | hw
      · exact lensT_len g'.m l1
      by_cases c : ts = []
      · rw [if_pos c] at hw
        cases hw
      · rw [if_neg c] at hw
        rcases List.mem_cons.mp hw with rfl | hw
        · decide
        rcases List.mem_cons.mp hw with rfl | hw
        · exact Nat.le_trans (num_len slp) (by decide)
        · obtain ⟨t, ht, rfl⟩ := List.mem_map.mp hw
          exact Nat.le_trans (tmW_len (g'.ok t ht)) (by decide)
    · show ([115, 117, 110] :: sunWs s0 ls lp ts).length ≤ 20
      unfold sunWs
      by_cases c : ts = []
      · rw [if_pos c]
        show 3 ≤ 20
        decide
      · rw [if_neg c]
        simp only [List.length_cons, List.length_map]
        omega
  | moon s0 bd td bm tm =>
    have g' : GoodMo bd td bm tm := g
    have f1 := g'.fwd
    have f2 := g'.fwm
    have n1 := falls_nn (ts := td)
    have n2 := falls_nn (ts := tm)
    have h1 := g'.fd
    have h2 := g'.fm
    have h3 := g'.gd
    have h4 := g'.gm
    have s' : Sm s0 := s
    refine ⟨fun w hw => ?_, ?_⟩
    · have hw : w ∈ [109, 111, 111, 110] :: moonWs s0 bd td bm tm := hw
      unfold moonWs at hw
      rcases List.mem_cons.mp hw with rfl | hw
      · decide
      rcases List.mem_cons.mp hw with rfl | hw
      · exact Nat.le_trans (num_len s') (by decide)
      rcases List.mem_cons.mp hw with rfl | hw
      · exact Nat.le_trans (num_len (sm_of (by omega) (by omega))) (by decide)
      rcases List.mem_append.mp hw with hw | hw
      · obtain ⟨t, ht, rfl⟩ := List.mem_map.mp hw
        exact Nat.le_trans (tmW_len (g'.okd t ht)) (by decide)
      rcases List.mem_cons.mp hw with rfl | hw
      · decide
      rcases List.mem_cons.mp hw with rfl | hw
      · exact Nat.le_trans (num_len (sm_of (by omega) (by omega))) (by decide)
      · obtain ⟨t, ht, rfl⟩ := List.mem_map.mp hw
        exact Nat.le_trans (tmW_len (g'.okm t ht)) (by decide)
    · show ([109, 111, 111, 110] :: moonWs s0 bd td bm tm).length ≤ 20
      unfold moonWs
      simp only [List.length_cons, List.length_map, List.length_append]
      omega
theorem join_fit {d : CalD} (g : d.good) (s : Sm d.st) : (((calW d).map txt).map (·.length)).sum + ((calW d).map txt).length * (Str.ofString " ").length ≤ 16777216 := by
  obtain ⟨h1, h2⟩ := calW_len g s
  have e1 : (Str.ofString " ").length = 1 := by decide +kernel
  have := sum_lens (k := 1240) (zs := (calW d).map txt) fun z hz => by
    obtain ⟨w, hw, rfl⟩ := List.mem_map.mp hz
    rw [txt_len]
    exact h1 w hw
  rw [List.length_map] at this
  rw [e1, List.length_map]
  omega
theorem at_n0 {α : Type} {a : α} {l : List α} : atI (a :: l) 0 = some a := atI_nat (j := 0) rfl
theorem at_n1 {α : Type} {a b : α} {l : List α} : atI (a :: b :: l) 1 = some b := atI_nat (j := 1) rfl
theorem at_n2 {α : Type} {a b c : α} {l : List α} : atI (a :: b :: c :: l) 2 = some c := atI_nat (j := 2) rfl
theorem at_n3 {α : Type} {a b c d : α} {l : List α} : atI (a :: b :: c :: d :: l) 3 = some d := atI_nat (j := 3) rfl
def spReadNs (K : PySem.W.Frag) : Sp := fun vs H Q _ => ∃ (ns : List Int), vs = [.str (txt (joinC 44 (ns.map numT)))] ∧ ns ≠ [] ∧ ns.length ≤ 100 ∧ (∀ n ∈ ns, Sm n) ∧ ∀ (l : Addr) H', H l = none → Same H H' → H' l = some (.lst (ns.map V.int)) → Q (.ref l) H'
def spReadT (K : PySem.W.Frag) : Sp := fun vs H Q _ => ∃ (t : Tm), vs = [.str (txt (tmW t))] ∧ OkT t ∧ ∀ (p : Addr) H', Same H H' → H' p = some (.tup (tmV t)) → Q (.ref p) H'
def spReadTs (K : PySem.W.Frag) : Sp := fun vs H Q _ => ∃ (l : Addr) (ts : List Tm), vs = [.ref l] ∧ H l = some (.lst (wV (ts.map tmW))) ∧ (∀ t ∈ ts, OkT t) ∧ ts.length ≤ 6 ∧ ∀ (l' : Addr) (us : List V) H', Same H H' → TmL K H' l' us ts → Q (.ref l') H'
def spReadS (K : PySem.W.Frag) (CS CM : Addr) : Sp := fun vs H Q _ => ∃ (l : Addr) (s : Int) (ls : List Int) (lp : Int) (ts : List Tm), vs = [.ref l] ∧ H l = some (.lst (wV (sunWs s ls lp ts))) ∧ GoodS ls lp ts ∧ Sm s ∧ Bt 290 s ∧ ∀ (x : Addr) (lp' : Int) H', Same H H' → SunO K CS CM H' x s ls lp' ts → (ts = [] → lp' = 1) → (ts ≠ [] → lp' = lp) → Q (.ref x) H'
def spReadM (K : PySem.W.Frag) (CO CM : Addr) : Sp := fun vs H Q _ => ∃ (l : Addr) (s bd : Int) (td : List Tm) (bm : Int) (tm : List Tm), vs = [.ref l] ∧ H l = some (.lst (wV (moonWs s bd td bm tm))) ∧ GoodMo bd td bm tm ∧ Sm s ∧ Bt 290 s ∧ ∀ (x : Addr) H', Same H H' → MoonO K CO CM H' x s bd td bm tm → Q (.ref x) H'
def spReadC (K : PySem.W.Frag) (CS CO CM : Addr) : Sp := fun vs H Q _ => ∃ (d : CalD), vs = [.str (txt (calT d))] ∧ d.good ∧ Sm d.st ∧ Bt 290 d.st ∧ ∀ (x : Addr) H', Same H H' → CalO K CS CO CM H' x (nrm d) → Q (.ref x) H'
def spReadable : Sp := fun vs H Q _ => ∃ z : Str, vs = [.str z] ∧ TOk z ∧ z.length ≤ 4000 ∧ Q (.bl true) H
theorem splS_join (c : Nat) {w : List Nat} {ws : List (List Nat)} (h : ∀ x ∈ w :: ws, c ∉ x) : splS c (txt (joinC c (w :: ws))) = (w :: ws).map txt := by
  unfold splS
  have : spl c (cps (txt (joinC c (w :: ws)))) = w :: ws := spl_joinC c w ws h
  rw [this]
  rfl
theorem not44 {i : Int} (h : Sm i) : 44 ∉ numT i := fun z => by
  have := num_ch h 44 z
  omega
theorem nums_split {ns : List Int} (hn : ns ≠ []) (h : ∀ n ∈ ns, Sm n) : splS 44 (txt (joinC 44 (ns.map numT))) = ns.map intT := by
  cases ns with
  | nil => exact absurd rfl hn
  | cons a r =>
    rw [List.map_cons, splS_join 44 fun x hx => by
      rw [← List.map_cons (f := numT)] at hx
      obtain ⟨n, hn, rfl⟩ := List.mem_map.mp hx
      exact not44 (h n hn)]
    rw [← List.map_cons (f := numT), List.map_map]
    exact List.map_congr_left fun n _ => txt_num n
theorem calW_ch {d : CalD} (g : d.good) (s : Sm d.st) : ∀ w ∈ calW d, ∀ a ∈ w, wch a := by
  cases d with
  | sun s0 ls lp ts =>
    have g' : GoodS ls lp ts := g
    have p0 := g'.p0
    have p1 := g'.p1
    have l1 := g'.l1
    have slp : Sm lp := sm_of (by omega) (by omega)
    have s' : Sm s0 := s
    intro w hw
    have hw : w ∈ [115, 117, 110] :: sunWs s0 ls lp ts := hw
    unfold sunWs at hw
    rcases List.mem_cons.mp hw with rfl | hw
    · unfold wch; decide
    rcases List.mem_cons.mp hw with rfl | hw
    · exact num_w s'
    rcases List.mem_cons.mp hw with rfl | hw
    · refine joinC_ch (P := wch) (by unfold wch; omega) fun w hw => ?_
      obtain ⟨n, hn, rfl⟩ := List.mem_map.mp hw
      exact num_w (lens_sm g'.m n hn)
    by_cases c : ts = []
    · rw [if_pos c] at hw
      cases hw
    · rw [if_neg c] at hw
      rcases List.mem_cons.mp hw with rfl | hw
      · unfold wch; decide
      rcases List.mem_cons.mp hw with rfl | hw
      · exact num_w slp
      · obtain ⟨t, ht, rfl⟩ := List.mem_map.mp hw
        exact tmW_w (g'.ok t ht)
  | moon s0 bd td bm tm =>
    have g' : GoodMo bd td bm tm := g
    have n1 := falls_nn (ts := td)
    have n2 := falls_nn (ts := tm)
    have h1 := g'.fd
    have h2 := g'.fm
    have h3 := g'.gd
    have h4 := g'.gm
    have s' : Sm s0 := s
    intro w hw
    have hw : w ∈ [109, 111, 111, 110] :: moonWs s0 bd td bm tm := hw
    unfold moonWs at hw
    rcases List.mem_cons.mp hw with rfl | hw
    · unfold wch; decide
    rcases List.mem_cons.mp hw with rfl | hw
    · exact num_w s'
    rcases List.mem_cons.mp hw with rfl | hw
    · exact num_w (sm_of (by omega) (by omega))
    rcases List.mem_append.mp hw with hw | hw
    · obtain ⟨t, ht, rfl⟩ := List.mem_map.mp hw
      exact tmW_w (g'.okd t ht)
    rcases List.mem_cons.mp hw with rfl | hw
    · unfold wch; decide
    rcases List.mem_cons.mp hw with rfl | hw
    · exact num_w (sm_of (by omega) (by omega))
    · obtain ⟨t, ht, rfl⟩ := List.mem_map.mp hw
      exact tmW_w (g'.okm t ht)
theorem calT_split {d : CalD} (g : d.good) (s : Sm d.st) : splS 32 (txt (calT d)) = (calW d).map txt := by
  have h := calW_ch g s
  unfold calT
  cases hw : calW d with
  | nil => cases d <;> cases hw
  | cons w ws =>
    rw [hw] at h
    exact splS_join 32 fun x hx z => by
      have := h x hx 32 z
      unfold wch at this
      omega
theorem flat_len (c k : Nat) : ∀ {ws : List (List Nat)}, (∀ w ∈ ws, w.length ≤ k) → ((ws.map (c :: ·)).flatten).length ≤ ws.length * (k + 1)
  | [], _ => Nat.zero_le _
  | w :: ws, h => by
    have a := h w List.mem_cons_self
    have b := flat_len c k (ws := ws) fun x hx => h x (List.mem_cons_of_mem _ hx)
    rw [List.map_cons, List.flatten_cons, List.length_append, List.length_cons, List.length_cons (as := ws), Nat.succ_mul]
    omega
theorem flat_app (c : Nat) (a b : List (List Nat)) : ((a ++ b).map (c :: ·)).flatten = (a.map (c :: ·)).flatten ++ (b.map (c :: ·)).flatten := by rw [List.map_append, List.flatten_append]
theorem tms_len {ts : List Tm} (ok : ∀ t ∈ ts, OkT t) (few : ts.length ≤ 6) : (((ts.map tmW).map ((32 : Nat) :: ·)).flatten).length ≤ 1128 := by
  have := flat_len 32 187 (ws := ts.map tmW) fun w hw => by
    obtain ⟨t, ht, rfl⟩ := List.mem_map.mp hw
    exact tmW_len (ok t ht)
  rw [List.length_map] at this
  omega
theorem calT_len {d : CalD} (g : d.good) (s : Sm d.st) : (calT d).length ≤ 4000 := by
  cases d with
  | sun s0 ls lp ts =>
    have g' : GoodS ls lp ts := g
    have p0 := g'.p0
    have p1 := g'.p1
    have l1 := g'.l1
    have a := num_len (i := lp) (sm_of (by omega) (by omega))
    have b := num_len (i := s0) s
    have c := lensT_len g'.m l1
    have e := tms_len g'.ok g'.few
    show (joinC 32 ([115, 117, 110] :: sunWs s0 ls lp ts)).length ≤ 4000
    unfold sunWs
    by_cases z : ts = []
    · rw [if_pos z]
      show ([115, 117, 110] ++ ((32 :: numT s0) ++ ((32 :: joinC 44 (ls.map numT)) ++ []))).length ≤ 4000
      simp only [List.length_append, List.length_cons, List.length_nil]
      omega
    · rw [if_neg z]
      show ([115, 117, 110] ++ ((32 :: numT s0) ++ ((32 :: joinC 44 (ls.map numT)) ++ ((32 :: [108, 101, 97, 112]) ++ ((32 :: numT lp) ++ ((ts.map tmW).map (32 :: ·)).flatten))))).length ≤ 4000
      simp only [List.length_append, List.length_cons, List.length_nil]
      omega
  | moon s0 bd td bm tm =>
    have g' : GoodMo bd td bm tm := g
    have n1 := falls_nn (ts := td)
    have n2 := falls_nn (ts := tm)
    have h1 := g'.fd
    have h2 := g'.fm
    have h3 := g'.gd
    have h4 := g'.gm
    have a := num_len (i := bd) (sm_of (by omega) (by omega))
    have b := num_len (i := s0) s
    have c := num_len (i := bm) (sm_of (by omega) (by omega))
    have e := tms_len g'.okd g'.fwd
    have f := tms_len g'.okm g'.fwm
    have eq : joinC 32 ([109, 111, 111, 110] :: moonWs s0 bd td bm tm) = [109, 111, 111, 110] ++ ((32 :: numT s0) ++ ((32 :: numT bd) ++ (((td.map tmW).map (32 :: ·)).flatten ++ ((32 :: [47]) ++ ((32 :: numT bm) ++ ((tm.map tmW).map (32 :: ·)).flatten))))) := by
      show [109, 111, 111, 110] ++ ((moonWs s0 bd td bm tm).map (32 :: ·)).flatten = _
      unfold moonWs
      rw [List.map_cons, List.flatten_cons, List.map_cons, List.flatten_cons, flat_app]
      rfl
    show (joinC 32 ([109, 111, 111, 110] :: moonWs s0 bd td bm tm)).length ≤ 4000
    rw [eq]
    simp only [List.length_append, List.length_cons, List.length_nil]
    omega
def spTermTextL (K : PySem.W.Frag) : Sp := fun vs H Q _ => ∃ (p : Addr) (t : Tm), vs = [.ref p] ∧ SqT K H p (tmV t) ∧ OkT t ∧ ∀ H', Same H H' → Q (.str (txt (32 :: tmW t))) H'
def flatT (ts : List Tm) : List Nat := ((ts.map tmW).map (32 :: ·)).flatten
def spTermsTextL (K : PySem.W.Frag) : Sp := fun vs H Q _ => ∃ (l : Addr) (us : List V) (ts : List Tm), vs = [.ref l] ∧ TmL K H l us ts ∧ ∀ H', Same H H' → Q (.str (txt (flatT ts))) H'
def spMade72 (K : PySem.W.Frag) (CS CO CM : Addr) (b : Bool) : Sp := fun vs H Q _ => ∃ (a : Addr) (ns : List Int) (st : Int), vs = [.ref a, .int st] ∧ SqL K H a (ns.map V.int) ∧ ns.length ≤ 63 ∧ Bt 200 st ∧ Sm st ∧ ∀ (p x : Addr) (d : CalD) (H' : Hp), Same H H' → H' p = some (.tup [.ref x, .str (txt (calT d))]) → CalO K CS CO CM H' x d → isSun d = b → d.st = st → Q (.ref p) H'
def spAlike72 (K : PySem.W.Frag) (CS CO CM : Addr) : Sp := fun vs H Q _ => ∃ (x y : Addr) (n : Int) (d e : CalD), vs = [.ref x, .ref y, .int n] ∧ CalO K CS CO CM H x d ∧ CalO K CS CO CM H y e ∧ Like d e ∧ Bt 290 n ∧ ∀ H', Same H H' → Q (.bl true) H'
theorem cpl_addT (a b : List Nat) : (txt a ++ txt b) = txt (a ++ b) := str_ext (by rw [cpl_app]; rfl)
theorem calT_sun0 (s : Int) (ls : List Int) (lp : Int) : calT (.sun s ls lp []) = [115, 117, 110, 32] ++ numT s ++ [32] ++ joinC 44 (ls.map numT) := by
  show [115, 117, 110] ++ ((32 :: numT s) ++ ((32 :: joinC 44 (ls.map numT)) ++ [])) = _
  simp
theorem calT_sun1 (s : Int) (ls : List Int) (lp : Int) {ts : List Tm} (c : ts ≠ []) : calT (.sun s ls lp ts) = [115, 117, 110, 32] ++ numT s ++ [32] ++ joinC 44 (ls.map numT) ++ [32, 108, 101, 97, 112, 32] ++ numT lp ++ flatT ts := by
  show joinC 32 ([115, 117, 110] :: sunWs s ls lp ts) = _
  unfold sunWs
  rw [if_neg c]
  show [115, 117, 110] ++ ((32 :: numT s) ++ ((32 :: joinC 44 (ls.map numT)) ++ ((32 :: [108, 101, 97, 112]) ++ ((32 :: numT lp) ++ flatT ts)))) = _
  simp
theorem calT_moon (s bd : Int) (td : List Tm) (bm : Int) (tm : List Tm) : calT (.moon s bd td bm tm) = [109, 111, 111, 110, 32] ++ numT s ++ [32] ++ numT bd ++ flatT td ++ [32, 47, 32] ++ numT bm ++ flatT tm := by
  show [109, 111, 111, 110] ++ ((moonWs s bd td bm tm).map (32 :: ·)).flatten = _
  unfold moonWs
  rw [List.map_cons, List.flatten_cons, List.map_cons, List.flatten_cons, flat_app]
  show [109, 111, 111, 110] ++ ((32 :: numT s) ++ ((32 :: numT bd) ++ (flatT td ++ ((32 :: [47]) ++ ((32 :: numT bm) ++ flatT tm))))) = _
  simp
theorem calT_nrm (d : CalD) : calT (nrm d) = calT d := by
  cases d with
  | sun s ls lp ts =>
    by_cases c : ts = []
    · subst c
      rw [calT_sun0]
      exact calT_sun0 s ls 1
    · show calT (if ts = [] then .sun s ls 1 [] else .sun s ls lp ts) = _
      rw [if_neg c]
  | moon s bd td bm tm => rfl
theorem isSun_nrm (d : CalD) : isSun (nrm d) = isSun d := by
  cases d with
  | sun s ls lp ts =>
    show isSun (if ts = [] then .sun s ls 1 [] else .sun s ls lp ts) = true
    split <;> rfl
  | moon s bd td bm tm => rfl
theorem st_nrm (d : CalD) : (nrm d).st = d.st := by
  cases d with
  | sun s ls lp ts =>
    show (if ts = [] then CalD.sun s ls 1 [] else .sun s ls lp ts).st = s
    split <;> rfl
  | moon s bd td bm tm => rfl
theorem flatT_len {ts : List Tm} (ok : ∀ t ∈ ts, OkT t) (few : ts.length ≤ 6) : (flatT ts).length ≤ 1128 := tms_len ok few
/-- a calendar that tells what d tells, and is shown as d is -/
structure Twin (K : PySem.W.Frag) (CS CO CM : Addr) (H : Hp) (x : Addr) (d : CalD) : Prop where
  ex : ∃ e, CalO K CS CO CM H x e ∧ Like d e ∧ calT e = calT d ∧ isSun e = isSun d ∧ Sm e.st
theorem Twin.same {K : PySem.W.Frag} {CS CO CM : Addr} {H H' : Hp} {x : Addr} {d : CalD} (T : Twin K CS CO CM H x d) (s : Same H H') : Twin K CS CO CM H' x d := by
  obtain ⟨e, h1, h2⟩ := T.ex
  exact ⟨e, CalO.same h1 s, h2⟩
theorem CalO.show {K : PySem.W.Frag} {CS CO CM : Addr} {H : Hp} {x : Addr} {d : CalD} (S : CalO K CS CO CM H x d) (sm : Sm d.st) : ∃ C dx fs sp, (C, sp) ∈ [(CS, spShowS K CS CM), (CO, spShowM K CO CM)] ∧ H x = some (.ins C dx fs) ∧ fs.lookup (Str.ofString "shown") = none ∧
    ∀ {H2 : Hp} {Q : VK} {E : XK}, CalO K CS CO CM H2 x d → (∀ H', Same H2 H' → Q (.str (txt (calT d))) H') → sp [.ref x] H2 Q E := by
  cases d with
  | sun s ls lp ts =>
    obtain ⟨dx, p, y, e, _⟩ := SunO.ex S
    exact ⟨CS, dx, _, _, List.mem_cons_self, e, rfl, fun S2 q => ⟨x, s, ls, lp, ts, rfl, S2, sm, q⟩⟩
  | moon s bd td bm tm =>
    obtain ⟨dx, p, y, e, _⟩ := MoonO.ex S
    exact ⟨CO, dx, _, _, List.mem_cons_of_mem _ List.mem_cons_self, e, rfl, fun S2 q => ⟨x, s, bd, td, bm, tm, rfl, S2, sm, q⟩⟩
theorem Like.refl (d : CalD) : Like d d := ⟨fun _ => rfl, fun _ => rfl, rfl⟩
structure Errs (K : PySem.W.Frag) (mg : Str → Option Value) (c_FeastError c_NoNumber c_NoMeasure c_NoDate c_NoText c_Measure c_Calendar c_Sun c_Moon : Addr) : Prop where
  cl_Measure : Cls K c_Measure
  na_Measure_base : NoAttr K c_Measure "base"
  na_Measure_terms : NoAttr K c_Measure "terms"
  na_Measure_full_count : NoAttr K c_Measure "full_count"
  na_Measure_full_sum : NoAttr K c_Measure "full_sum"
  m_Sun : mg "Sun" = some (.ref c_Sun)
  cl_Sun : Cls K c_Sun
  na_Sun_start : NoAttr K c_Sun "start"
  na_Sun_months : NoAttr K c_Sun "months"
  na_Sun_leap : NoAttr K c_Sun "leap"
  na_Sun_years : NoAttr K c_Sun "years"
  m_Moon : mg "Moon" = some (.ref c_Moon)
  cl_Moon : Cls K c_Moon
  na_Moon_start : NoAttr K c_Moon "start"
  na_Moon_days : NoAttr K c_Moon "days"
  na_Moon_many : NoAttr K c_Moon "many"
  m_Calendar : mg "Calendar" = some (.ref c_Calendar)
  is_Sun_Calendar : PySem.W.kitOne K (.ref c_Sun) (.ref c_Calendar) = some true
  kc_Sun : PySem.W.findIn K (.ref c_Sun) "__class__" = some (some (.builtin "object.__class__"))
  ko_Sun : PySem.W.mroIn K c_Sun (.type "object") = some true
  ksp : PySem.W.specialIn K (.builtin "object.__class__") "__get__" = some (some (.builtin "getset_descriptor.__get__"))
  ktk : PySem.W.takesIn K (.builtin "object.__class__") = some true
  is_Sun_Sun : PySem.W.kitOne K (.ref c_Sun) (.ref c_Sun) = some true
  is_Sun_Moon : PySem.W.kitOne K (.ref c_Sun) (.ref c_Moon) = some false
  is_Moon_Calendar : PySem.W.kitOne K (.ref c_Moon) (.ref c_Calendar) = some true
  kc_Moon : PySem.W.findIn K (.ref c_Moon) "__class__" = some (some (.builtin "object.__class__"))
  ko_Moon : PySem.W.mroIn K c_Moon (.type "object") = some true
  is_Moon_Sun : PySem.W.kitOne K (.ref c_Moon) (.ref c_Sun) = some false
  is_Moon_Moon : PySem.W.kitOne K (.ref c_Moon) (.ref c_Moon) = some true
section
variable {P : Program} {w : World} {K : PySem.W.Frag} {mg : Str → Option Value} {base : Heap}
variable {c_FeastError c_NoNumber c_NoMeasure c_NoDate c_NoText c_Measure c_Calendar c_Sun c_Moon : Addr}
theorem sc_refuse_below_one : FnScope ["number"] ["number"] (defScope s_refuse_below_one) := ⟨rfl, rfl, rfl, by decide +kernel, rfl, by decide +kernel, by decide +kernel⟩
theorem ok_refuse_below_one {f : Addr} {fd : FuncData} (F : Fun K "refuse_below_one" "refuse_below_one" s_refuse_below_one f fd) : FnOk P w K mg base CX0 1 f fd ["number"] spRefuse := by
  refine F.ok (k := 0) sc_refuse_below_one (fun vs H Q E h => ?_) (fun cdv A outer s H vs Q E hr h => ?_)
  · obtain ⟨n, rfl, _⟩ := h
    rfl
  obtain ⟨n, rfl, hn, q⟩ := h
  refine ⟨_, (pss_one (ps_if (pt_cmpR op_lt (pv 0) pe_int (nomark _))
        (pss_one ps_never)
        pss_nil)), ?_⟩
  walk_at "rd"
  refine iteN (by omega) ?_
  walk_at "rd"
  exact q
theorem sc_equation : FnScope ["one", "other", "row", "below", "times", "rest"] ["one", "other"] (defScope s_equation) := ⟨rfl, rfl, rfl, by decide +kernel, rfl, by decide +kernel, by decide +kernel⟩
theorem ok_equation {f : Addr} {fd : FuncData} (F : Fun K "equation" "equation" s_equation f fd) : FnOk P w K mg base CX0 1 f fd ["one", "other"] spEq := by
  refine F.ok (k := 0) sc_equation (fun vs H Q E h => ?_) (fun cdv A outer s H vs Q E hr h => ?_)
  · obtain ⟨a, b, rfl, _⟩ := h
    rfl
  obtain ⟨a, b, rfl, ha, hb, q⟩ := h
  refine ⟨_, (pss_cons (ps_set (i := 2) sc_equation.nd rfl (by first | exact Or.inl rfl | exact Or.inr rfl) (pe_tup (pa_cons pe_int (pa_cons pe_int (pa_cons (pv 0) pa_nil)))))
      (pss_cons (ps_set (i := 3) sc_equation.nd rfl (by first | exact Or.inl rfl | exact Or.inr rfl) (pe_tup (pa_cons pe_int (pa_cons pe_int (pa_cons (pv 1) pa_nil)))))
      (pss_cons (ps_while PassesOwn.never (pt_cmpR op_ne (pe_ix ix_tup (pv 3) pe_int (fun _ _ => rfl)) pe_int (nomark _))
        (pss_cons (ps_set (i := 4) sc_equation.nd rfl (by first | exact Or.inl rfl | exact Or.inr rfl) (pe_op op_fdivF (pe_ix ix_tup (pv 2) pe_int (fun _ _ => rfl)) (pe_ix ix_tup (pv 3) pe_int (fun _ _ => rfl))))
      (pss_cons (ps_set (i := 5) sc_equation.nd rfl (by first | exact Or.inl rfl | exact Or.inr rfl) (pe_tup (pa_cons (pe_op op_sub (pe_ix ix_tup (pv 2) pe_int (fun _ _ => rfl)) (pe_op op_mulB (pv 4) (pe_ix ix_tup (pv 3) pe_int (fun _ _ => rfl)))) (pa_cons (pe_op op_sub (pe_ix ix_tup (pv 2) pe_int (fun _ _ => rfl)) (pe_op op_mulB (pv 4) (pe_ix ix_tup (pv 3) pe_int (fun _ _ => rfl)))) (pa_cons (pe_op op_sub (pe_ix ix_tup (pv 2) pe_int (fun _ _ => rfl)) (pe_op op_mulB (pv 4) (pe_ix ix_tup (pv 3) pe_int (fun _ _ => rfl)))) pa_nil)))))
      (pss_cons (ps_set (i := 2) sc_equation.nd rfl (by first | exact Or.inl rfl | exact Or.inr rfl) (pv 3))
      (pss_one (ps_set (i := 3) sc_equation.nd rfl (by first | exact Or.inl rfl | exact Or.inr rfl) (pv 5)))))))
      (pss_cons (ps_if (pt_cmpR op_lt (pe_ix ix_tup (pv 2) pe_int (fun _ _ => rfl)) pe_int (nomark _))
        (pss_one (ps_ret (pe_tup (pa_cons (pe_un un_neg (pe_ix ix_tup (pv 2) pe_int (fun _ _ => rfl))) (pa_cons (pe_un un_neg (pe_ix ix_tup (pv 2) pe_int (fun _ _ => rfl))) (pa_cons (pe_un un_neg (pe_ix ix_tup (pv 2) pe_int (fun _ _ => rfl))) pa_nil))))))
        pss_nil)
      (pss_one (ps_ret (pv 2))))))), ?_⟩
  walk_at "rd"
  refine ⟨three, fun p1 hp1 => ?_⟩
  walk_at "rd"
  refine ⟨three, fun p2 hp2 => ?_⟩
  walk_at "rd"
  have n12 : p1 ≠ p2 := fun z => by rw [← z, upd_same] at hp2; cases hp2
  refine ⟨fun m σ' H' => ∃ (pr pb : Addr) (u v r u' v' r' : Int) (t1 t2 : Option V), σ' = [some (.int a), some (.int b), some (.ref pr), some (.ref pb), t1, t2] ∧ Same H H' ∧
      H' pr = some (.tup [.int u, .int v, .int r]) ∧ H' pb = some (.tup [.int u', .int v', .int r']) ∧ EqI a b u v r u' v' r' ∧ m = r'.natAbs,
    ⟨_, p1, p2, 1, 0, a, 0, 1, b, none, none, rfl, (same_new hp1 _).trans (same_new hp2 _), by rw [upd_ne n12]; exact upd_same, upd_same, EqI.start a b, rfl⟩, ?_⟩
  rintro m σ' H' ⟨pr, pb, u, v, r, u', v', r', t1, t2, rfl, sm, hpr, hpb, I, rfl⟩
  have B := I.bounds
  have br := bt_le2 (m := 510) ha hb (show r.natAbs ≤ a.natAbs + b.natAbs + 4 by omega) (by decide)
  have br' := bt_le (m := 510) hb (show r'.natAbs ≤ 4 * b.natAbs + 4 by omega) (by decide)
  have bu' := bt_le (m := 510) hb (show u'.natAbs ≤ 4 * b.natAbs + 4 by omega) (by decide)
  have bv' := bt_le (m := 510) ha (show v'.natAbs ≤ 4 * a.natAbs + 4 by omega) (by decide)
  walk_at "rd"
  refine rd_ixT (SqT.of hpb) at32 ?_
  walk_at "rd"
  by_cases hz : r' = 0
  · subst hz
    refine iteNS rfl ?_
    have D := I.done
    walk_at "rd"
    refine rd_ixT (SqT.of hpr) at32 ?_
    walk_at "rd"
    refine ite2d (fun c => ?_) (fun c => ?_)
    · walk_at "rd"
      refine rd_ixT (SqT.of hpr) at30 ?_
      walk_at "rd"
      refine rd_ixT (SqT.of hpr) at31 ?_
      walk_at "rd"
      refine rd_ixT (SqT.of hpr) at32 ?_
      walk_at "rd"
      refine ⟨three, fun p hp => ?_⟩
      exact q p _ _ _ _ (sm.trans (same_new hp _)) upd_same (D.1 c)
    · walk_at "rd"
      exact q pr _ _ _ _ sm hpr (D.2 c)
  · refine iteNN (fun z => hz (V.int.inj z)) ?_
    refine ⟨_, fun σ' H' hh => hh, ?_⟩
    have St := I.step hz
    have bq := bt_le (m := 520) br (show (r.fdiv r').natAbs ≤ 4 * r.natAbs + 4 by have := quot_bound (r := r) hz; omega) (by decide)
    walk_at "rd"
    refine rd_ixT (SqT.of hpr) at32 ?_
    walk_at "rd"
    refine rd_ixT (SqT.of hpb) at32 ?_
    refine rd_i ⟨hz, br'.mono (by decide)⟩ ?_
    walk_at "rd"
    refine rd_ixT (SqT.of hpr) at30 ?_
    walk_at "rd"
    refine rd_ixT (SqT.of hpb) at30 ?_
    refine rd_i ⟨520, 510, bq, bu', by decide⟩ ?_
    walk_at "rd"
    refine rd_ixT (SqT.of hpr) at31 ?_
    walk_at "rd"
    refine rd_ixT (SqT.of hpb) at31 ?_
    refine rd_i ⟨520, 510, bq, bv', by decide⟩ ?_
    walk_at "rd"
    refine rd_ixT (SqT.of hpr) at32 ?_
    walk_at "rd"
    refine rd_ixT (SqT.of hpb) at32 ?_
    refine rd_i ⟨520, 510, bq, br', by decide⟩ ?_
    walk_at "rd"
    refine ⟨three, fun p hp => ?_⟩
    walk_at "rd"
    exact ⟨_, St.2, pb, p, u', v', r', _, _, _, _, _, rfl, sm.trans (same_new hp _), (same_new hp _) _ _ hpb, upd_same, St.1, rfl⟩
theorem sc_divisor : FnScope ["one", "other"] ["one", "other"] (defScope s_divisor) := ⟨rfl, rfl, rfl, by decide +kernel, rfl, by decide +kernel, by decide +kernel⟩
theorem ok_divisor {f : Addr} {fd : FuncData} (F : Fun K "divisor" "divisor" s_divisor f fd) (c_equation : Cal P w K mg base 1 "equation" ["one", "other"] spEq) : FnOk P w K mg base CX0 2 f fd ["one", "other"] spDivisor := by
  refine F.ok (k := 1) sc_divisor (fun vs H Q E h => ?_) (fun cdv A outer s H vs Q E hr h => ?_)
  · obtain ⟨a, b, rfl, _⟩ := h
    rfl
  obtain ⟨a, b, rfl, ha, hb, q⟩ := h
  refine ⟨_, (pss_one (ps_ret (pe_ix ix_tup (pe_cal c_equation (hr.mono (by decide)) rfl (pa_cons (pv 0) (pa_cons (pv 1) pa_nil))) pe_int (fun _ _ => rfl)))), ?_⟩
  walk_at "rd"
  refine ⟨a, b, rfl, ha, hb, fun p u v g H' sm hp e => ?_⟩
  walk_at "rd"
  refine rd_ixT (SqT.of hp) at32 ?_
  rw [e.gd]
  exact q _ sm
theorem sc_common : FnScope ["one", "other"] ["one", "other"] (defScope s_common) := ⟨rfl, rfl, rfl, by decide +kernel, rfl, by decide +kernel, by decide +kernel⟩
theorem ok_common {f : Addr} {fd : FuncData} (F : Fun K "common" "common" s_common f fd) (c_refuse_below_one : Cal P w K mg base 1 "refuse_below_one" ["number"] spRefuse) (c_divisor : Cal P w K mg base 2 "divisor" ["one", "other"] spDivisor) : FnOk P w K mg base CX0 3 f fd ["one", "other"] spCommon := by
  refine F.ok (k := 2) sc_common (fun vs H Q E h => ?_) (fun cdv A outer s H vs Q E hr h => ?_)
  · obtain ⟨a, b, rfl, _⟩ := h
    rfl
  obtain ⟨a, b, rfl, a0, b0, ha, hb, q⟩ := h
  refine ⟨_, (pss_cons (ps_expr (pe_cal c_refuse_below_one (hr.mono (by decide)) rfl (pa_cons (pv 0) pa_nil)))
      (pss_cons (ps_expr (pe_cal c_refuse_below_one (hr.mono (by decide)) rfl (pa_cons (pv 1) pa_nil)))
      (pss_one (ps_ret (pe_op op_mulB (pe_op op_fdivB (pv 0) (pe_cal c_divisor (hr.mono (by decide)) rfl (pa_cons (pv 0) (pa_cons (pv 1) pa_nil)))) (pv 1)))))), ?_⟩
  walk_at "rd"
  refine ⟨a, rfl, by omega, ?_⟩
  walk_at "rd"
  refine ⟨b, rfl, by omega, ?_⟩
  walk_at "rd"
  refine ⟨a, b, rfl, ha, hb, fun H' sm => ?_⟩
  have g0 := gcd_pos (b := b) a0
  have g1 := gcd_le (b := b) a0
  refine rd_i ⟨g0, (ha.le (x := (Int.gcd a b : Int)) (by omega)).mono (by decide)⟩ ?_
  walk_at "rd"
  have d0 : 0 ≤ a / (Int.gcd a b : Int) := Int.ediv_nonneg (by omega) (by omega)
  have d1 : a / (Int.gcd a b : Int) ≤ a := Int.ediv_le_self _ (by omega)
  refine rd_i ⟨500, 500, ha.le (by omega), hb, by decide⟩ ?_
  exact q _ sm
theorem sc_term_on : FnScope ["term", "k"] ["term", "k"] (defScope s_term_on) := ⟨rfl, rfl, rfl, by decide +kernel, rfl, by decide +kernel, by decide +kernel⟩
theorem ok_term_on {f : Addr} {fd : FuncData} (F : Fun K "term_on" "term_on" s_term_on f fd) : FnOk P w K mg base CX0 1 f fd ["term", "k"] spTermOn := by
  refine F.ok (k := 0) sc_term_on (fun vs H Q E h => ?_) (fun cdv A outer s H vs Q E hr h => ?_)
  · obtain ⟨p, k, t, rfl, _⟩ := h
    rfl
  obtain ⟨p, k, t, rfl, hp, ok, bk, q⟩ := h
  have n0 := ok.n0
  have n1 := ok.n1
  have a0 := ok.a0
  have a1 := ok.a1
  refine ⟨_, (pss_one (ps_ret (pe_cmpR op_ge (pe_op op_add (pe_op op_mod (pe_op op_add (pe_op op_mulB (pe_ix ix_tup (pv 0) pe_int (fun _ _ => rfl)) (pv 1)) (pe_ix ix_tup (pv 0) pe_int (fun _ _ => rfl))) (pe_ix ix_tup (pv 0) pe_int (fun _ _ => rfl))) (pe_ix ix_tup (pv 0) pe_int (fun _ _ => rfl))) (pe_ix ix_tup (pv 0) pe_int (fun _ _ => rfl)) (nomark _)))), ?_⟩
  walk_at "rd"
  refine rd_ixT (SqT.of hp) at41 ?_
  walk_at "rd"
  refine rd_i ⟨64, 400, bt_small (by omega) (by omega) (by decide), bk, by decide⟩ ?_
  walk_at "rd"
  refine rd_ixT (SqT.of hp) at42 ?_
  walk_at "rd"
  refine rd_ixT (SqT.of hp) at43 ?_
  walk_at "rd"
  refine rd_ixT (SqT.of hp) at41 ?_
  walk_at "rd"
  refine rd_ixT (SqT.of hp) at43 ?_
  walk_at "rd"
  exact q
theorem sc_signs_upto : FnScope ["terms", "k"] ["terms", "k"] (defScope s_signs_upto) := ⟨rfl, rfl, rfl, by decide +kernel, rfl, by decide +kernel, by decide +kernel⟩
theorem ok_signs_upto {f : Addr} {fd : FuncData} (F : Fun K "signs_upto" "signs_upto" s_signs_upto f fd) (z_sum : mg "sum" = none) : FnOk P w K mg base CX0 1 f fd ["terms", "k"] (spSigns K) := by
  refine F.ok (k := 0) sc_signs_upto (fun vs H Q E h => ?_) (fun cdv A outer s H vs Q E hr h => ?_)
  · obtain ⟨p, k, ts, rfl, _⟩ := h
    rfl
  obtain ⟨p, k, ts, rfl, T, bk, q⟩ := h
  obtain ⟨us, hS, hT⟩ := T.ex
  refine ⟨_, (pss_one (ps_ret (pe_callB (call_sum rfl) rfl z_sum PyProof.Rows.boot_sum (pa_cons (pe_comp rfl (compOk_freeM ["terms", "k"] ["terms", "k"] rfl rfl (by with_unfolding_all rfl) (by decide +kernel) rfl (by decide +kernel) rfl (by decide +kernel) (by walk_at "fm") (by with_unfolding_all rfl) (by with_unfolding_all rfl)) (pi_tup (pv 0)) (fun _ _ _ _ => pifs_nil) (fun _ _ _ _ => (pe_op op_mulB (pe_ix ix_tup_c (pv 0) pe_int (fun _ _ => rfl)) (pe_op op_fdivB (pe_op op_add (pe_op op_mulB (pe_ix ix_tup_c (pv 0) pe_int (fun _ _ => rfl)) (pv 2)) (pe_ix ix_tup_c (pv 0) pe_int (fun _ _ => rfl))) (pe_ix ix_tup_c (pv 0) pe_int (fun _ _ => rfl)))))) pa_nil)))), ?_⟩
  walk_at "rd"
  refine comp_t rfl hS (by rw [hT.len]; exact small1000 (by have := T.few; omega)) (fun v => ((tmAt H v).map fun _ => true).getD false) (fun v => ((tmAt H v).map fun t => V.int (t.1 * ctT t k)).getD .non) (fun x hx D ys Q' hD h => ?_) (fun x hx _ D ys Q' hD h => ?_) (fun D hD => ?_)
  · obtain ⟨a, t, rfl, ht, ha⟩ := hT.mem hx
    rw [tmAt_eq ha] at h
    exact h
  · obtain ⟨a, t, rfl, ht, ha⟩ := hT.mem hx
    rw [tmAt_eq ha] at h
    have ok := T.ok t ht
    have n0 := ok.n0
    have n1 := ok.n1
    have a0 := ok.a0
    have a1 := ok.a1
    have sg := ok.sg
    have b0 := ok.b0
    have b1 := ok.b1
    have ha' := same_new hD (.lst ys) _ _ ha
    walk_at "rd"
    refine rd_ixT (SqT.of ha') at40 ?_
    walk_at "rd"
    refine rd_ixT (SqT.of ha') at41 ?_
    walk_at "rd"
    refine rd_i ⟨64, 400, bt_small (by omega) (by omega) (by decide), bk, by decide⟩ ?_
    walk_at "rd"
    refine rd_ixT (SqT.of ha') at42 ?_
    walk_at "rd"
    refine rd_ixT (SqT.of ha') at43 ?_
    refine rd_i (cdiv_small (by omega) (by omega)) ?_
    have bb : Bt 465 (t.2.1 * k + t.2.2.1) := ((show Bt 64 t.2.1 from bt_small (by omega) (by omega) (by decide)).mul bk).add ((show Bt 64 t.2.2.1 from bt_small (by omega) (by omega) (by decide)).mono (by decide))
    refine rd_i ⟨200, 465, bt_of (by omega) (by omega), bt_div bb (by omega), by decide⟩ ?_
    exact h
  rw [hT.fm (fun _ => true) fun t => V.int (t.1 * ctT t k), List.filter_eq_self.mpr (fun _ _ => rfl)]
  have e : (ts.map fun t => V.int (t.1 * ctT t k)) = (ts.map fun t => t.1 * ctT t k).map V.int := by rw [List.map_map]; rfl
  rw [e]
  walk_at "rd"
  refine ⟨D, _, rfl, SqL.of upd_same, ?_⟩
  exact q _ (same_new hD _)
theorem sc_is_term : FnScope ["term"] ["term"] (defScope s_is_term) := ⟨rfl, rfl, rfl, by decide +kernel, rfl, by decide +kernel, by decide +kernel⟩
theorem ok_is_term {f : Addr} {fd : FuncData} (F : Fun K "is_term" "is_term" s_is_term f fd) {tk_GREATEST_N : Tok} (m_GREATEST_N : mg "GREATEST_N" = some (.int 1000 tk_GREATEST_N)) : FnOk P w K mg base CX0 1 f fd ["term"] spIsTerm := by
  refine F.ok (k := 0) sc_is_term (fun vs H Q E h => ?_) (fun cdv A outer s H vs Q E hr h => ?_)
  · obtain ⟨p, t, rfl, _⟩ := h
    rfl
  obtain ⟨p, t, rfl, hp, ok, q⟩ := h
  have n0 := ok.n0
  have n1 := ok.n1
  have a0 := ok.a0
  have a1 := ok.a1
  have sg := ok.sg
  have b0 := ok.b0
  have b1 := ok.b1
  refine ⟨_, (pss_cons (ps_if (PW.pt (pw_and (pt_cmpR op_ne (pe_ix ix_tup (pv 0) pe_int (fun _ _ => rfl)) pe_int (nomark _)) (pw_and1 (pt_cmpR op_ne (pe_ix ix_tup (pv 0) pe_int (fun _ _ => rfl)) (pe_un un_neg pe_int) (nomark _)))))
        (pss_one (ps_ret pe_bl))
        pss_nil)
      (pss_one (ps_ret (pe_and (pe_chain op_le op_le pe_int (pe_ix ix_tup (pv 0) pe_int (fun _ _ => rfl)) (pe_glob rfl m_GREATEST_N (rel_int _ _))) (pe_and (pe_chain op_le op_le pe_int (pe_ix ix_tup (pv 0) pe_int (fun _ _ => rfl)) (pe_ix ix_tup (pv 0) pe_int (fun _ _ => rfl))) (pe_one (pe_chain op_le op_lt pe_int (pe_ix ix_tup (pv 0) pe_int (fun _ _ => rfl)) (pe_ix ix_tup (pv 0) pe_int (fun _ _ => rfl))))))))), ?_⟩
  walk_at "rd"
  refine rd_ixT (SqT.of hp) at40 ?_
  walk_at "rd"
  have rest : True := trivial
  rcases sg with e | e
  · refine iteNS (congrArg V.int e) (iteF ?_)
    walk_at "rd"
    refine rd_ixT (SqT.of hp) at43 ?_
    walk_at "rd"
    refine iteD n0 ?_
    walk_at "rd"
    rw [decide_eq_true n1]
    refine iteT ?_
    walk_at "rd"
    refine rd_ixT (SqT.of hp) at41 ?_
    walk_at "rd"
    refine iteD a0 ?_
    walk_at "rd"
    refine rd_ixT (SqT.of hp) at43 ?_
    walk_at "rd"
    rw [decide_eq_true a1]
    refine iteT ?_
    walk_at "rd"
    refine rd_ixT (SqT.of hp) at42 ?_
    walk_at "rd"
    refine iteD b0 ?_
    walk_at "rd"
    refine rd_ixT (SqT.of hp) at43 ?_
    walk_at "rd"
    rw [decide_eq_true b1]
    exact q
  · refine iteNN (fun z => by have := V.int.inj z; omega) ?_
    walk_at "rd"
    refine rd_ixT (SqT.of hp) at40 ?_
    walk_at "rd"
    refine iteNS (congrArg V.int e) ?_
    walk_at "rd"
    refine rd_ixT (SqT.of hp) at43 ?_
    walk_at "rd"
    refine iteD n0 ?_
    walk_at "rd"
    rw [decide_eq_true n1]
    refine iteT ?_
    walk_at "rd"
    refine rd_ixT (SqT.of hp) at41 ?_
    walk_at "rd"
    refine iteD a0 ?_
    walk_at "rd"
    refine rd_ixT (SqT.of hp) at43 ?_
    walk_at "rd"
    rw [decide_eq_true a1]
    refine iteT ?_
    walk_at "rd"
    refine rd_ixT (SqT.of hp) at42 ?_
    walk_at "rd"
    refine iteD b0 ?_
    walk_at "rd"
    refine rd_ixT (SqT.of hp) at43 ?_
    walk_at "rd"
    rw [decide_eq_true b1]
    exact q
theorem sc_least_length : FnScope ["base", "terms"] ["base", "terms"] (defScope s_least_length) := ⟨rfl, rfl, rfl, by decide +kernel, rfl, by decide +kernel, by decide +kernel⟩
theorem ok_least_length {f : Addr} {fd : FuncData} (F : Fun K "least_length" "least_length" s_least_length f fd) (z_len : mg "len" = none) : FnOk P w K mg base CX0 1 f fd ["base", "terms"] (spLeast K) := by
  refine F.ok (k := 0) sc_least_length (fun vs H Q E h => ?_) (fun cdv A outer s H vs Q E hr h => ?_)
  · obtain ⟨p, b, ts, rfl, _⟩ := h
    rfl
  obtain ⟨p, b, ts, rfl, T, q⟩ := h
  obtain ⟨us, hS, hT⟩ := T.ex
  refine ⟨_, (pss_one (ps_ret (pe_op op_sub (pv 0) (pe_callB call_len_seq rfl z_len PySem.boot_len (pa_cons (pe_comp rfl (compOk_nil ["base", "terms"] rfl (by decide +kernel) rfl (by decide +kernel) rfl (by decide +kernel) (by decide +kernel)) (pi_tup (pv 1)) (fun _ _ _ _ => (pifs_one (pt_cmpR op_eq (pe_ix ix_tup_c (pv 0) pe_int (fun _ _ => rfl)) (pe_un un_neg pe_int) (nomark _)))) (fun _ _ _ _ => (pv 0))) pa_nil))))), ?_⟩
  walk_at "rd"
  refine comp_t rfl hS (by rw [hT.len]; exact small1000 (by have := T.few; omega)) (fun v => ((tmAt H v).map fun t => decide (t.1 = -1)).getD false) (fun v => v) (fun x hx D ys Q' hD h => ?_) (fun x hx _ D ys Q' hD h => ⟨_, rfl, h⟩) (fun D hD => ?_)
  · obtain ⟨a, t, rfl, ht, ha⟩ := hT.mem hx
    rw [tmAt_eq ha] at h
    walk_at "rd"
    refine rd_ixT (SqT.of (same_new hD _ _ _ ha)) at40 ?_
    walk_at "rd"
    rw [dec_int0]
    exact h
  walk_at "rd"
  refine ⟨D, _, rfl, .inl (SqL.of upd_same), ?_⟩
  walk_at "rd"
  have e : ((us.filter fun v => ((tmAt H v).map fun t => decide (t.1 = -1)).getD false).map fun v => v).length = (ts.filter fun t => decide (t.1 = -1)).length := by
    have := congrArg List.length (hT.fm (fun t => decide (t.1 = -1)) (fun _ => V.non))
    rw [List.length_map, List.length_map] at this
    rw [List.length_map]
    exact this
  rw [e]
  exact q _ (same_new hD _)
theorem sc_refuse_measure : FnScope ["base", "terms"] ["base", "terms"] (defScope s_refuse_measure) := ⟨rfl, rfl, rfl, by decide +kernel, rfl, by decide +kernel, by decide +kernel⟩
theorem ok_refuse_measure {f : Addr} {fd : FuncData} (F : Fun K "refuse_measure" "refuse_measure" s_refuse_measure f fd) (c_is_term : Cal P w K mg base 1 "is_term" ["term"] spIsTerm) (c_least_length : Cal P w K mg base 1 "least_length" ["base", "terms"] (spLeast K)) (z_len : mg "len" = none) (z_all : mg "all" = none) {tk_GREATEST_BASE : Tok} (m_GREATEST_BASE : mg "GREATEST_BASE" = some (.int 20000 tk_GREATEST_BASE)) {tk_MOST_TERMS : Tok} (m_MOST_TERMS : mg "MOST_TERMS" = some (.int 6 tk_MOST_TERMS)) : FnOk P w K mg base CX0 2 f fd ["base", "terms"] (spRefuseM K) := by
  refine F.ok (k := 1) sc_refuse_measure (fun vs H Q E h => ?_) (fun cdv A outer s H vs Q E hr h => ?_)
  · obtain ⟨p, b, ts, rfl, _⟩ := h
    rfl
  obtain ⟨p, b, ts, rfl, T, g, q⟩ := h
  obtain ⟨us, hS, hT⟩ := T.ex
  have b0 := g.b0
  have b1 := g.b1
  have fl := g.fl
  have few := T.few
  refine ⟨_, (pss_cons (ps_if (PW.pt (pw_or (pt_cmpR op_lt (pv 0) pe_int (nomark _)) (pw_or1 (pt_cmpR op_gt (pv 0) (pe_glob rfl m_GREATEST_BASE (rel_int _ _)) (nomark _)))))
        (pss_one ps_never)
        pss_nil)
      (pss_cons (ps_if (pt_cmpR op_gt (pe_callB call_len_seq rfl z_len PySem.boot_len (pa_cons (pv 1) pa_nil)) (pe_glob rfl m_MOST_TERMS (rel_int _ _)) (nomark _))
        (pss_one ps_never)
        pss_nil)
      (pss_cons (ps_if (pt_not (pt_val (pe_callB (call_all rfl) rfl z_all PyProof.Rows.boot_all (pa_cons (pe_comp rfl (compOk_nil ["base", "terms"] rfl (by decide +kernel) rfl (by decide +kernel) rfl (by decide +kernel) (by decide +kernel)) (pi_tup (pv 1)) (fun _ _ _ _ => pifs_nil) (fun _ _ _ _ => (pe_cal c_is_term (hr.mono (by decide)) rfl (pa_cons (pv 0) pa_nil)))) pa_nil))))
        (pss_one ps_never)
        pss_nil)
      (pss_one (ps_if (pt_cmpR op_lt (pe_cal c_least_length (hr.mono (by decide)) rfl (pa_cons (pv 0) (pa_cons (pv 1) pa_nil))) pe_int (nomark _))
        (pss_one ps_never)
        pss_nil))))), ?_⟩
  walk_at "rd"
  refine iteN (by omega) ?_
  walk_at "rd"
  refine iteN (by omega) ?_
  walk_at "rd"
  refine ⟨p, us, rfl, .inr hS, ?_⟩
  walk_at "rd"
  refine iteN (by rw [hT.len]; omega) ?_
  walk_at "rd"
  refine comp_t rfl hS (by rw [hT.len]; exact small1000 (by omega)) (fun _ => true) (fun _ => .bl true) (fun x hx D ys Q' hD h => h) (fun x hx _ D ys Q' hD h => ?_) (fun D hD => ?_)
  · obtain ⟨a, t, rfl, ht, ha⟩ := hT.mem hx
    walk_at "rd"
    exact ⟨a, t, rfl, same_new hD _ _ _ ha, T.ok t ht, h⟩
  have s1 := same_new hD (.lst ((us.filter fun _ => true).map fun _ => V.bl true))
  have e : ((us.filter fun _ => true).map fun _ => V.bl true) = (us.map fun _ => true).map V.bl := by
    rw [List.filter_eq_self.mpr (fun _ _ => rfl), List.map_map]
    rfl
  walk_at "rd"
  refine ⟨D, us.map (fun _ => true), rfl, SqL.of (by rw [upd_same, e]), ?_⟩
  walk_at "rd"
  rw [show ((us.map fun _ => true).all id) = true from List.all_eq_true.mpr (fun x hx => by obtain ⟨_, _, rfl⟩ := List.mem_map.mp hx; rfl)]
  refine iteF ?_
  walk_at "rd"
  refine ⟨p, b, ts, rfl, T.same s1, fun H2 s2 => ?_⟩
  walk_at "rd"
  refine iteN (by omega) ?_
  walk_at "rd"
  exact q _ (s1.trans s2)
theorem sc_period_of : FnScope ["terms", "told", "term"] ["terms"] (defScope s_period_of) := ⟨rfl, rfl, rfl, by decide +kernel, rfl, by decide +kernel, by decide +kernel⟩
theorem ok_period_of {f : Addr} {fd : FuncData} (F : Fun K "period_of" "period_of" s_period_of f fd) (c_common : Cal P w K mg base 3 "common" ["one", "other"] spCommon) : FnOk P w K mg base CX0 4 f fd ["terms"] (spPeriod K) := by
  refine F.ok (k := 3) sc_period_of (fun vs H Q E h => ?_) (fun cdv A outer s H vs Q E hr h => ?_)
  · obtain ⟨p, ts, rfl, _⟩ := h
    rfl
  obtain ⟨p, ts, rfl, T, q⟩ := h
  obtain ⟨us, hS, hT⟩ := T.ex
  have few := T.few
  have ulen := hT.len
  refine ⟨_, (pss_cons (ps_set (i := 1) sc_period_of.nd rfl (by first | exact Or.inl rfl | exact Or.inr rfl) pe_int)
      (pss_cons (ps_for PassesOwn.never rfl (pi_tup (pv 0)) (pg_name (i := 2) sc_period_of.nd rfl (by first | exact Or.inl rfl | exact Or.inr rfl))
        (pss_one (ps_set (i := 1) sc_period_of.nd rfl (by first | exact Or.inl rfl | exact Or.inr rfl) (pe_cal c_common (hr.mono (by decide)) rfl (pa_cons (pv 1) (pa_cons (pe_ix ix_tup (pv 2) pe_int (fun _ _ => rfl)) pa_nil))))))
      (pss_one (ps_ret (pv 1))))), ?_⟩
  walk_at "rd"
  walk_at "rdf"
  walk_at "rd"
  refine ⟨p, rfl, ⟨us, hS⟩, for_tup (xs := us) (fun i σ' H' => Same H H' ∧ ∃ c : Option V, σ' = [some (.ref p), some (.int (PER (ts.take i))), c]) ⟨Same.refl _, none, rfl⟩ ?_ ?_ ?_⟩
  · rintro i σ' H' _ ⟨s, _⟩
    exact s.tup hS
  · rintro i x σ' H' hx ⟨s, c, rfl⟩
    obtain ⟨a, t, rfl, ht, ha⟩ := hT.at hx
    have i6 : i < 6 := by
      have := (List.getElem?_eq_some_iff.mp ht).1
      omega
    obtain ⟨h1, h2⟩ := per_pow T.ok i (by omega)
    have h3 := pow6 (show i ≤ 6 by omega)
    have ok := T.ok t (List.mem_of_getElem? ht)
    have n0 := ok.n0
    have n1 := ok.n1
    walk_at "rd"
    refine rd_ixT (SqT.of (s _ _ ha)) at43 ?_
    walk_at "rd"
    refine ⟨_, _, rfl, h1, by omega, bt_small (by omega) (by omega) (by decide), bt_small (by omega) (by omega) (by decide), fun H2 s2 => ?_⟩
    walk_at "rd"
    refine ⟨s.trans s2, some (.ref a), ?_⟩
    have e2 : PER (ts.take (i + 1)) = lcmI (PER (ts.take i)) t.2.2.2 := by
      unfold PER
      rw [List.take_add_one, ht, Option.toList_some, List.foldl_append]
      rfl
    rw [e2]
    rfl
  · rintro σ' H' ⟨s, c, rfl⟩
    walk_at "rd"
    rw [ulen, List.take_length]
    exact q _ s
theorem sc_Measure_upto : FnScope ["self", "k"] ["self", "k"] (defScope s_Measure_upto) := ⟨rfl, rfl, rfl, by decide +kernel, rfl, by decide +kernel, by decide +kernel⟩
theorem ok_Measure_upto {f : Addr} {fd : FuncData} (F : Fun K "upto" "Measure.upto" s_Measure_upto f fd) (er : Errs K mg c_FeastError c_NoNumber c_NoMeasure c_NoDate c_NoText c_Measure c_Calendar c_Sun c_Moon) (c_signs_upto : Cal P w K mg base 1 "signs_upto" ["terms", "k"] (spSigns K)) : FnOk P w K mg base CX0 2 f fd ["self", "k"] (spUpto K c_Measure) := by
  refine F.ok (k := 1) sc_Measure_upto (fun vs H Q E h => ?_) (fun cdv A outer s H vs Q E hr h => ?_)
  · obtain ⟨x, p, dx, k, b, ts, fs, rfl, _⟩ := h
    rfl
  obtain ⟨x, p, dx, k, b, ts, fs, rfl, hx, fb, ft, T, b0, b1, bk, q⟩ := h
  refine ⟨_, (pss_one (ps_ret (pe_op op_add (pe_op op_mulB (pe_fld (pv 0) (by rfl)) (pv 1)) (pe_cal c_signs_upto (hr.mono (by decide)) rfl (pa_cons (pe_fld (pv 0) (by rfl)) (pa_cons (pv 1) pa_nil)))))), ?_⟩
  walk_at "rd"
  refine ⟨x, c_Measure, dx, fs, _, rfl, hx, er.cl_Measure, er.na_Measure_base, fb, ?_⟩
  walk_at "rd"
  refine rd_i ⟨64, 400, bt_small (by omega) (by omega) (by decide), bk, by decide⟩ ?_
  walk_at "rd"
  refine ⟨x, c_Measure, dx, fs, _, rfl, hx, er.cl_Measure, er.na_Measure_terms, ft, ?_⟩
  walk_at "rd"
  refine ⟨p, k, ts, rfl, T, bk, fun H' s => ?_⟩
  walk_at "rd"
  exact q _ s
theorem sc_Measure___init__ : FnScope ["self", "base", "terms"] ["self", "base", "terms"] (defScope s_Measure___init__) := ⟨rfl, rfl, rfl, by decide +kernel, rfl, by decide +kernel, by decide +kernel⟩
theorem ok_Measure___init__ {f : Addr} {fd : FuncData} {ds : Array Value} (F : FunD K "__init__" "Measure.__init__" s_Measure___init__ f fd ds) (er : Errs K mg c_FeastError c_NoNumber c_NoMeasure c_NoDate c_NoText c_Measure c_Calendar c_Sun c_Moon) (c_refuse_measure : Cal P w K mg base 2 "refuse_measure" ["base", "terms"] (spRefuseM K)) (c_period_of : Cal P w K mg base 4 "period_of" ["terms"] (spPeriod K)) (c_Measure_upto : CalM P w K mg base CX0 2 c_Measure "upto" ["self", "k"] (spUpto K c_Measure)) (z_tuple : mg "tuple" = none) : FnOk P w K mg base CX0 5 f fd ["self", "base", "terms"] (spInitM K c_Measure) := by
  refine F.ok (k := 4) sc_Measure___init__ (fun vs H Q E h => ?_) (fun cdv A outer s H vs Q E hr h => ?_)
  · obtain ⟨x, dx, b, v, us, ts, rfl, _⟩ := h
    rfl
  obtain ⟨x, dx, b, v, us, ts, rfl, hx, hT, hv, ok, few, g, po, q⟩ := h
  refine ⟨_, (pss_cons (ps_fld (pv 0) (pv 1) (by rfl))
      (pss_cons (ps_fld (pv 0) (pe_ifExp (pt_cmpR op_isN (pv 2) pe_non (nomark _)) (pe_tup pa_nil) (pe_callTy call_tuple_of rfl z_tuple PyProof.Rows.boot_tuple (pa_cons (pv 2) pa_nil))) (by rfl))
      (pss_cons (ps_expr (pe_cal c_refuse_measure (hr.mono (by decide)) rfl (pa_cons (pe_fld (pv 0) (by rfl)) (pa_cons (pe_fld (pv 0) (by rfl)) pa_nil))))
      (pss_cons (ps_fld (pv 0) (pe_cal c_period_of (hr.mono (by decide)) rfl (pa_cons (pe_fld (pv 0) (by rfl)) pa_nil)) (by rfl))
      (pss_cons (ps_fld (pv 0) (pe_mcal c_Measure_upto er.cl_Measure (hr.mono (by decide)) (pv 0) (pa_cons (pe_fld (pv 0) (by rfl)) pa_nil)) (by rfl))
      (pss_one (ps_if (pt_cmpR op_eq (pe_fld (pv 0) (by rfl)) pe_int (nomark _))
        (pss_one ps_never)
        pss_nil))))))), ?_⟩
  walk_at "rdx"
  refine ⟨x, c_Measure, dx, [], rfl, hx, er.cl_Measure, er.na_Measure_base, by decide, ?_⟩
  have k1 : ∀ y o, y ≠ x → H y = some o → upd H x (.ins c_Measure dx (putF (Str.ofString "base") (.int b) [])) y = some o := fun y o hy h => by rw [upd_ne hy]; exact h
  have x1 : upd H x (.ins c_Measure dx (putF (Str.ofString "base") (.int b) [])) x = some (.ins c_Measure dx [(Str.ofString "base", .int b)]) := upd_same
  generalize upd H x (.ins c_Measure dx (putF (Str.ofString "base") (.int b) [])) = H1 at k1 x1 ⊢
  have tmk : ∀ {H' : Hp}, (∀ y o, y ≠ x → H y = some o → H' y = some o) → Tms H' us ts := fun {H'} k => by
    have : ∀ {vs : List V} {ts : List Tm}, Tms H vs ts → Tms H' vs ts := fun {vs ts} h => by
      induction h with
      | nil => exact .nil
      | cons h _ ih => exact .cons (k _ _ (fun e => by subst e; rw [hx] at h; cases h) h) ih
    exact this hT
  walk_at "rdx"
  rcases hv with ⟨rfl, eu⟩ | ⟨l, rfl, hl⟩
  all_goals refine ⟨rfl, ?_⟩
  all_goals walk_at "rdx"
  all_goals first | refine iteD rfl ?_ | refine iteN (fun z => by cases z) ?_
  all_goals walk_at "rdx"
  all_goals first
    | refine ⟨l, us, rfl, .inl ⟨SqL.of (k1 _ _ (ne_of hl hx (by intro z; cases z)) hl), fun p hp => ?_⟩⟩
    | (refine ⟨Nat.zero_le _, fun p hp => ?_⟩
       rw [show upd H1 p (.tup []) = upd H1 p (.tup us) by rw [eu]])
  all_goals
    have px : x ≠ p := ne_of_none x1 hp
    walk_at "rdx"
    refine ⟨x, c_Measure, dx, _, rfl, by rw [upd_ne px]; exact x1, er.cl_Measure, er.na_Measure_terms, (by show 1 < 1000; decide), ?_⟩
    have k2 : ∀ y o, y ≠ x → H1 y = some o → upd (upd H1 p (.tup us)) x (.ins c_Measure dx (putF (Str.ofString "terms") (.ref p) [(Str.ofString "base", .int b)])) y = some o := fun y o hy h => by
      rw [upd_ne hy]
      exact same_new hp _ _ _ h
    have x2 : upd (upd H1 p (.tup us)) x (.ins c_Measure dx (putF (Str.ofString "terms") (.ref p) [(Str.ofString "base", .int b)])) x = some (.ins c_Measure dx [(Str.ofString "base", .int b), (Str.ofString "terms", .ref p)]) := upd_same
    have p2 : upd (upd H1 p (.tup us)) x (.ins c_Measure dx (putF (Str.ofString "terms") (.ref p) [(Str.ofString "base", .int b)])) p = some (.tup us) := by rw [upd_ne (Ne.symm px), upd_same]
    generalize upd (upd H1 p (.tup us)) x (.ins c_Measure dx (putF (Str.ofString "terms") (.ref p) [(Str.ofString "base", .int b)])) = H2 at k2 x2 p2 ⊢
    have k02 : ∀ y o, y ≠ x → H y = some o → H2 y = some o := fun y o hy h => k2 y o hy (k1 y o hy h)
    have T2 : TmT K H2 p ts := ⟨⟨us, SqT.of p2, tmk k02⟩, ok, few⟩
    walk_at "rdx"
    refine ⟨x, c_Measure, dx, _, _, rfl, x2, er.cl_Measure, er.na_Measure_base, rfl, ?_⟩
    walk_at "rdx"
    refine ⟨x, c_Measure, dx, _, _, rfl, x2, er.cl_Measure, er.na_Measure_terms, rfl, ?_⟩
    walk_at "rdx"
    refine ⟨p, b, ts, rfl, T2, g, fun H3 s3 => ?_⟩
    have x3 := s3 _ _ x2
    walk_at "rdx"
    refine ⟨x, c_Measure, dx, _, _, rfl, x3, er.cl_Measure, er.na_Measure_terms, rfl, ?_⟩
    walk_at "rdx"
    refine ⟨p, ts, rfl, T2.same s3, fun H4 s4 => ?_⟩
    have x4 := s4 _ _ x3
    have p4 := (s3.trans s4) _ _ p2
    walk_at "rdx"
    refine ⟨x, c_Measure, dx, _, rfl, x4, er.cl_Measure, er.na_Measure_full_count, (by show 2 < 1000; decide), ?_⟩
    have pne : p ≠ x := Ne.symm px
    have k5 : ∀ y o, y ≠ x → H4 y = some o → upd H4 x (.ins c_Measure dx (putF (Str.ofString "full_count") (.int (PER ts)) [(Str.ofString "base", .int b), (Str.ofString "terms", .ref p)])) y = some o := fun y o hy h => by rw [upd_ne hy]; exact h
    have x5 : upd H4 x (.ins c_Measure dx (putF (Str.ofString "full_count") (.int (PER ts)) [(Str.ofString "base", .int b), (Str.ofString "terms", .ref p)])) x = some (.ins c_Measure dx [(Str.ofString "base", .int b), (Str.ofString "terms", .ref p), (Str.ofString "full_count", .int (PER ts))]) := upd_same
    generalize upd H4 x (.ins c_Measure dx (putF (Str.ofString "full_count") (.int (PER ts)) [(Str.ofString "base", .int b), (Str.ofString "terms", .ref p)])) = H5 at k5 x5 ⊢
    have k05 : ∀ y o, y ≠ x → H y = some o → H5 y = some o := fun y o hy h => k5 y o hy ((s3.trans s4) _ _ (k02 y o hy h))
    have T5 : TmT K H5 p ts := ⟨⟨us, SqT.of (k5 _ _ pne p4), tmk k05⟩, ok, few⟩
    obtain ⟨h1, h2⟩ := per_pow ok 6 (by decide)
    rw [List.take_of_length_le few] at h1 h2
    have h3 := pow6 (show 6 ≤ 6 by decide)
    walk_at "rdx"
    refine ⟨x, dx, _, rfl, x5, rfl, ?_⟩
    walk_at "rdx"
    refine ⟨x, c_Measure, dx, _, _, rfl, x5, er.cl_Measure, er.na_Measure_full_count, rfl, ?_⟩
    walk_at "rdx"
    refine ⟨x, p, dx, PER ts, b, ts, _, rfl, x5, rfl, rfl, T5, g.b0, g.b1, bt_small (by omega) (by omega) (by decide), fun H6 s6 => ?_⟩
    have x6 := s6 _ _ x5
    walk_at "rdx"
    refine ⟨x, c_Measure, dx, _, rfl, x6, er.cl_Measure, er.na_Measure_full_sum, (by show 3 < 1000; decide), ?_⟩
    have k7 : ∀ y o, y ≠ x → H6 y = some o → upd H6 x (.ins c_Measure dx (putF (Str.ofString "full_sum") (.int (UP b ts (PER ts))) [(Str.ofString "base", .int b), (Str.ofString "terms", .ref p), (Str.ofString "full_count", .int (PER ts))])) y = some o := fun y o hy h => by rw [upd_ne hy]; exact h
    have x7 : upd H6 x (.ins c_Measure dx (putF (Str.ofString "full_sum") (.int (UP b ts (PER ts))) [(Str.ofString "base", .int b), (Str.ofString "terms", .ref p), (Str.ofString "full_count", .int (PER ts))])) x = some (.ins c_Measure dx (mF b p (PER ts) (UP b ts (PER ts)))) := upd_same
    generalize upd H6 x (.ins c_Measure dx (putF (Str.ofString "full_sum") (.int (UP b ts (PER ts))) [(Str.ofString "base", .int b), (Str.ofString "terms", .ref p), (Str.ofString "full_count", .int (PER ts))])) = H7 at k7 x7 ⊢
    have k07 : ∀ y o, y ≠ x → H y = some o → H7 y = some o := fun y o hy h => k7 y o hy (s6 _ _ (k05 y o hy h))
    walk_at "rdx"
    refine ⟨x, c_Measure, dx, _, _, rfl, x7, er.cl_Measure, er.na_Measure_full_sum, rfl, ?_⟩
    walk_at "rdx"
    refine iteN (fun z => by have := V.int.inj z; omega) ?_
    walk_at "rdx"
    refine q _ k07 ⟨⟨dx, p, x7, ⟨us, SqT.of (k7 _ _ pne (s6 _ _ (k5 _ _ pne p4))), tmk k07⟩, ok, few⟩, g, po⟩
theorem sc_Measure_at : FnScope ["self", "k"] ["self", "k"] (defScope s_Measure_at) := ⟨rfl, rfl, rfl, by decide +kernel, rfl, by decide +kernel, by decide +kernel⟩
theorem ok_Measure_at {f : Addr} {fd : FuncData} (F : Fun K "at" "Measure.at" s_Measure_at f fd) (er : Errs K mg c_FeastError c_NoNumber c_NoMeasure c_NoDate c_NoText c_Measure c_Calendar c_Sun c_Moon) (c_term_on : Cal P w K mg base 1 "term_on" ["term", "k"] spTermOn) (z_sum : mg "sum" = none) : FnOk P w K mg base CX0 2 f fd ["self", "k"] (spAt K c_Measure) := by
  refine F.ok (k := 1) sc_Measure_at (fun vs H Q E h => ?_) (fun cdv A outer s H vs Q E hr h => ?_)
  · obtain ⟨x, k, b, ts, rfl, _⟩ := h
    rfl
  obtain ⟨x, k, b, ts, rfl, M, bk, q⟩ := h
  obtain ⟨dx, p, hx, T⟩ := M.ex
  obtain ⟨us, hS, hT⟩ := T.ex
  refine ⟨_, (pss_one (ps_ret (pe_op op_add (pe_fld (pv 0) (by rfl)) (pe_callB (call_sum rfl) rfl z_sum PyProof.Rows.boot_sum (pa_cons (pe_comp rfl (compOk_freeM ["self", "k"] ["self", "k"] rfl rfl (by with_unfolding_all rfl) (by decide +kernel) rfl (by decide +kernel) rfl (by decide +kernel) (by walk_at "fm") (by with_unfolding_all rfl) (by with_unfolding_all rfl)) (pi_tup (pe_fld (pv 0) (by rfl))) (fun _ _ _ _ => (pifs_one (pt_val (pe_cal c_term_on (hr.mono (by decide)) rfl (pa_cons (pv 0) (pa_cons (pv 2) pa_nil)))))) (fun _ _ _ _ => (pe_ix ix_tup_c (pv 0) pe_int (fun _ _ => rfl)))) pa_nil))))), ?_⟩
  walk_at "rdx"
  refine ⟨x, c_Measure, dx, _, _, rfl, hx, er.cl_Measure, er.na_Measure_base, rfl, ?_⟩
  walk_at "rdx"
  refine rd_comp (rd_iT ?_)
  walk_at "rdx"
  refine ⟨x, c_Measure, dx, _, _, rfl, hx, er.cl_Measure, er.na_Measure_terms, rfl, ?_⟩
  refine ⟨p, rfl, ⟨_, hS⟩, comp_go walk_t (by rw [hT.len]; exact small1000 (by have := T.few; omega)) (fun D ys hD => (same_new hD _).tup hS) (fun v => ((tmAt H v).map fun t => onT t k).getD false) (fun v => ((tmAt H v).map fun t => V.int t.1).getD .non) (fun y hy D ys Q' hD h => ?_) (fun y hy _ D ys Q' hD h => ?_) (fun D hD => ?_)⟩
  · obtain ⟨a, t, rfl, ht, ha⟩ := hT.mem hy
    rw [tmAt_eq ha] at h
    walk_at "rdx"
    exact ⟨a, k, t, rfl, same_new hD _ _ _ ha, T.ok t ht, bk, ⟨_, rfl, h⟩⟩
  · obtain ⟨a, t, rfl, ht, ha⟩ := hT.mem hy
    rw [tmAt_eq ha] at h
    walk_at "rdx"
    refine rd_ixT (SqT.of (same_new hD _ _ _ ha)) at40 ?_
    exact h
  rw [hT.fm (fun t => onT t k) fun t => V.int t.1]
  have e : ((ts.filter fun t => onT t k).map fun t => V.int t.1) = ((ts.filter fun t => onT t k).map fun t => t.1).map V.int := by rw [List.map_map]; rfl
  rw [e]
  walk_at "rdx"
  refine ⟨D, _, rfl, SqL.of upd_same, ?_⟩
  walk_at "rdx"
  exact q _ (same_new hD _)
theorem sc_Measure_period : FnScope ["self"] ["self"] (defScope s_Measure_period) := ⟨rfl, rfl, rfl, by decide +kernel, rfl, by decide +kernel, by decide +kernel⟩
theorem ok_Measure_period {f : Addr} {fd : FuncData} (F : Fun K "period" "Measure.period" s_Measure_period f fd) (er : Errs K mg c_FeastError c_NoNumber c_NoMeasure c_NoDate c_NoText c_Measure c_Calendar c_Sun c_Moon) : FnOk P w K mg base CX0 1 f fd ["self"] (spPer K c_Measure) := by
  refine F.ok (k := 0) sc_Measure_period (fun vs H Q E h => ?_) (fun cdv A outer s H vs Q E hr h => ?_)
  · obtain ⟨x, b, ts, rfl, _⟩ := h
    rfl
  obtain ⟨x, b, ts, rfl, M, q⟩ := h
  obtain ⟨dx, p, hx, T⟩ := M.ex
  refine ⟨_, (pss_one (ps_ret (pe_fld (pv 0) (by rfl)))), ?_⟩
  walk_at "rdx"
  refine ⟨x, c_Measure, dx, _, _, rfl, hx, er.cl_Measure, er.na_Measure_full_count, rfl, ?_⟩
  exact q
theorem sc_Measure_seek : FnScope ["self", "total", "rest", "low", "high", "middle"] ["self", "total"] (defScope s_Measure_seek) := ⟨rfl, rfl, rfl, by decide +kernel, rfl, by decide +kernel, by decide +kernel⟩
theorem ok_Measure_seek {f : Addr} {fd : FuncData} (F : Fun K "seek" "Measure.seek" s_Measure_seek f fd) (er : Errs K mg c_FeastError c_NoNumber c_NoMeasure c_NoDate c_NoText c_Measure c_Calendar c_Sun c_Moon) (c_Measure_upto : CalM P w K mg base CX0 2 c_Measure "upto" ["self", "k"] (spUpto K c_Measure)) : FnOk P w K mg base CX0 3 f fd ["self", "total"] (spSeek K c_Measure) := by
  refine F.ok (k := 2) sc_Measure_seek (fun vs H Q E h => ?_) (fun cdv A outer s H vs Q E hr h => ?_)
  · obtain ⟨x, n, b, ts, rfl, _⟩ := h
    rfl
  obtain ⟨x, n, b, ts, rfl, M, bn, q⟩ := h
  obtain ⟨dx, p, hx, T⟩ := M.ex
  have po := M.po
  have g := M.gd
  have hb0 := g.b0
  have hb1 := g.b1
  have up := UP_step (base := b) T.ok
  have mono := fun {j k : Int} (h : j ≤ k) => UP_mono T.ok g.fl h
  have per := UP_per (base := b) T.ok (P := PER ts) (fun t ht => by
    have := per_dvd T.ok 6 (by decide)
    rw [List.take_of_length_le T.few] at this
    exact this t ht)
  obtain ⟨h1, h2⟩ := per_pow T.ok 6 (by decide)
  rw [List.take_of_length_le T.few] at h1 h2
  have h3 := pow6 (show 6 ≤ 6 by decide)
  have uz := UP_zero (base := b) T.ok
  have sl := SU_le T.ok (Int.le_of_lt h1)
  have ln : (ts.length : Int) * PER ts ≤ 6 * PER ts := Int.mul_le_mul_of_nonneg_right (by have := T.few; omega) (Int.le_of_lt h1)
  have bm : b * PER ts ≤ 20000 * PER ts := Int.mul_le_mul_of_nonneg_right hb1 (Int.le_of_lt h1)
  have us : UP b ts (PER ts) = b * PER ts + SU ts (PER ts) := rfl
  have bS : Bt 500 (UP b ts (PER ts)) := (bt_of (by omega) (by omega)).mono (by decide)
  clear us bm ln sl
  generalize hP : PER ts = P at *
  generalize hS : UP b ts P = S at *
  have m0 := Int.emod_nonneg n (show S ≠ 0 by omega)
  have m1 := Int.emod_lt_of_pos n po
  have md := Int.mul_ediv_add_emod n S
  refine ⟨_, (pss_cons (ps_set (i := 2) sc_Measure_seek.nd rfl (by first | exact Or.inl rfl | exact Or.inr rfl) (pe_op op_mod (pv 1) (pe_fld (pv 0) (by rfl))))
      (pss_cons (ps_set (i := 3) sc_Measure_seek.nd rfl (by first | exact Or.inl rfl | exact Or.inr rfl) pe_int)
      (pss_cons (ps_set (i := 4) sc_Measure_seek.nd rfl (by first | exact Or.inl rfl | exact Or.inr rfl) (pe_fld (pv 0) (by rfl)))
      (pss_cons (ps_while PassesOwn.never (pt_cmpR op_gt (pe_op op_sub (pv 4) (pv 3)) pe_int (nomark _))
        (pss_cons (ps_set (i := 5) sc_Measure_seek.nd rfl (by first | exact Or.inl rfl | exact Or.inr rfl) (pe_op op_fdivB (pe_op op_add (pv 3) (pv 4)) pe_int))
      (pss_one (ps_cut (ps_if (pt_cmpR op_le (pe_mcal c_Measure_upto er.cl_Measure (hr.mono (by decide)) (pv 0) (pa_cons (pv 5) pa_nil)) (pv 2) (nomark _))
        (pss_one (ps_set (i := 3) sc_Measure_seek.nd rfl (by first | exact Or.inl rfl | exact Or.inr rfl) (pv 5)))
        (pss_one (ps_set (i := 4) sc_Measure_seek.nd rfl (by first | exact Or.inl rfl | exact Or.inr rfl) (pv 5))))))))
      (pss_one (ps_ret (pe_op op_add (pe_op op_mulB (pe_op op_fdivB (pv 1) (pe_fld (pv 0) (by rfl))) (pe_fld (pv 0) (by rfl))) (pv 3)))))))), ?_⟩
  walk_at "rdx"
  refine ⟨x, c_Measure, dx, _, _, rfl, hx, er.cl_Measure, er.na_Measure_full_sum, rfl, ?_⟩
  walk_at "rdx"
  refine ⟨x, c_Measure, dx, _, _, rfl, hx, er.cl_Measure, er.na_Measure_full_count, rfl, ?_⟩
  walk_at "rdx"
  refine ⟨fun m σ' H' => Same H H' ∧ ∃ (lo hi : Int) (c : Option V), σ' = [some (.ref x), some (.int n), some (.int (n % S)), some (.int lo), some (.int hi), c] ∧ 0 ≤ lo ∧ lo < hi ∧ hi ≤ P ∧ UP b ts lo ≤ n % S ∧ n % S < UP b ts hi ∧ m = (hi - lo).toNat,
    ⟨_, Same.refl _, 0, P, none, rfl, by decide, h1, Int.le_refl _, by rw [uz]; exact m0, by rw [hS]; exact m1, rfl⟩, ?_⟩
  rintro m σ' H1 ⟨s1, lo, hi, c, rfl, l0, lh, hP', u1, u2, rfl⟩
  walk_at "rdx"
  refine ite2d (fun cc => ?_) (fun cc => ?_)
  · refine ⟨_, fun σ' H' hh => hh, ?_⟩
    walk_at "rdx"
    generalize hm : (lo + hi) / 2 = mi
    refine rd_cut (fun σ' H' => ∃ i, i < (hi - lo).toNat ∧ Same H H' ∧ ∃ (lo hi : Int) (c : Option V), σ' = [some (.ref x), some (.int n), some (.int (n % S)), some (.int lo), some (.int hi), c] ∧ 0 ≤ lo ∧ lo < hi ∧ hi ≤ P ∧ UP b ts lo ≤ n % S ∧ n % S < UP b ts hi ∧ i = (hi - lo).toNat) ?_ (fun _ _ h => h)
    walk_at "rdx"
    refine ⟨x, dx, _, rfl, s1 _ _ hx, rfl, ?_⟩
    walk_at "rdx"
    refine ⟨x, p, dx, mi, b, ts, _, rfl, s1 _ _ hx, rfl, rfl, T.same s1, hb0, hb1, bt_small (by omega) (by omega) (by decide), fun H2 s2 => ?_⟩
    walk_at "rdx"
    refine ite2d (fun c2 => ?_) (fun c2 => ?_)
    · walk_at "rdx"
      exact ⟨(hi - mi).toNat, by omega, s1.trans s2, mi, hi, _, rfl, by omega, by omega, hP', c2, u2, rfl⟩
    · walk_at "rdx"
      exact ⟨(mi - lo).toNat, by omega, s1.trans s2, lo, mi, _, rfl, l0, by omega, by omega, u1, by omega, rfl⟩
  · have e : hi = lo + 1 := by omega
    subst e
    walk_at "rdx"
    refine ⟨x, c_Measure, dx, _, _, rfl, s1 _ _ hx, er.cl_Measure, er.na_Measure_full_sum, rfl, ?_⟩
    walk_at "rdx"
    refine rd_i ⟨po, bS.mono (by decide)⟩ ?_
    walk_at "rdx"
    refine ⟨x, c_Measure, dx, _, _, rfl, s1 _ _ hx, er.cl_Measure, er.na_Measure_full_count, rfl, ?_⟩
    have bP : Bt 64 P := bt_small (by omega) (by omega) (by decide)
    refine rd_i ⟨300, 64, bt_div bn po, bP, by decide⟩ ?_
    walk_at "rdx"
    have e := per lo (n / S)
    have e' := per (lo + 1) (n / S)
    rw [show n / S * P + lo = lo + P * (n / S) by rw [Int.mul_comm]; omega]
    refine q _ _ s1 ?_ ?_ ?_
    · rw [e, Int.mul_comm (n / S) S]
      omega
    · rw [show lo + P * (n / S) + 1 = lo + 1 + P * (n / S) by omega, e', Int.mul_comm (n / S) S]
      omega
    · have := (bP.mul (bt_div bn po)).add ((show Bt 64 lo from bt_small (by omega) (by omega) (by decide)).mono (show 64 ≤ 64 + 300 by decide))
      rw [Int.add_comm]
      exact this.mono (by decide)
theorem sc_refuse_months : FnScope ["lengths", "leap"] ["lengths", "leap"] (defScope s_refuse_months) := ⟨rfl, rfl, rfl, by decide +kernel, rfl, by decide +kernel, by decide +kernel⟩
theorem ok_refuse_months {f : Addr} {fd : FuncData} (F : Fun K "refuse_months" "refuse_months" s_refuse_months f fd) (z_len : mg "len" = none) (z_min : mg "min" = none) (z_max : mg "max" = none) {tk_MOST_MONTHS : Tok} (m_MOST_MONTHS : mg "MOST_MONTHS" = some (.int 20 tk_MOST_MONTHS)) {tk_LONGEST_MONTH : Tok} (m_LONGEST_MONTH : mg "LONGEST_MONTH" = some (.int 1000 tk_LONGEST_MONTH)) : FnOk P w K mg base CX0 1 f fd ["lengths", "leap"] (spRefMo K) := by
  refine F.ok (k := 0) sc_refuse_months (fun vs H Q E h => ?_) (fun cdv A outer s H vs Q E hr h => ?_)
  · obtain ⟨l, lp, ls, ts, rfl, _⟩ := h
    rfl
  obtain ⟨l, lp, ls, ts, rfl, hS, g, q⟩ := h
  have l0 := g.l0
  have l1 := g.l1
  have p0 := g.p0
  have p1 := g.p1
  have ne : ls ≠ [] := fun z => by rw [z] at l0; simp at l0
  refine ⟨_, (pss_cons (ps_if (PW.pt (pw_or (pt_cmpR op_lt (pe_callB call_len_seq rfl z_len PySem.boot_len (pa_cons (pv 0) pa_nil)) pe_int (nomark _)) (pw_or1 (pt_cmpR op_gt (pe_callB call_len_seq rfl z_len PySem.boot_len (pa_cons (pv 0) pa_nil)) (pe_glob rfl m_MOST_MONTHS (rel_int _ _)) (nomark _)))))
        (pss_one ps_never)
        pss_nil)
      (pss_cons (ps_if (PW.pt (pw_or (pt_cmpR op_lt (pe_callB (call_minL rfl) rfl z_min PyProof.Rows.boot_min (pa_cons (pv 0) pa_nil)) pe_int (nomark _)) (pw_or1 (pt_cmpR op_gt (pe_callB (call_maxL rfl) rfl z_max PyProof.Rows.boot_max (pa_cons (pv 0) pa_nil)) (pe_glob rfl m_LONGEST_MONTH (rel_int _ _)) (nomark _)))))
        (pss_one ps_never)
        pss_nil)
      (pss_one (ps_if (PW.pt (pw_or (pt_cmpR op_lt (pv 1) pe_int (nomark _)) (pw_or1 (pt_cmpR op_gt (pv 1) (pe_callB call_len_seq rfl z_len PySem.boot_len (pa_cons (pv 0) pa_nil)) (nomark _)))))
        (pss_one ps_never)
        pss_nil)))), ?_⟩
  walk_at "rdx"
  refine ⟨l, _, rfl, .inl hS, ?_⟩
  rw [List.length_map]
  walk_at "rdx"
  refine iteN (by omega) ?_
  walk_at "rdx"
  refine ⟨l, _, rfl, .inl hS, ?_⟩
  rw [List.length_map]
  walk_at "rdx"
  refine iteN (by omega) ?_
  walk_at "rdx"
  refine ⟨l, ls, rfl, hS, ne, fun m hm _ => ?_⟩
  have := g.m m hm
  walk_at "rdx"
  refine iteN (by omega) ?_
  walk_at "rdx"
  refine ⟨l, ls, rfl, hS, ne, fun m hm _ => ?_⟩
  have := g.m m hm
  walk_at "rdx"
  refine iteN (by omega) ?_
  walk_at "rdx"
  refine iteN (by omega) ?_
  walk_at "rdx"
  refine ⟨l, _, rfl, .inl hS, ?_⟩
  rw [List.length_map]
  walk_at "rdx"
  refine iteN (by omega) ?_
  walk_at "rdx"
  exact q
theorem sc_Sun___init__ : FnScope ["self", "start", "lengths", "leap", "terms"] ["self", "start", "lengths", "leap", "terms"] (defScope s_Sun___init__) := ⟨rfl, rfl, rfl, by decide +kernel, rfl, by decide +kernel, by decide +kernel⟩
theorem ok_Sun___init__ {f : Addr} {fd : FuncData} {ds : Array Value} (F : FunD K "__init__" "Sun.__init__" s_Sun___init__ f fd ds) (er : Errs K mg c_FeastError c_NoNumber c_NoMeasure c_NoDate c_NoText c_Measure c_Calendar c_Sun c_Moon) (c_refuse_months : Cal P w K mg base 1 "refuse_months" ["lengths", "leap"] (spRefMo K)) (c_Measure___init__ : CalI P w K mg base CX0 5 "Measure" c_Measure ["self", "base", "terms"] (spInitM K c_Measure)) (c_least_length : Cal P w K mg base 1 "least_length" ["base", "terms"] (spLeast K)) (z_tuple : mg "tuple" = none) (z_sum : mg "sum" = none) : FnOk P w K mg base CX0 7 f fd ["self", "start", "lengths", "leap", "terms"] (spInitS K c_Sun c_Measure) := by
  refine F.ok (k := 6) sc_Sun___init__ (fun vs H Q E h => ?_) (fun cdv A outer s H vs Q E hr h => ?_)
  · obtain ⟨x, dx, ll, s, lp, v, us, ls, ts, rfl, _⟩ := h
    rfl
  obtain ⟨x, dx, ll, s, lp, v, us, ls, ts, rfl, hx, hl, hT, hv, g, bs, q⟩ := h
  have lx : ll ≠ x := ne_of hl hx (by intro z; cases z)
  have l0 := g.l0
  have l1 := g.l1
  have p0 := g.p0
  have p1 := g.p1
  have f0 := g.f0
  have f1 := g.f1
  refine ⟨_, (pss_cons (ps_expr (pe_cal c_refuse_months (hr.mono (by decide)) rfl (pa_cons (pv 2) (pa_cons (pv 3) pa_nil))))
      (pss_cons (ps_fld (pv 0) (pv 1) (by rfl))
      (pss_cons (ps_fld (pv 0) (pe_callTy call_tuple_of rfl z_tuple PyProof.Rows.boot_tuple (pa_cons (pv 2) pa_nil)) (by rfl))
      (pss_cons (ps_fld (pv 0) (pv 3) (by rfl))
      (pss_cons (ps_fld (pv 0) (pe_mk c_Measure___init__ (hr.mono (by decide)) rfl (pa_cons (pe_callB (call_sum rfl) rfl z_sum PyProof.Rows.boot_sum (pa_cons (pv 2) pa_nil)) (pa_cons (pv 4) pa_nil))) (by rfl))
      (pss_cons (ps_if (pt_cmpR op_lt (pe_cal c_least_length (hr.mono (by decide)) rfl (pa_cons (pe_ix ix_list (pv 2) (pe_op op_sub (pv 3) pe_int) (fun _ _ => rfl)) (pa_cons (pe_fld (pe_fld (pv 0) (by rfl)) (by rfl)) pa_nil))) pe_int (nomark _))
        (pss_one ps_never)
        pss_nil)
      (pss_one (ps_if (pt_cmpR op_lt (pe_cal c_least_length (hr.mono (by decide)) rfl (pa_cons (pe_fld (pe_fld (pv 0) (by rfl)) (by rfl)) (pa_cons (pe_fld (pe_fld (pv 0) (by rfl)) (by rfl)) pa_nil))) pe_int (nomark _))
        (pss_one ps_never)
        pss_nil)))))))), ?_⟩
  walk_at "rdx"
  refine ⟨ll, lp, ls, ts, rfl, SqL.of hl, g, ?_⟩
  walk_at "rdx"
  refine ⟨x, c_Sun, dx, [], rfl, hx, er.cl_Sun, er.na_Sun_start, by decide, ?_⟩
  have k1 : But x H (upd H x (.ins c_Sun dx (putF (Str.ofString "start") (.int s) []))) := But.upd
  have x1 : upd H x (.ins c_Sun dx (putF (Str.ofString "start") (.int s) [])) x = some (.ins c_Sun dx [(Str.ofString "start", .int s)]) := upd_same
  generalize upd H x (.ins c_Sun dx (putF (Str.ofString "start") (.int s) [])) = H1 at k1 x1 ⊢
  walk_at "rdx"
  refine ⟨ll, _, rfl, .inl ⟨SqL.of (k1 _ _ lx hl), fun p hp => ?_⟩⟩
  have px : x ≠ p := ne_of_none x1 hp
  walk_at "rdx"
  refine ⟨x, c_Sun, dx, _, rfl, by rw [upd_ne px]; exact x1, er.cl_Sun, er.na_Sun_months, (by show 1 < 1000; decide), ?_⟩
  have k2 : But x H1 (upd (upd H1 p (.tup (ls.map V.int))) x (.ins c_Sun dx (putF (Str.ofString "months") (.ref p) [(Str.ofString "start", .int s)]))) := fun y o hy h => by
    rw [upd_ne hy]
    exact same_new hp _ _ _ h
  have x2 : upd (upd H1 p (.tup (ls.map V.int))) x (.ins c_Sun dx (putF (Str.ofString "months") (.ref p) [(Str.ofString "start", .int s)])) x = some (.ins c_Sun dx [(Str.ofString "start", .int s), (Str.ofString "months", .ref p)]) := upd_same
  have t2 : upd (upd H1 p (.tup (ls.map V.int))) x (.ins c_Sun dx (putF (Str.ofString "months") (.ref p) [(Str.ofString "start", .int s)])) p = some (.tup (ls.map V.int)) := by rw [upd_ne (Ne.symm px), upd_same]
  generalize upd (upd H1 p (.tup (ls.map V.int))) x (.ins c_Sun dx (putF (Str.ofString "months") (.ref p) [(Str.ofString "start", .int s)])) = H2 at k2 x2 t2 ⊢
  walk_at "rdx"
  refine ⟨x, c_Sun, dx, _, rfl, x2, er.cl_Sun, er.na_Sun_leap, (by show 2 < 1000; decide), ?_⟩
  have k3 : But x H2 (upd H2 x (.ins c_Sun dx (putF (Str.ofString "leap") (.int lp) [(Str.ofString "start", .int s), (Str.ofString "months", .ref p)]))) := But.upd
  have x3 : upd H2 x (.ins c_Sun dx (putF (Str.ofString "leap") (.int lp) [(Str.ofString "start", .int s), (Str.ofString "months", .ref p)])) x = some (.ins c_Sun dx [(Str.ofString "start", .int s), (Str.ofString "months", .ref p), (Str.ofString "leap", .int lp)]) := upd_same
  generalize upd H2 x (.ins c_Sun dx (putF (Str.ofString "leap") (.int lp) [(Str.ofString "start", .int s), (Str.ofString "months", .ref p)])) = H3 at k3 x3 ⊢
  have k03 : But x H H3 := fun y o hy h => k3 y o hy (k2 y o hy (k1 y o hy h))
  have l3 := k03 _ _ lx hl
  have t3 := k3 _ _ (Ne.symm px) t2
  walk_at "rdx"
  refine ⟨ll, ls, rfl, SqL.of l3, ?_⟩
  walk_at "rdx"
  refine fun y dy hy hdy ne => init_me hy hdy ne (hT.but hx .ins k03) ?_ g.ok g.few g.gm g.po fun H4 s4 M4 => ⟨rfl, ?_⟩
  · rcases hv with z | ⟨l, z, e⟩
    · exact .inl z
    · exact .inr ⟨l, z, k03 _ _ (ne_of e hx (by intro z; cases z)) e⟩
  have x4 := s4 _ _ x3
  have yx : y ≠ x := fun e => by subst e; rw [x3] at hy; cases hy
  walk_at "rdx"
  refine ⟨x, c_Sun, dx, _, rfl, x4, er.cl_Sun, er.na_Sun_years, (by show 3 < 1000; decide), ?_⟩
  have k5 : But x H4 (upd H4 x (.ins c_Sun dx (putF (Str.ofString "years") (.ref y) [(Str.ofString "start", .int s), (Str.ofString "months", .ref p), (Str.ofString "leap", .int lp)]))) := But.upd
  have x5 : upd H4 x (.ins c_Sun dx (putF (Str.ofString "years") (.ref y) [(Str.ofString "start", .int s), (Str.ofString "months", .ref p), (Str.ofString "leap", .int lp)])) x = some (.ins c_Sun dx (sF s lp p y)) := upd_same
  generalize upd H4 x (.ins c_Sun dx (putF (Str.ofString "years") (.ref y) [(Str.ofString "start", .int s), (Str.ofString "months", .ref p), (Str.ofString "leap", .int lp)])) = H5 at k5 x5 ⊢
  have M5 := M4.butX x4 .ins yx k5
  have t5 := k5 _ _ (Ne.symm px) (s4 _ _ t3)
  have l5 := k5 _ _ lx (s4 _ _ l3)
  have k05 : ∀ y o, y ≠ x → H y = some o → H5 y = some o := fun y o hy h => k5 y o hy (s4 _ _ (k03 y o hy h))
  obtain ⟨d5, tp, e5, T5⟩ := M5.ex
  have elp : lp - 1 = (((lp - 1).toNat : Nat) : Int) := by omega
  have hat : atI (ls.map V.int) (lp - 1) = some (V.int (ls.getD (lp - 1).toNat 0)) := by
    conv => lhs; rw [elp]
    refine atI_nat ?_
    rw [List.getElem?_map, List.getD_eq_getElem?_getD, List.getElem?_eq_getElem (by omega)]
    rfl
  walk_at "rdx"
  refine rd_ixL (SqL.of l5) hat ?_
  walk_at "rdx"
  refine ⟨x, c_Sun, dx, _, _, rfl, x5, er.cl_Sun, er.na_Sun_years, rfl, ?_⟩
  walk_at "rdx"
  refine ⟨y, c_Measure, d5, _, _, rfl, e5, er.cl_Measure, er.na_Measure_terms, rfl, ?_⟩
  walk_at "rdx"
  refine ⟨tp, _, ts, rfl, T5, fun H6 s6 => ?_⟩
  walk_at "rdx"
  refine iteN (by omega) ?_
  walk_at "rdx"
  have x6 := s6 _ _ x5
  have e6 := s6 _ _ e5
  refine ⟨x, c_Sun, dx, _, _, rfl, x6, er.cl_Sun, er.na_Sun_years, rfl, ?_⟩
  walk_at "rdx"
  refine ⟨y, c_Measure, d5, _, _, rfl, e6, er.cl_Measure, er.na_Measure_base, rfl, ?_⟩
  walk_at "rdx"
  refine ⟨x, c_Sun, dx, _, _, rfl, x6, er.cl_Sun, er.na_Sun_years, rfl, ?_⟩
  walk_at "rdx"
  refine ⟨y, c_Measure, d5, _, _, rfl, e6, er.cl_Measure, er.na_Measure_terms, rfl, ?_⟩
  walk_at "rdx"
  refine ⟨tp, _, ts, rfl, T5.same s6, fun H7 s7 => ?_⟩
  walk_at "rdx"
  refine iteN (by omega) ?_
  walk_at "rdx"
  refine q _ (fun y o hy h => s7 _ _ (s6 _ _ (k05 y o hy h))) ⟨⟨dx, p, y, s7 _ _ x6, SqT.of (s7 _ _ (s6 _ _ t5)), (M5.same s6).same s7⟩, g, bs⟩
theorem sc_Sun_year_start : FnScope ["self", "year"] ["self", "year"] (defScope s_Sun_year_start) := ⟨rfl, rfl, rfl, by decide +kernel, rfl, by decide +kernel, by decide +kernel⟩
theorem ok_Sun_year_start {f : Addr} {fd : FuncData} (F : Fun K "year_start" "Sun.year_start" s_Sun_year_start f fd) (er : Errs K mg c_FeastError c_NoNumber c_NoMeasure c_NoDate c_NoText c_Measure c_Calendar c_Sun c_Moon) (c_Measure_upto : CalM P w K mg base CX0 2 c_Measure "upto" ["self", "k"] (spUpto K c_Measure)) : FnOk P w K mg base CX0 3 f fd ["self", "year"] (spYS K c_Sun c_Measure) := by
  refine F.ok (k := 2) sc_Sun_year_start (fun vs H Q E h => ?_) (fun cdv A outer s H vs Q E hr h => ?_)
  · obtain ⟨x, n, s, ls, lp, ts, rfl, _⟩ := h
    rfl
  obtain ⟨x, n, s, ls, lp, ts, rfl, S, bn, q⟩ := h
  obtain ⟨dx, p, y, hx, hp, M⟩ := S.ex
  obtain ⟨d, fs, ey, ly⟩ := M.meth
  obtain ⟨d2, tp, e2, T2⟩ := M.ex
  refine ⟨_, (pss_one (ps_ret (pe_op op_add (pe_fld (pv 0) (by rfl)) (pe_mcal c_Measure_upto er.cl_Measure (hr.mono (by decide)) (pe_fld (pv 0) (by rfl)) (pa_cons (pv 1) pa_nil))))), ?_⟩
  walk_at "rdx"
  refine ⟨x, c_Sun, dx, _, _, rfl, hx, er.cl_Sun, er.na_Sun_start, rfl, ?_⟩
  walk_at "rdx"
  refine ⟨x, c_Sun, dx, _, _, rfl, hx, er.cl_Sun, er.na_Sun_years, rfl, ?_⟩
  walk_at "rdx"
  refine ⟨y, d, fs, rfl, ey, ly.2.2.1, ?_⟩
  walk_at "rdx"
  refine ⟨y, tp, d2, n, _, ts, _, rfl, e2, rfl, rfl, T2, M.gd.b0, M.gd.b1, bn.mono (by decide), fun H' s' => ?_⟩
  walk_at "rdx"
  exact q _ s'
theorem sc_Sun_year_at : FnScope ["self", "day"] ["self", "day"] (defScope s_Sun_year_at) := ⟨rfl, rfl, rfl, by decide +kernel, rfl, by decide +kernel, by decide +kernel⟩
theorem ok_Sun_year_at {f : Addr} {fd : FuncData} (F : Fun K "year_at" "Sun.year_at" s_Sun_year_at f fd) (er : Errs K mg c_FeastError c_NoNumber c_NoMeasure c_NoDate c_NoText c_Measure c_Calendar c_Sun c_Moon) (c_Measure_seek : CalM P w K mg base CX0 3 c_Measure "seek" ["self", "total"] (spSeek K c_Measure)) : FnOk P w K mg base CX0 4 f fd ["self", "day"] (spYA K c_Sun c_Measure) := by
  refine F.ok (k := 3) sc_Sun_year_at (fun vs H Q E h => ?_) (fun cdv A outer s H vs Q E hr h => ?_)
  · obtain ⟨x, n, s, ls, lp, ts, rfl, _⟩ := h
    rfl
  obtain ⟨x, n, s, ls, lp, ts, rfl, S, bn, q⟩ := h
  obtain ⟨dx, p, y, hx, hp, M⟩ := S.ex
  obtain ⟨d, fs, ey, ly⟩ := M.meth
  refine ⟨_, (pss_one (ps_ret (pe_mcal c_Measure_seek er.cl_Measure (hr.mono (by decide)) (pe_fld (pv 0) (by rfl)) (pa_cons (pe_op op_sub (pv 1) (pe_fld (pv 0) (by rfl))) pa_nil)))), ?_⟩
  walk_at "rdx"
  refine ⟨x, c_Sun, dx, _, _, rfl, hx, er.cl_Sun, er.na_Sun_years, rfl, ?_⟩
  walk_at "rdx"
  refine ⟨y, d, fs, rfl, ey, ly.1, ?_⟩
  walk_at "rdx"
  refine ⟨x, c_Sun, dx, _, _, rfl, hx, er.cl_Sun, er.na_Sun_start, rfl, ?_⟩
  walk_at "rdx"
  refine ⟨y, n - s, _, ts, rfl, M, (bn.sub S.bs).mono (by decide), fun k H' s' u1 u2 bk => ?_⟩
  exact q _ _ s' (by omega) (by omega) (((bn.sub S.bs).le (seek_small S.gd.ok S.gd.f1 u1 u2)).mono (by decide))
theorem sc_Sun_lengths : FnScope ["self", "year", "told"] ["self", "year"] (defScope s_Sun_lengths) := ⟨rfl, rfl, rfl, by decide +kernel, rfl, by decide +kernel, by decide +kernel⟩
theorem ok_Sun_lengths {f : Addr} {fd : FuncData} (F : Fun K "lengths" "Sun.lengths" s_Sun_lengths f fd) (er : Errs K mg c_FeastError c_NoNumber c_NoMeasure c_NoDate c_NoText c_Measure c_Calendar c_Sun c_Moon) (c_Measure_at : CalM P w K mg base CX0 2 c_Measure "at" ["self", "k"] (spAt K c_Measure)) (z_list : mg "list" = none) : FnOk P w K mg base CX0 3 f fd ["self", "year"] (spLens K c_Sun c_Measure) := by
  refine F.ok (k := 2) sc_Sun_lengths (fun vs H Q E h => ?_) (fun cdv A outer s H vs Q E hr h => ?_)
  · obtain ⟨x, n, s, ls, lp, ts, rfl, _⟩ := h
    rfl
  obtain ⟨x, n, s, ls, lp, ts, rfl, S, bn, q⟩ := h
  obtain ⟨dx, p, y, hx, hp, M⟩ := S.ex
  have g := S.gd
  have p0 := g.p0
  have p1 := g.p1
  have elp : lp - 1 = (((lp - 1).toNat : Nat) : Int) := by omega
  generalize hi : (lp - 1).toNat = i at elp
  have il : i < ls.length := by omega
  refine ⟨_, (pss_cons (ps_set (i := 2) sc_Sun_lengths.nd rfl (by first | exact Or.inl rfl | exact Or.inr rfl) (pe_callTy call_list_of rfl z_list PyProof.Rows.boot_list (pa_cons (pe_fld (pv 0) (by rfl)) pa_nil)))
      (pss_cons (ps_asg (pe_op op_sub (pe_op op_add (pe_ix ix_list (pv 2) (pe_op op_sub (pe_fld (pv 0) (by rfl)) pe_int) (fun _ _ => rfl)) (pe_mcal c_Measure_at er.cl_Measure (hr.mono (by decide)) (pe_fld (pv 0) (by rfl)) (pa_cons (pv 1) pa_nil))) (pe_fld (pe_fld (pv 0) (by rfl)) (by rfl))) (pg_sub (pv 2) (pe_op op_sub (pe_fld (pv 0) (by rfl)) pe_int) set_list))
      (pss_one (ps_ret (pv 2))))), ?_⟩
  walk_at "rdx"
  refine ⟨x, c_Sun, dx, _, _, rfl, hx, er.cl_Sun, er.na_Sun_months, rfl, ?_⟩
  walk_at "rdx"
  refine ⟨p, _, rfl, .inr hp, fun l hl => ?_⟩
  have s1 := same_new hl (.lst (ls.map V.int))
  have t1 : upd H l (.lst (ls.map V.int)) l = some (.lst (ls.map V.int)) := upd_same
  generalize upd H l (.lst (ls.map V.int)) = H1 at s1 t1 ⊢
  have M1 := M.same s1
  obtain ⟨d1, fs, e1, l1⟩ := M1.meth
  obtain ⟨d2, tp, e2, T2⟩ := M1.ex
  have x1 := s1 _ _ hx
  walk_at "rdx"
  refine ⟨x, c_Sun, dx, _, _, rfl, x1, er.cl_Sun, er.na_Sun_leap, rfl, ?_⟩
  walk_at "rdx"
  rw [elp]
  have hat : atI (ls.map V.int) (i : Int) = some (V.int (ls.getD i 0)) := by
    refine atI_nat ?_
    rw [List.getElem?_map, List.getD_eq_getElem?_getD, List.getElem?_eq_getElem il]
    rfl
  refine rd_ixL (SqL.of t1) hat ?_
  walk_at "rdx"
  refine ⟨x, c_Sun, dx, _, _, rfl, x1, er.cl_Sun, er.na_Sun_years, rfl, ?_⟩
  walk_at "rdx"
  refine ⟨y, d1, fs, rfl, e1, l1.2.1, ?_⟩
  walk_at "rdx"
  refine ⟨y, n, _, ts, rfl, M1, bn.mono (by decide), fun H2 s2 => ?_⟩
  have x2 := s2 _ _ x1
  walk_at "rdx"
  refine ⟨x, c_Sun, dx, _, _, rfl, x2, er.cl_Sun, er.na_Sun_years, rfl, ?_⟩
  walk_at "rdx"
  refine ⟨y, c_Measure, d2, _, _, rfl, s2 _ _ e2, er.cl_Measure, er.na_Measure_base, rfl, ?_⟩
  walk_at "rdx"
  refine ⟨x, c_Sun, dx, _, _, rfl, x2, er.cl_Sun, er.na_Sun_leap, rfl, ?_⟩
  walk_at "rdx"
  rw [elp]
  have t2 := s2 _ _ t1
  refine rd_setL t2 (by rw [List.length_map]; exact il) ?_
  walk_at "rdx"
  have ev : ls.getD i 0 + AT ls.sum ts n - ls.sum = ls.getD i 0 + ONS ts n := by
    unfold AT
    omega
  rw [ev]
  have el : (ls.map V.int).set i (V.int (ls.getD i 0 + ONS ts n)) = (LENS ls lp ts n).map V.int := by
    unfold LENS
    rw [hi, List.map_set]
  rw [el]
  refine q l _ hl (fun b o h => ?_) upd_same
  rw [upd_ne (ne_of_none h hl)]
  exact s2 _ _ (s1 _ _ h)
theorem sc_Sun_cycle : FnScope ["self", "years"] ["self"] (defScope s_Sun_cycle) := ⟨rfl, rfl, rfl, by decide +kernel, rfl, by decide +kernel, by decide +kernel⟩
theorem ok_Sun_cycle {f : Addr} {fd : FuncData} (F : Fun K "cycle" "Sun.cycle" s_Sun_cycle f fd) (er : Errs K mg c_FeastError c_NoNumber c_NoMeasure c_NoDate c_NoText c_Measure c_Calendar c_Sun c_Moon) (c_Measure_period : CalM P w K mg base CX0 1 c_Measure "period" ["self"] (spPer K c_Measure)) (c_Measure_upto : CalM P w K mg base CX0 2 c_Measure "upto" ["self", "k"] (spUpto K c_Measure)) : FnOk P w K mg base CX0 3 f fd ["self"] (spCyc K c_Sun c_Measure) := by
  refine F.ok (k := 2) sc_Sun_cycle (fun vs H Q E h => ?_) (fun cdv A outer s H vs Q E hr h => ?_)
  · obtain ⟨x, s, ls, lp, ts, rfl, _⟩ := h
    rfl
  obtain ⟨x, s, ls, lp, ts, rfl, S, q⟩ := h
  obtain ⟨dx, p, y, hx, hp, M⟩ := S.ex
  obtain ⟨d, fs, ey, ly⟩ := M.meth
  obtain ⟨d2, tp, e2, T2⟩ := M.ex
  have pp := per_pos S.gd.ok S.gd.few
  refine ⟨_, (pss_cons (ps_set (i := 1) sc_Sun_cycle.nd rfl (by first | exact Or.inl rfl | exact Or.inr rfl) (pe_mcal0 c_Measure_period er.cl_Measure (hr.mono (by decide)) (pe_fld (pv 0) (by rfl))))
      (pss_one (ps_ret (pe_tup (pa_cons (pv 1) (pa_cons (pe_mcal c_Measure_upto er.cl_Measure (hr.mono (by decide)) (pe_fld (pv 0) (by rfl)) (pa_cons (pv 1) pa_nil)) pa_nil)))))), ?_⟩
  walk_at "rdx"
  refine ⟨x, c_Sun, dx, _, _, rfl, hx, er.cl_Sun, er.na_Sun_years, rfl, ?_⟩
  walk_at "rdx"
  refine ⟨y, d, fs, rfl, ey, ly.2.2.2, ?_⟩
  walk_at "rdx"
  refine ⟨y, _, ts, rfl, M, ?_⟩
  walk_at "rdx"
  refine ⟨x, c_Sun, dx, _, _, rfl, hx, er.cl_Sun, er.na_Sun_years, rfl, ?_⟩
  walk_at "rdx"
  refine ⟨y, d, fs, rfl, ey, ly.2.2.1, ?_⟩
  walk_at "rdx"
  refine ⟨y, tp, d2, _, _, ts, _, rfl, e2, rfl, rfl, T2, M.gd.b0, M.gd.b1, bt_small (by omega) (by omega) (by decide), fun H' s' => ?_⟩
  walk_at "rdx"
  refine ⟨two, fun c hc => ?_⟩
  exact q _ _ (s'.trans (same_new hc _)) upd_same
theorem sc_refuse_part : FnScope ["measure", "greatest"] ["measure", "greatest"] (defScope s_refuse_part) := ⟨rfl, rfl, rfl, by decide +kernel, rfl, by decide +kernel, by decide +kernel⟩
theorem ok_refuse_part {f : Addr} {fd : FuncData} (F : Fun K "refuse_part" "refuse_part" s_refuse_part f fd) (er : Errs K mg c_FeastError c_NoNumber c_NoMeasure c_NoDate c_NoText c_Measure c_Calendar c_Sun c_Moon) (c_least_length : Cal P w K mg base 1 "least_length" ["base", "terms"] (spLeast K)) : FnOk P w K mg base CX0 2 f fd ["measure", "greatest"] (spRefPt K c_Measure) := by
  refine F.ok (k := 1) sc_refuse_part (fun vs H Q E h => ?_) (fun cdv A outer s H vs Q E hr h => ?_)
  · obtain ⟨y, b, g, ts, rfl, _⟩ := h
    rfl
  obtain ⟨y, b, g, ts, rfl, M, f, bg, q⟩ := h
  obtain ⟨d, p, e, T⟩ := M.ex
  refine ⟨_, (pss_cons (ps_if (pt_cmpR op_lt (pe_cal c_least_length (hr.mono (by decide)) rfl (pa_cons (pe_fld (pv 0) (by rfl)) (pa_cons (pe_fld (pv 0) (by rfl)) pa_nil))) pe_int (nomark _))
        (pss_one ps_never)
        pss_nil)
      (pss_one (ps_if (pt_cmpR op_gt (pe_fld (pv 0) (by rfl)) (pv 1) (nomark _))
        (pss_one ps_never)
        pss_nil))), ?_⟩
  walk_at "rdx"
  refine ⟨y, c_Measure, d, _, _, rfl, e, er.cl_Measure, er.na_Measure_base, rfl, ?_⟩
  walk_at "rdx"
  refine ⟨y, c_Measure, d, _, _, rfl, e, er.cl_Measure, er.na_Measure_terms, rfl, ?_⟩
  walk_at "rdx"
  refine ⟨p, _, ts, rfl, T, fun H1 s1 => ?_⟩
  walk_at "rdx"
  refine iteN (by omega) ?_
  walk_at "rdx"
  refine ⟨y, c_Measure, d, _, _, rfl, s1 _ _ e, er.cl_Measure, er.na_Measure_base, rfl, ?_⟩
  walk_at "rdx"
  refine iteN (by omega) ?_
  walk_at "rdx"
  exact q _ s1
theorem sc_Moon___init__ : FnScope ["self", "start", "days", "many"] ["self", "start", "days", "many"] (defScope s_Moon___init__) := ⟨rfl, rfl, rfl, by decide +kernel, rfl, by decide +kernel, by decide +kernel⟩
theorem ok_Moon___init__ {f : Addr} {fd : FuncData} (F : Fun K "__init__" "Moon.__init__" s_Moon___init__ f fd) (er : Errs K mg c_FeastError c_NoNumber c_NoMeasure c_NoDate c_NoText c_Measure c_Calendar c_Sun c_Moon) (c_refuse_part : Cal P w K mg base 2 "refuse_part" ["measure", "greatest"] (spRefPt K c_Measure)) {tk_LONGEST_MONTH : Tok} (m_LONGEST_MONTH : mg "LONGEST_MONTH" = some (.int 1000 tk_LONGEST_MONTH)) {tk_MOST_MONTHS : Tok} (m_MOST_MONTHS : mg "MOST_MONTHS" = some (.int 20 tk_MOST_MONTHS)) : FnOk P w K mg base CX0 3 f fd ["self", "start", "days", "many"] (spInitMo K c_Moon c_Measure) := by
  refine F.ok (k := 2) sc_Moon___init__ (fun vs H Q E h => ?_) (fun cdv A outer s H vs Q E hr h => ?_)
  · obtain ⟨x, dx, d, m, s, bd, bm, td, tm, rfl, _⟩ := h
    rfl
  obtain ⟨x, dx, d, m, s, bd, bm, td, tm, rfl, hx, hd, hm, g, bs, q⟩ := h
  refine ⟨_, (pss_cons (ps_expr (pe_cal c_refuse_part (hr.mono (by decide)) rfl (pa_cons (pv 2) (pa_cons (pe_glob rfl m_LONGEST_MONTH (rel_int _ _)) pa_nil))))
      (pss_cons (ps_expr (pe_cal c_refuse_part (hr.mono (by decide)) rfl (pa_cons (pv 3) (pa_cons (pe_glob rfl m_MOST_MONTHS (rel_int _ _)) pa_nil))))
      (pss_cons (ps_fld (pv 0) (pv 1) (by rfl))
      (pss_cons (ps_fld (pv 0) (pv 2) (by rfl))
      (pss_one (ps_fld (pv 0) (pv 3) (by rfl))))))), ?_⟩
  walk_at "rdx"
  refine ⟨d, bd, _, td, rfl, hd, g.fd, g.gd, fun H0 s0 => ?_⟩
  walk_at "rdx"
  refine ⟨m, bm, _, tm, rfl, hm.same s0, g.fm, g.gm, fun H9 s9 => ?_⟩
  have s09 := s0.trans s9
  have hx := s09 _ _ hx
  have hd := hd.same s09
  have hm := hm.same s09
  have dnx : d ≠ x := by
    obtain ⟨_, _, e, _⟩ := hd.ex
    exact ne_of e hx (by intro z; injection z with _ _ z; cases z)
  have mnx : m ≠ x := by
    obtain ⟨_, _, e, _⟩ := hm.ex
    exact ne_of e hx (by intro z; injection z with _ _ z; cases z)
  walk_at "rdx"
  refine ⟨x, c_Moon, dx, [], rfl, hx, er.cl_Moon, er.na_Moon_start, by decide, ?_⟩
  have k1 : But x H9 (upd H9 x (.ins c_Moon dx (putF (Str.ofString "start") (.int s) []))) := But.upd
  have x1 : upd H9 x (.ins c_Moon dx (putF (Str.ofString "start") (.int s) [])) x = some (.ins c_Moon dx [(Str.ofString "start", .int s)]) := upd_same
  generalize upd H9 x (.ins c_Moon dx (putF (Str.ofString "start") (.int s) [])) = H1 at k1 x1 ⊢
  walk_at "rdx"
  refine ⟨x, c_Moon, dx, _, rfl, x1, er.cl_Moon, er.na_Moon_days, (by show 1 < 1000; decide), ?_⟩
  have k2 : But x H1 (upd H1 x (.ins c_Moon dx (putF (Str.ofString "days") (.ref d) [(Str.ofString "start", .int s)]))) := But.upd
  have x2 : upd H1 x (.ins c_Moon dx (putF (Str.ofString "days") (.ref d) [(Str.ofString "start", .int s)])) x = some (.ins c_Moon dx [(Str.ofString "start", .int s), (Str.ofString "days", .ref d)]) := upd_same
  generalize upd H1 x (.ins c_Moon dx (putF (Str.ofString "days") (.ref d) [(Str.ofString "start", .int s)])) = H2 at k2 x2 ⊢
  walk_at "rdx"
  refine ⟨x, c_Moon, dx, _, rfl, x2, er.cl_Moon, er.na_Moon_many, (by show 2 < 1000; decide), ?_⟩
  have k3 : But x H2 (upd H2 x (.ins c_Moon dx (putF (Str.ofString "many") (.ref m) [(Str.ofString "start", .int s), (Str.ofString "days", .ref d)]))) := But.upd
  have x3 : upd H2 x (.ins c_Moon dx (putF (Str.ofString "many") (.ref m) [(Str.ofString "start", .int s), (Str.ofString "days", .ref d)])) x = some (.ins c_Moon dx (moF s d m)) := upd_same
  generalize upd H2 x (.ins c_Moon dx (putF (Str.ofString "many") (.ref m) [(Str.ofString "start", .int s), (Str.ofString "days", .ref d)])) = H3 at k3 x3 ⊢
  have k03 : But x H9 H3 := fun y o hy h => k3 y o hy (k2 y o hy (k1 y o hy h))
  walk_at "rdx"
  refine q _ (fun y o hy h => k03 y o hy (s09 _ _ h)) ⟨⟨dx, d, m, x3, hd.butX hx .ins dnx k03, hm.butX hx .ins mnx k03⟩, g, bs⟩
theorem sc_Moon_year_start : FnScope ["self", "year"] ["self", "year"] (defScope s_Moon_year_start) := ⟨rfl, rfl, rfl, by decide +kernel, rfl, by decide +kernel, by decide +kernel⟩
theorem ok_Moon_year_start {f : Addr} {fd : FuncData} (F : Fun K "year_start" "Moon.year_start" s_Moon_year_start f fd) (er : Errs K mg c_FeastError c_NoNumber c_NoMeasure c_NoDate c_NoText c_Measure c_Calendar c_Sun c_Moon) (c_Measure_upto : CalM P w K mg base CX0 2 c_Measure "upto" ["self", "k"] (spUpto K c_Measure)) : FnOk P w K mg base CX0 3 f fd ["self", "year"] (spMYS K c_Moon c_Measure) := by
  refine F.ok (k := 2) sc_Moon_year_start (fun vs H Q E h => ?_) (fun cdv A outer s H vs Q E hr h => ?_)
  · obtain ⟨x, n, s, bd, bm, td, tm, rfl, _⟩ := h
    rfl
  obtain ⟨x, n, s, bd, bm, td, tm, rfl, S, bn, q⟩ := h
  obtain ⟨dx, d, m, hx, D, M⟩ := S.ex
  obtain ⟨d1, f1, e1, l1⟩ := D.meth
  obtain ⟨d2, f2, e2, l2⟩ := M.meth
  obtain ⟨d4, p4, e4, T4⟩ := M.ex
  have g := S.gd
  refine ⟨_, (pss_one (ps_ret (pe_op op_add (pe_fld (pv 0) (by rfl)) (pe_mcal c_Measure_upto er.cl_Measure (hr.mono (by decide)) (pe_fld (pv 0) (by rfl)) (pa_cons (pe_mcal c_Measure_upto er.cl_Measure (hr.mono (by decide)) (pe_fld (pv 0) (by rfl)) (pa_cons (pv 1) pa_nil)) pa_nil))))), ?_⟩
  walk_at "rdx"
  refine ⟨x, c_Moon, dx, _, _, rfl, hx, er.cl_Moon, er.na_Moon_start, rfl, ?_⟩
  walk_at "rdx"
  refine ⟨x, c_Moon, dx, _, _, rfl, hx, er.cl_Moon, er.na_Moon_days, rfl, ?_⟩
  walk_at "rdx"
  refine ⟨d, d1, f1, rfl, e1, l1.2.2.1, ?_⟩
  walk_at "rdx"
  refine ⟨x, c_Moon, dx, _, _, rfl, hx, er.cl_Moon, er.na_Moon_many, rfl, ?_⟩
  walk_at "rdx"
  refine ⟨m, d2, f2, rfl, e2, l2.2.2.1, ?_⟩
  walk_at "rdx"
  refine ⟨m, p4, d4, n, _, tm, _, rfl, e4, rfl, rfl, T4, M.gd.b0, M.gd.b1, bn.mono (by decide), fun H1 s1 => ?_⟩
  obtain ⟨d3, p3, e3, T3⟩ := (D.same s1).ex
  walk_at "rdx"
  refine ⟨d, p3, d3, _, _, td, _, rfl, e3, rfl, rfl, T3, D.gd.b0, D.gd.b1, (bt_up g.okm M.gd.b0 M.gd.b1 g.fwm bn).mono (by decide), fun H2 s2 => ?_⟩
  walk_at "rdx"
  exact q _ (s1.trans s2)
theorem sc_Moon_year_at : FnScope ["self", "day"] ["self", "day"] (defScope s_Moon_year_at) := ⟨rfl, rfl, rfl, by decide +kernel, rfl, by decide +kernel, by decide +kernel⟩
theorem ok_Moon_year_at {f : Addr} {fd : FuncData} (F : Fun K "year_at" "Moon.year_at" s_Moon_year_at f fd) (er : Errs K mg c_FeastError c_NoNumber c_NoMeasure c_NoDate c_NoText c_Measure c_Calendar c_Sun c_Moon) (c_Measure_seek : CalM P w K mg base CX0 3 c_Measure "seek" ["self", "total"] (spSeek K c_Measure)) : FnOk P w K mg base CX0 4 f fd ["self", "day"] (spMYA K c_Moon c_Measure) := by
  refine F.ok (k := 3) sc_Moon_year_at (fun vs H Q E h => ?_) (fun cdv A outer s H vs Q E hr h => ?_)
  · obtain ⟨x, n, s, bd, bm, td, tm, rfl, _⟩ := h
    rfl
  obtain ⟨x, n, s, bd, bm, td, tm, rfl, S, bn, q⟩ := h
  obtain ⟨dx, d, m, hx, D, M⟩ := S.ex
  obtain ⟨d1, f1, e1, l1⟩ := D.meth
  obtain ⟨d2, f2, e2, l2⟩ := M.meth
  have g := S.gd
  have b1 : Bt 291 (n - s) := bn.sub S.bs
  refine ⟨_, (pss_one (ps_ret (pe_mcal c_Measure_seek er.cl_Measure (hr.mono (by decide)) (pe_fld (pv 0) (by rfl)) (pa_cons (pe_mcal c_Measure_seek er.cl_Measure (hr.mono (by decide)) (pe_fld (pv 0) (by rfl)) (pa_cons (pe_op op_sub (pv 1) (pe_fld (pv 0) (by rfl))) pa_nil)) pa_nil)))), ?_⟩
  walk_at "rdx"
  refine ⟨x, c_Moon, dx, _, _, rfl, hx, er.cl_Moon, er.na_Moon_many, rfl, ?_⟩
  walk_at "rdx"
  refine ⟨m, d2, f2, rfl, e2, l2.1, ?_⟩
  walk_at "rdx"
  refine ⟨x, c_Moon, dx, _, _, rfl, hx, er.cl_Moon, er.na_Moon_days, rfl, ?_⟩
  walk_at "rdx"
  refine ⟨d, d1, f1, rfl, e1, l1.1, ?_⟩
  walk_at "rdx"
  refine ⟨x, c_Moon, dx, _, _, rfl, hx, er.cl_Moon, er.na_Moon_start, rfl, ?_⟩
  walk_at "rdx"
  refine ⟨d, n - s, _, td, rfl, D, b1.mono (by decide), fun j H1 s1 u1 u2 _ => ?_⟩
  have bj : Bt 291 j := b1.le (seek_small g.okd g.fd u1 u2)
  walk_at "rdx"
  refine ⟨m, j, _, tm, rfl, M.same s1, bj.mono (by decide), fun k H2 s2 v1 v2 _ => ?_⟩
  have bk : Bt 291 k := bj.le (seek_small g.okm g.fm v1 v2)
  have m1 := UP_mono g.okd (Int.le_of_lt g.fd) v1
  have m2 := UP_mono g.okd (Int.le_of_lt g.fd) (show j + 1 ≤ UP bm tm (k + 1) by omega)
  refine q _ _ (s1.trans s2) ?_ ?_ (bk.mono (by decide))
  · unfold MYS
    omega
  · unfold MYS
    omega
theorem sc_Moon_lengths : FnScope ["self", "year", "first"] ["self", "year"] (defScope s_Moon_lengths) := ⟨rfl, rfl, rfl, by decide +kernel, rfl, by decide +kernel, by decide +kernel⟩
theorem ok_Moon_lengths {f : Addr} {fd : FuncData} (F : Fun K "lengths" "Moon.lengths" s_Moon_lengths f fd) (er : Errs K mg c_FeastError c_NoNumber c_NoMeasure c_NoDate c_NoText c_Measure c_Calendar c_Sun c_Moon) (c_Measure_upto : CalM P w K mg base CX0 2 c_Measure "upto" ["self", "k"] (spUpto K c_Measure)) (c_Measure_at : CalM P w K mg base CX0 2 c_Measure "at" ["self", "k"] (spAt K c_Measure)) (z_range : mg "range" = none) : FnOk P w K mg base CX0 3 f fd ["self", "year"] (spMLens K c_Moon c_Measure) := by
  refine F.ok (k := 2) sc_Moon_lengths (fun vs H Q E h => ?_) (fun cdv A outer s H vs Q E hr h => ?_)
  · obtain ⟨x, n, s, bd, bm, td, tm, rfl, _⟩ := h
    rfl
  obtain ⟨x, n, s, bd, bm, td, tm, rfl, S, bn, q⟩ := h
  obtain ⟨dx, d, m, hx, D, M⟩ := S.ex
  obtain ⟨d2, f2, e2, l2⟩ := M.meth
  obtain ⟨d4, p4, e4, T4⟩ := M.ex
  have g := S.gd
  have a0 := AT_pos g.okm g.fm n
  have a1 := AT_le g.okm g.fwm (b := bm) n
  have gm := g.gm
  refine ⟨_, (pss_cons (ps_set (i := 2) sc_Moon_lengths.nd rfl (by first | exact Or.inl rfl | exact Or.inr rfl) (pe_mcal c_Measure_upto er.cl_Measure (hr.mono (by decide)) (pe_fld (pv 0) (by rfl)) (pa_cons (pv 1) pa_nil)))
      (pss_one (ps_ret (pe_comp rfl (compOk_freeM ["self", "year", "first"] ["self", "year", "first"] rfl rfl (by with_unfolding_all rfl) (by decide +kernel) rfl (by decide +kernel) rfl (by decide +kernel) (by walk_at "fm") (by with_unfolding_all rfl) (by with_unfolding_all rfl)) (pi_range1 rfl z_range (pa_cons (pe_mcal c_Measure_at er.cl_Measure (hr.mono (by decide)) (pe_fld (pv 0) (by rfl)) (pa_cons (pv 1) pa_nil)) pa_nil)) (fun _ _ _ _ => pifs_nil) (fun _ _ _ _ => (pe_mcal (ta := tFld K (tVar 1) (Str.ofString "days")) c_Measure_at er.cl_Measure (hr.mono (by decide)) (pe_fld (pv 1) (by rfl)) (pa_cons (pe_op op_add (pv 3) (pv 0)) pa_nil))))))), ?_⟩
  walk_at "rdx"
  refine ⟨x, c_Moon, dx, _, _, rfl, hx, er.cl_Moon, er.na_Moon_many, rfl, ?_⟩
  walk_at "rdx"
  refine ⟨m, d2, f2, rfl, e2, l2.2.2.1, ?_⟩
  walk_at "rdx"
  refine ⟨m, p4, d4, n, _, tm, _, rfl, e4, rfl, rfl, T4, M.gd.b0, M.gd.b1, bn.mono (by decide), fun H1 s1 => ?_⟩
  have hx1 := s1 _ _ hx
  have M1 := M.same s1
  have D1 := D.same s1
  have bu : Bt 386 (UP bm tm n) := bt_up g.okm M.gd.b0 M.gd.b1 g.fwm bn
  obtain ⟨d3, f3, e3, l3⟩ := M1.meth
  walk_at "rdx"
  refine rd_comp (rd_rng1 ?_)
  walk_at "rdx"
  refine ⟨x, c_Moon, dx, _, _, rfl, hx1, er.cl_Moon, er.na_Moon_many, rfl, ?_⟩
  walk_at "rdx"
  refine ⟨m, d3, f3, rfl, e3, l3.2.1, ?_⟩
  walk_at "rdx"
  refine ⟨m, n, _, tm, rfl, M1, bn.mono (by decide), fun H2 s2 => ?_⟩
  have hx2 := s2 _ _ hx1
  have D2 := D1.same s2
  refine ⟨_, rfl, by omega, by omega, ?_⟩
  refine comp_inv walk_r (by rw [List.length_map, List.length_range]; exact small1000 (by omega)) (fun E i ys H3 => H3 E = some (.lst ys) ∧ Same H2 H3 ∧ ys = ((List.range i).map fun j : Nat => AT bd td (UP bm tm n + (j : Int))).map V.int) (fun E hE => ⟨upd_same, same_new hE _, rfl⟩)
    (fun E i ys H3 _ ⟨h1, _, h3⟩ => ⟨h1, by rw [h3, List.length_map, List.length_map, List.length_range]; exact Nat.le_refl _, trivial⟩) (fun E i v ys H3 hE hv ⟨h1, h2, h3⟩ => ?_) (fun E ys H3 hE ⟨h1, h2, h3⟩ => ?_)
  · rw [List.getElem?_map] at hv
    obtain ⟨j, hj, rfl⟩ := Option.map_eq_some_iff.mp hv
    have jl : j < (AT bm tm n).toNat := List.mem_range.mp (List.mem_of_getElem? hj)
    obtain rfl : j = i := by
      have := List.getElem?_eq_some_iff.mp hj
      obtain ⟨_, e⟩ := this
      rw [List.getElem_range] at e
      exact e.symm
    have D3 := D2.same h2
    obtain ⟨d5, f5, e5, l5⟩ := D3.meth
    refine rd_true (iteT ?_)
    rw [Int.zero_add]
    walk_at "rdx"
    refine ⟨x, c_Moon, dx, _, _, rfl, h2 _ _ hx2, er.cl_Moon, er.na_Moon_days, rfl, ?_⟩
    walk_at "rdx"
    refine ⟨d, d5, f5, rfl, e5, l5.2.1, ?_⟩
    walk_at "rdx"
    refine ⟨d, _, _, td, rfl, D3, (bu.add ((show Bt 64 (j : Int) from bt_small (by omega) (by omega) (by decide)).mono (show 64 ≤ 386 by decide))).mono (show 387 ≤ 400 by decide), fun H4 s4 => ?_⟩
    refine ⟨s4 _ _ h1, upd_same, same_app hE (h2.trans s4), ?_⟩
    rw [h3, List.range_succ, List.map_append, List.map_append]
    rfl
  · rw [List.length_map, List.length_range] at h3
    subst h3
    exact q E H3 ((s1.trans s2).free hE) ((s1.trans s2).trans h2) h1
theorem sc_Sun_date_of : FnScope ["self", "day", "year", "rest", "month", "length"] ["self", "day"] (defScope s_Sun_date_of) := ⟨rfl, rfl, rfl, by decide +kernel, rfl, by decide +kernel, by decide +kernel⟩
theorem ok_Sun_date_of {f : Addr} {fd : FuncData} (F : Fun K "date_of" "Calendar.date_of" s_Sun_date_of f fd) (er : Errs K mg c_FeastError c_NoNumber c_NoMeasure c_NoDate c_NoText c_Measure c_Calendar c_Sun c_Moon) (c_Sun_year_at : CalM P w K mg base CX0 4 c_Sun "year_at" ["self", "day"] (spYA K c_Sun c_Measure)) (c_Sun_year_start : CalM P w K mg base CX0 3 c_Sun "year_start" ["self", "year"] (spYS K c_Sun c_Measure)) (c_Sun_lengths : CalM P w K mg base CX0 3 c_Sun "lengths" ["self", "year"] (spLens K c_Sun c_Measure)) : FnOk P w K mg base CX0 5 f fd ["self", "day"] (spDate K c_Sun c_Moon c_Measure true) := by
  refine F.ok (k := 4) sc_Sun_date_of (fun vs H Q E h => ?_) (fun cdv A outer s H vs Q E hr h => ?_)
  · obtain ⟨x, n, d, rfl, _⟩ := h
    rfl
  obtain ⟨x, n, d, rfl, hb, S, bn, q⟩ := h
  obtain ⟨s, ls, lp, ts, rfl⟩ : ∃ s ls lp ts, d = .sun s ls lp ts := by
    cases d with
    | sun s ls lp ts => first | exact ⟨s, ls, lp, ts, rfl⟩ | cases hb
    | moon s bd td bm tm => first | exact (Bool.noConfusion hb) | cases hb
  have g := CalO.good S
  refine ⟨_, (pss_cons (ps_set (i := 2) sc_Sun_date_of.nd rfl (by first | exact Or.inl rfl | exact Or.inr rfl) (pe_mcal c_Sun_year_at er.cl_Sun (hr.mono (by decide)) (pv 0) (pa_cons (pv 1) pa_nil)))
      (pss_cons (ps_set (i := 3) sc_Sun_date_of.nd rfl (by first | exact Or.inl rfl | exact Or.inr rfl) (pe_op op_sub (pv 1) (pe_mcal c_Sun_year_start er.cl_Sun (hr.mono (by decide)) (pv 0) (pa_cons (pv 2) pa_nil))))
      (pss_cons (ps_set (i := 4) sc_Sun_date_of.nd rfl (by first | exact Or.inl rfl | exact Or.inr rfl) pe_int)
      (pss_cons (ps_for PassesOwn.never rfl (pi_list (pe_mcal c_Sun_lengths er.cl_Sun (hr.mono (by decide)) (pv 0) (pa_cons (pv 2) pa_nil))) (pg_name (i := 5) sc_Sun_date_of.nd rfl (by first | exact Or.inl rfl | exact Or.inr rfl))
        (pss_cons (ps_if (pt_cmpR op_lt (pv 3) (pv 5) (nomark _))
        (pss_one ps_break)
        pss_nil)
      (pss_cons (ps_set (i := 3) sc_Sun_date_of.nd rfl (by first | exact Or.inl rfl | exact Or.inr rfl) (pe_op op_sub (pv 3) (pv 5)))
      (pss_one (ps_set (i := 4) sc_Sun_date_of.nd rfl (by first | exact Or.inl rfl | exact Or.inr rfl) (pe_op op_add (pv 4) pe_int))))))
      (pss_one (ps_ret (pe_tup (pa_cons (pv 2) (pa_cons (pv 4) (pa_cons (pe_op op_add (pv 3) pe_int) pa_nil)))))))))), ?_⟩
  walk_at "rdx"
  obtain ⟨dx, fs, e, ml⟩ := SunO.meth S
  refine ⟨x, dx, fs, rfl, e, ml.2.1, ?_⟩
  walk_at "rdx"
  refine ⟨x, n, s, ls, lp, ts, rfl, S, bn, fun y H1 s1 y0 y1 by' => ?_⟩
  have S1 := CalO.same S s1
  walk_at "rdx"
  obtain ⟨dx1, fs1, e1, ml1⟩ := SunO.meth S1
  refine ⟨x, dx1, fs1, rfl, e1, ml1.1, ?_⟩
  walk_at "rdx"
  refine ⟨x, y, s, ls, lp, ts, rfl, S1, by'.mono (by decide), fun H2 s2 => ?_⟩
  have S2 := CalO.same S1 s2
  walk_at "rdx"
  walk_at "rdf"
  walk_at "rdx"
  obtain ⟨dx2, fs2, e2, ml2⟩ := SunO.meth S2
  refine ⟨x, dx2, fs2, rfl, e2, ml2.2.2.1, ?_⟩
  walk_at "rdx"
  refine ⟨x, y, s, ls, lp, ts, rfl, S2, by'.mono (by decide), fun l H3 hl s3 t3 => ?_⟩
  have st := CalD.step g y
  have nn := CalD.mem g y
  have ln := CalD.len g y
  generalize hD : CalD.sun s ls lp ts = d at *
  replace y0 : d.Y y ≤ n := by rw [← hD]; exact y0
  replace y1 : n < d.Y (y + 1) := by rw [← hD]; exact y1
  replace t3 : H3 l = some (.lst ((d.L y).map V.int)) := by rw [← hD]; exact t3
  have eY : s + UP ls.sum ts y = d.Y y := by rw [← hD]; rfl
  rw [eY]
  refine ⟨l, rfl, ⟨_, SqL.of t3⟩, for_list (xs := (d.L y).map V.int) (fun i σ' H' => H3 = H' ∧ i ≤ (d.L y).length ∧ PS (d.L y) i ≤ n - d.Y y ∧ ∃ c : Option V, σ' = [some (.ref x), some (.int n), some (.int y), some (.int (n - d.Y y - PS (d.L y) i)), some (.int ((i : Int) + 1)), c]) ⟨rfl, Nat.zero_le _, by rw [PS_zero]; omega, none, ?_⟩ ?_ ?_ ?_⟩
  · rw [PS_zero, Int.sub_zero]
    rfl
  · rintro i σ' H' _ ⟨rfl, _⟩
    exact SqL.of t3
  · rintro i v σ' H' hv ⟨rfl, hi, hp, c, rfl⟩
    rw [List.getElem?_map] at hv
    obtain ⟨z, hz, rfl⟩ := Option.map_eq_some_iff.mp hv
    have il : i < (d.L y).length := (List.getElem?_eq_some_iff.mp hz).1
    have ez : (d.L y).getD i 0 = z := by
      rw [List.getD_eq_getElem?_getD, hz]
      rfl
    have ps := PS_succ il
    rw [ez] at ps
    walk_at "rdx"
    refine ite2d (fun c1 => ?_) (fun c1 => ?_)
    · walk_at "rdx"
      refine rd_brk ?_
      walk_at "rdx"
      refine ⟨three, fun p hp' => ?_⟩
      refine q p y ((i : Int) + 1) _ _ ((s1.trans s2).trans (s3.trans (same_new hp' _))) upd_same ⟨by omega, by omega, by omega, ?_⟩ ?_ by'
      · rw [show ((i : Int) + 1 - 1).toNat = i by omega, ez]
        omega
      · unfold DayOf
        rw [show ((i : Int) + 1 - 1).toNat = i by omega]
        omega
    · walk_at "rdx"
      refine ⟨rfl, by omega, by omega, some (.int z), ?_⟩
      rw [ps, show n - d.Y y - (PS (d.L y) i + z) = n - d.Y y - PS (d.L y) i - z by omega, show ((i + 1 : Nat) : Int) + 1 = (i : Int) + 1 + 1 by omega]
      rfl
  · rintro σ' H' ⟨rfl, _, hp, c, rfl⟩
    rw [List.length_map, PS_len] at hp
    omega
theorem sc_Moon_date_of : FnScope ["self", "day", "year", "rest", "month", "length"] ["self", "day"] (defScope s_Moon_date_of) := ⟨rfl, rfl, rfl, by decide +kernel, rfl, by decide +kernel, by decide +kernel⟩
theorem ok_Moon_date_of {f : Addr} {fd : FuncData} (F : Fun K "date_of" "Calendar.date_of" s_Moon_date_of f fd) (er : Errs K mg c_FeastError c_NoNumber c_NoMeasure c_NoDate c_NoText c_Measure c_Calendar c_Sun c_Moon) (c_Moon_year_at : CalM P w K mg base CX0 4 c_Moon "year_at" ["self", "day"] (spMYA K c_Moon c_Measure)) (c_Moon_year_start : CalM P w K mg base CX0 3 c_Moon "year_start" ["self", "year"] (spMYS K c_Moon c_Measure)) (c_Moon_lengths : CalM P w K mg base CX0 3 c_Moon "lengths" ["self", "year"] (spMLens K c_Moon c_Measure)) : FnOk P w K mg base CX0 5 f fd ["self", "day"] (spDate K c_Sun c_Moon c_Measure false) := by
  refine F.ok (k := 4) sc_Moon_date_of (fun vs H Q E h => ?_) (fun cdv A outer s H vs Q E hr h => ?_)
  · obtain ⟨x, n, d, rfl, _⟩ := h
    rfl
  obtain ⟨x, n, d, rfl, hb, S, bn, q⟩ := h
  obtain ⟨s, bd, td, bm, tm, rfl⟩ : ∃ s bd td bm tm, d = .moon s bd td bm tm := by
    cases d with
    | sun s ls lp ts => first | exact (Bool.noConfusion hb) | cases hb
    | moon s bd td bm tm => first | exact ⟨s, bd, td, bm, tm, rfl⟩ | cases hb
  have g := CalO.good S
  refine ⟨_, (pss_cons (ps_set (i := 2) sc_Moon_date_of.nd rfl (by first | exact Or.inl rfl | exact Or.inr rfl) (pe_mcal c_Moon_year_at er.cl_Moon (hr.mono (by decide)) (pv 0) (pa_cons (pv 1) pa_nil)))
      (pss_cons (ps_set (i := 3) sc_Moon_date_of.nd rfl (by first | exact Or.inl rfl | exact Or.inr rfl) (pe_op op_sub (pv 1) (pe_mcal c_Moon_year_start er.cl_Moon (hr.mono (by decide)) (pv 0) (pa_cons (pv 2) pa_nil))))
      (pss_cons (ps_set (i := 4) sc_Moon_date_of.nd rfl (by first | exact Or.inl rfl | exact Or.inr rfl) pe_int)
      (pss_cons (ps_for PassesOwn.never rfl (pi_list (pe_mcal c_Moon_lengths er.cl_Moon (hr.mono (by decide)) (pv 0) (pa_cons (pv 2) pa_nil))) (pg_name (i := 5) sc_Moon_date_of.nd rfl (by first | exact Or.inl rfl | exact Or.inr rfl))
        (pss_cons (ps_if (pt_cmpR op_lt (pv 3) (pv 5) (nomark _))
        (pss_one ps_break)
        pss_nil)
      (pss_cons (ps_set (i := 3) sc_Moon_date_of.nd rfl (by first | exact Or.inl rfl | exact Or.inr rfl) (pe_op op_sub (pv 3) (pv 5)))
      (pss_one (ps_set (i := 4) sc_Moon_date_of.nd rfl (by first | exact Or.inl rfl | exact Or.inr rfl) (pe_op op_add (pv 4) pe_int))))))
      (pss_one (ps_ret (pe_tup (pa_cons (pv 2) (pa_cons (pv 4) (pa_cons (pe_op op_add (pv 3) pe_int) pa_nil)))))))))), ?_⟩
  walk_at "rdx"
  obtain ⟨dx, fs, e, ml⟩ := MoonO.meth S
  refine ⟨x, dx, fs, rfl, e, ml.2.1, ?_⟩
  walk_at "rdx"
  refine ⟨x, n, s, bd, bm, td, tm, rfl, S, bn, fun y H1 s1 y0 y1 by' => ?_⟩
  have S1 := CalO.same S s1
  walk_at "rdx"
  obtain ⟨dx1, fs1, e1, ml1⟩ := MoonO.meth S1
  refine ⟨x, dx1, fs1, rfl, e1, ml1.1, ?_⟩
  walk_at "rdx"
  refine ⟨x, y, s, bd, bm, td, tm, rfl, S1, by'.mono (by decide), fun H2 s2 => ?_⟩
  have S2 := CalO.same S1 s2
  walk_at "rdx"
  walk_at "rdf"
  walk_at "rdx"
  obtain ⟨dx2, fs2, e2, ml2⟩ := MoonO.meth S2
  refine ⟨x, dx2, fs2, rfl, e2, ml2.2.2.1, ?_⟩
  walk_at "rdx"
  refine ⟨x, y, s, bd, bm, td, tm, rfl, S2, by'.mono (by decide), fun l H3 hl s3 t3 => ?_⟩
  have st := CalD.step g y
  have nn := CalD.mem g y
  have ln := CalD.len g y
  generalize hD : CalD.moon s bd td bm tm = d at *
  replace y0 : d.Y y ≤ n := by rw [← hD]; exact y0
  replace y1 : n < d.Y (y + 1) := by rw [← hD]; exact y1
  replace t3 : H3 l = some (.lst ((d.L y).map V.int)) := by rw [← hD]; exact t3
  have eY : MYS s bd td bm tm y = d.Y y := by rw [← hD]; rfl
  rw [eY]
  refine ⟨l, rfl, ⟨_, SqL.of t3⟩, for_list (xs := (d.L y).map V.int) (fun i σ' H' => H3 = H' ∧ i ≤ (d.L y).length ∧ PS (d.L y) i ≤ n - d.Y y ∧ ∃ c : Option V, σ' = [some (.ref x), some (.int n), some (.int y), some (.int (n - d.Y y - PS (d.L y) i)), some (.int ((i : Int) + 1)), c]) ⟨rfl, Nat.zero_le _, by rw [PS_zero]; omega, none, ?_⟩ ?_ ?_ ?_⟩
  · rw [PS_zero, Int.sub_zero]
    rfl
  · rintro i σ' H' _ ⟨rfl, _⟩
    exact SqL.of t3
  · rintro i v σ' H' hv ⟨rfl, hi, hp, c, rfl⟩
    rw [List.getElem?_map] at hv
    obtain ⟨z, hz, rfl⟩ := Option.map_eq_some_iff.mp hv
    have il : i < (d.L y).length := (List.getElem?_eq_some_iff.mp hz).1
    have ez : (d.L y).getD i 0 = z := by
      rw [List.getD_eq_getElem?_getD, hz]
      rfl
    have ps := PS_succ il
    rw [ez] at ps
    walk_at "rdx"
    refine ite2d (fun c1 => ?_) (fun c1 => ?_)
    · walk_at "rdx"
      refine rd_brk ?_
      walk_at "rdx"
      refine ⟨three, fun p hp' => ?_⟩
      refine q p y ((i : Int) + 1) _ _ ((s1.trans s2).trans (s3.trans (same_new hp' _))) upd_same ⟨by omega, by omega, by omega, ?_⟩ ?_ by'
      · rw [show ((i : Int) + 1 - 1).toNat = i by omega, ez]
        omega
      · unfold DayOf
        rw [show ((i : Int) + 1 - 1).toNat = i by omega]
        omega
    · walk_at "rdx"
      refine ⟨rfl, by omega, by omega, some (.int z), ?_⟩
      rw [ps, show n - d.Y y - (PS (d.L y) i + z) = n - d.Y y - PS (d.L y) i - z by omega, show ((i + 1 : Nat) : Int) + 1 = (i : Int) + 1 + 1 by omega]
      rfl
  · rintro σ' H' ⟨rfl, _, hp, c, rfl⟩
    rw [List.length_map, PS_len] at hp
    omega
theorem sc_Sun_day_of : FnScope ["self", "date", "lengths"] ["self", "date"] (defScope s_Sun_day_of) := ⟨rfl, rfl, rfl, by decide +kernel, rfl, by decide +kernel, by decide +kernel⟩
theorem ok_Sun_day_of {f : Addr} {fd : FuncData} (F : Fun K "day_of" "Calendar.day_of" s_Sun_day_of f fd) (er : Errs K mg c_FeastError c_NoNumber c_NoMeasure c_NoDate c_NoText c_Measure c_Calendar c_Sun c_Moon) (c_Sun_lengths : CalM P w K mg base CX0 3 c_Sun "lengths" ["self", "year"] (spLens K c_Sun c_Measure)) (c_Sun_year_start : CalM P w K mg base CX0 3 c_Sun "year_start" ["self", "year"] (spYS K c_Sun c_Measure)) (z_len : mg "len" = none) (z_sum : mg "sum" = none) : FnOk P w K mg base CX0 4 f fd ["self", "date"] (spDay K c_Sun c_Moon c_Measure true) := by
  refine F.ok (k := 3) sc_Sun_day_of (fun vs H Q E h => ?_) (fun cdv A outer s H vs Q E hr h => ?_)
  · obtain ⟨x, p, y, m, r, d, rfl, _⟩ := h
    rfl
  obtain ⟨x, p, y, m, r, d, rfl, hb, S, hp, hd, by', q⟩ := h
  obtain ⟨s, ls, lp, ts, rfl⟩ : ∃ s ls lp ts, d = .sun s ls lp ts := by
    cases d with
    | sun s ls lp ts => first | exact ⟨s, ls, lp, ts, rfl⟩ | cases hb
    | moon s bd td bm tm => first | exact (Bool.noConfusion hb) | cases hb
  have g := CalO.good S
  have m0 := hd.m0
  have m1 := hd.m1
  have r0 := hd.r0
  have r1 := hd.r1
  have ln := CalD.len g y
  refine ⟨_, (pss_cons (ps_set (i := 2) sc_Sun_day_of.nd rfl (by first | exact Or.inl rfl | exact Or.inr rfl) (pe_mcal c_Sun_lengths er.cl_Sun (hr.mono (by decide)) (pv 0) (pa_cons (pe_ix ix_tup (pv 1) pe_int (fun _ _ => rfl)) pa_nil)))
      (pss_cons (ps_if (PW.pt (pw_or (pt_cmpR op_lt (pe_ix ix_tup (pv 1) pe_int (fun _ _ => rfl)) pe_int (nomark _)) (pw_or1 (pt_cmpR op_gt (pe_ix ix_tup (pv 1) pe_int (fun _ _ => rfl)) (pe_callB call_len_seq rfl z_len PySem.boot_len (pa_cons (pv 2) pa_nil)) (nomark _)))))
        (pss_one ps_never)
        pss_nil)
      (pss_cons (ps_if (PW.pt (pw_or (pt_cmpR op_lt (pe_ix ix_tup (pv 1) pe_int (fun _ _ => rfl)) pe_int (nomark _)) (pw_or1 (pt_cmpR op_gt (pe_ix ix_tup (pv 1) pe_int (fun _ _ => rfl)) (pe_ix ix_list (pv 2) (pe_op op_sub (pe_ix ix_tup (pv 1) pe_int (fun _ _ => rfl)) pe_int) (fun _ _ => rfl)) (nomark _)))))
        (pss_one ps_never)
        pss_nil)
      (pss_one (ps_ret (pe_op op_sub (pe_op op_add (pe_op op_add (pe_mcal c_Sun_year_start er.cl_Sun (hr.mono (by decide)) (pv 0) (pa_cons (pe_ix ix_tup (pv 1) pe_int (fun _ _ => rfl)) pa_nil)) (pe_callB (call_sum rfl) rfl z_sum PyProof.Rows.boot_sum (pa_cons (pe_slice sl_list (pv 2) po_none (po_some (pe_op op_sub (pe_ix ix_tup (pv 1) pe_int (fun _ _ => rfl)) pe_int))) pa_nil))) (pe_ix ix_tup (pv 1) pe_int (fun _ _ => rfl))) pe_int)))))), ?_⟩
  walk_at "rdx"
  obtain ⟨dx, fs, e, ml⟩ := SunO.meth S
  refine ⟨x, dx, fs, rfl, e, ml.2.2.1, ?_⟩
  walk_at "rdx"
  refine rd_ixT hp rfl ?_
  walk_at "rdx"
  refine ⟨x, y, s, ls, lp, ts, rfl, S, by'.mono (by decide), fun l H1 hl s1 t1 => ?_⟩
  have S1 := CalO.same S s1
  have hp1 := s1.tup hp
  replace t1 : H1 l = some (.lst (((CalD.sun s ls lp ts).L y).map V.int)) := t1
  generalize hLY : (CalD.sun s ls lp ts).L y = LY at *
  walk_at "rdx"
  refine rd_ixT hp1 rfl ?_
  walk_at "rdx"
  refine iteN (by omega) ?_
  walk_at "rdx"
  refine rd_ixT hp1 rfl ?_
  walk_at "rdx"
  refine ⟨l, _, rfl, .inl (SqL.of t1), ?_⟩
  rw [List.length_map]
  walk_at "rdx"
  refine iteN (by omega) ?_
  walk_at "rdx"
  refine rd_ixT hp1 rfl ?_
  walk_at "rdx"
  refine iteN (by omega) ?_
  walk_at "rdx"
  refine rd_ixT hp1 rfl ?_
  walk_at "rdx"
  refine rd_ixT hp1 rfl ?_
  walk_at "rdx"
  have em : m - 1 = (((m - 1).toNat : Nat) : Int) := by omega
  have hat : atI (LY.map V.int) (m - 1) = some (V.int (LY.getD (m - 1).toNat 0)) := by
    conv => lhs; rw [em]
    refine atI_nat ?_
    rw [List.getElem?_map, List.getD_eq_getElem?_getD, List.getElem?_eq_getElem (by omega)]
    rfl
  refine rd_ixL (SqL.of t1) hat ?_
  walk_at "rdx"
  refine iteN (by omega) ?_
  walk_at "rdx"
  obtain ⟨dx1, fs1, e1, ml1⟩ := SunO.meth S1
  refine ⟨x, dx1, fs1, rfl, e1, ml1.1, ?_⟩
  walk_at "rdx"
  refine rd_ixT hp1 rfl ?_
  walk_at "rdx"
  refine ⟨x, y, s, ls, lp, ts, rfl, S1, by'.mono (by decide), fun H2 s2 => ?_⟩
  have hp2 := s2.tup hp1
  walk_at "rdx"
  refine rd_ixT hp2 rfl ?_
  walk_at "rdx"
  rw [em]
  refine rd_slL (SqL.of (s2 _ _ t1)) fun e he => ?_
  rw [cutV_upto LY (by omega)]
  have s3 := same_new he (.lst ((LY.take (m - 1).toNat).map V.int))
  have t3 : upd H2 e (.lst ((LY.take (m - 1).toNat).map V.int)) e = some (.lst ((LY.take (m - 1).toNat).map V.int)) := upd_same
  generalize upd H2 e (.lst ((LY.take (m - 1).toNat).map V.int)) = H3 at s3 t3 ⊢
  walk_at "rdx"
  refine ⟨e, _, rfl, SqL.of t3, ?_⟩
  walk_at "rdx"
  refine rd_ixT (s3.tup hp2) rfl ?_
  walk_at "rdx"
  have := q H3 ((s1.trans s2).trans s3)
  unfold DayOf at this
  rw [hLY] at this
  exact this
theorem sc_Moon_day_of : FnScope ["self", "date", "lengths"] ["self", "date"] (defScope s_Moon_day_of) := ⟨rfl, rfl, rfl, by decide +kernel, rfl, by decide +kernel, by decide +kernel⟩
theorem ok_Moon_day_of {f : Addr} {fd : FuncData} (F : Fun K "day_of" "Calendar.day_of" s_Moon_day_of f fd) (er : Errs K mg c_FeastError c_NoNumber c_NoMeasure c_NoDate c_NoText c_Measure c_Calendar c_Sun c_Moon) (c_Moon_lengths : CalM P w K mg base CX0 3 c_Moon "lengths" ["self", "year"] (spMLens K c_Moon c_Measure)) (c_Moon_year_start : CalM P w K mg base CX0 3 c_Moon "year_start" ["self", "year"] (spMYS K c_Moon c_Measure)) (z_len : mg "len" = none) (z_sum : mg "sum" = none) : FnOk P w K mg base CX0 4 f fd ["self", "date"] (spDay K c_Sun c_Moon c_Measure false) := by
  refine F.ok (k := 3) sc_Moon_day_of (fun vs H Q E h => ?_) (fun cdv A outer s H vs Q E hr h => ?_)
  · obtain ⟨x, p, y, m, r, d, rfl, _⟩ := h
    rfl
  obtain ⟨x, p, y, m, r, d, rfl, hb, S, hp, hd, by', q⟩ := h
  obtain ⟨s, bd, td, bm, tm, rfl⟩ : ∃ s bd td bm tm, d = .moon s bd td bm tm := by
    cases d with
    | sun s ls lp ts => first | exact (Bool.noConfusion hb) | cases hb
    | moon s bd td bm tm => first | exact ⟨s, bd, td, bm, tm, rfl⟩ | cases hb
  have g := CalO.good S
  have m0 := hd.m0
  have m1 := hd.m1
  have r0 := hd.r0
  have r1 := hd.r1
  have ln := CalD.len g y
  refine ⟨_, (pss_cons (ps_set (i := 2) sc_Moon_day_of.nd rfl (by first | exact Or.inl rfl | exact Or.inr rfl) (pe_mcal c_Moon_lengths er.cl_Moon (hr.mono (by decide)) (pv 0) (pa_cons (pe_ix ix_tup (pv 1) pe_int (fun _ _ => rfl)) pa_nil)))
      (pss_cons (ps_if (PW.pt (pw_or (pt_cmpR op_lt (pe_ix ix_tup (pv 1) pe_int (fun _ _ => rfl)) pe_int (nomark _)) (pw_or1 (pt_cmpR op_gt (pe_ix ix_tup (pv 1) pe_int (fun _ _ => rfl)) (pe_callB call_len_seq rfl z_len PySem.boot_len (pa_cons (pv 2) pa_nil)) (nomark _)))))
        (pss_one ps_never)
        pss_nil)
      (pss_cons (ps_if (PW.pt (pw_or (pt_cmpR op_lt (pe_ix ix_tup (pv 1) pe_int (fun _ _ => rfl)) pe_int (nomark _)) (pw_or1 (pt_cmpR op_gt (pe_ix ix_tup (pv 1) pe_int (fun _ _ => rfl)) (pe_ix ix_list (pv 2) (pe_op op_sub (pe_ix ix_tup (pv 1) pe_int (fun _ _ => rfl)) pe_int) (fun _ _ => rfl)) (nomark _)))))
        (pss_one ps_never)
        pss_nil)
      (pss_one (ps_ret (pe_op op_sub (pe_op op_add (pe_op op_add (pe_mcal c_Moon_year_start er.cl_Moon (hr.mono (by decide)) (pv 0) (pa_cons (pe_ix ix_tup (pv 1) pe_int (fun _ _ => rfl)) pa_nil)) (pe_callB (call_sum rfl) rfl z_sum PyProof.Rows.boot_sum (pa_cons (pe_slice sl_list (pv 2) po_none (po_some (pe_op op_sub (pe_ix ix_tup (pv 1) pe_int (fun _ _ => rfl)) pe_int))) pa_nil))) (pe_ix ix_tup (pv 1) pe_int (fun _ _ => rfl))) pe_int)))))), ?_⟩
  walk_at "rdx"
  obtain ⟨dx, fs, e, ml⟩ := MoonO.meth S
  refine ⟨x, dx, fs, rfl, e, ml.2.2.1, ?_⟩
  walk_at "rdx"
  refine rd_ixT hp rfl ?_
  walk_at "rdx"
  refine ⟨x, y, s, bd, bm, td, tm, rfl, S, by'.mono (by decide), fun l H1 hl s1 t1 => ?_⟩
  have S1 := CalO.same S s1
  have hp1 := s1.tup hp
  replace t1 : H1 l = some (.lst (((CalD.moon s bd td bm tm).L y).map V.int)) := t1
  generalize hLY : (CalD.moon s bd td bm tm).L y = LY at *
  walk_at "rdx"
  refine rd_ixT hp1 rfl ?_
  walk_at "rdx"
  refine iteN (by omega) ?_
  walk_at "rdx"
  refine rd_ixT hp1 rfl ?_
  walk_at "rdx"
  refine ⟨l, _, rfl, .inl (SqL.of t1), ?_⟩
  rw [List.length_map]
  walk_at "rdx"
  refine iteN (by omega) ?_
  walk_at "rdx"
  refine rd_ixT hp1 rfl ?_
  walk_at "rdx"
  refine iteN (by omega) ?_
  walk_at "rdx"
  refine rd_ixT hp1 rfl ?_
  walk_at "rdx"
  refine rd_ixT hp1 rfl ?_
  walk_at "rdx"
  have em : m - 1 = (((m - 1).toNat : Nat) : Int) := by omega
  have hat : atI (LY.map V.int) (m - 1) = some (V.int (LY.getD (m - 1).toNat 0)) := by
    conv => lhs; rw [em]
    refine atI_nat ?_
    rw [List.getElem?_map, List.getD_eq_getElem?_getD, List.getElem?_eq_getElem (by omega)]
    rfl
  refine rd_ixL (SqL.of t1) hat ?_
  walk_at "rdx"
  refine iteN (by omega) ?_
  walk_at "rdx"
  obtain ⟨dx1, fs1, e1, ml1⟩ := MoonO.meth S1
  refine ⟨x, dx1, fs1, rfl, e1, ml1.1, ?_⟩
  walk_at "rdx"
  refine rd_ixT hp1 rfl ?_
  walk_at "rdx"
  refine ⟨x, y, s, bd, bm, td, tm, rfl, S1, by'.mono (by decide), fun H2 s2 => ?_⟩
  have hp2 := s2.tup hp1
  walk_at "rdx"
  refine rd_ixT hp2 rfl ?_
  walk_at "rdx"
  rw [em]
  refine rd_slL (SqL.of (s2 _ _ t1)) fun e he => ?_
  rw [cutV_upto LY (by omega)]
  have s3 := same_new he (.lst ((LY.take (m - 1).toNat).map V.int))
  have t3 : upd H2 e (.lst ((LY.take (m - 1).toNat).map V.int)) e = some (.lst ((LY.take (m - 1).toNat).map V.int)) := upd_same
  generalize upd H2 e (.lst ((LY.take (m - 1).toNat).map V.int)) = H3 at s3 t3 ⊢
  walk_at "rdx"
  refine ⟨e, _, rfl, SqL.of t3, ?_⟩
  walk_at "rdx"
  refine rd_ixT (s3.tup hp2) rfl ?_
  walk_at "rdx"
  have := q H3 ((s1.trans s2).trans s3)
  unfold DayOf at this
  rw [hLY] at this
  exact this
theorem sc_Moon_cycle : FnScope ["self", "years", "months", "times"] ["self"] (defScope s_Moon_cycle) := ⟨rfl, rfl, rfl, by decide +kernel, rfl, by decide +kernel, by decide +kernel⟩
theorem ok_Moon_cycle {f : Addr} {fd : FuncData} (F : Fun K "cycle" "Moon.cycle" s_Moon_cycle f fd) (er : Errs K mg c_FeastError c_NoNumber c_NoMeasure c_NoDate c_NoText c_Measure c_Calendar c_Sun c_Moon) (c_Measure_period : CalM P w K mg base CX0 1 c_Measure "period" ["self"] (spPer K c_Measure)) (c_Measure_upto : CalM P w K mg base CX0 2 c_Measure "upto" ["self", "k"] (spUpto K c_Measure)) (c_divisor : Cal P w K mg base 2 "divisor" ["one", "other"] spDivisor) : FnOk P w K mg base CX0 3 f fd ["self"] (spMCyc K c_Moon c_Measure) := by
  refine F.ok (k := 2) sc_Moon_cycle (fun vs H Q E h => ?_) (fun cdv A outer s H vs Q E hr h => ?_)
  · obtain ⟨x, s, bd, bm, td, tm, rfl, _⟩ := h
    rfl
  obtain ⟨x, s, bd, bm, td, tm, rfl, S, q⟩ := h
  obtain ⟨dx, d, m, hx, D, M⟩ := S.ex
  obtain ⟨d1, f1, e1, l1⟩ := D.meth
  obtain ⟨d2, f2, e2, l2⟩ := M.meth
  obtain ⟨d4, p4, e4, T4⟩ := M.ex
  have g := S.gd
  obtain ⟨Pm0, Pm1, Pmd⟩ := per_pos g.okm g.fwm
  obtain ⟨Pd0, Pd1, Pdd⟩ := per_pos g.okd g.fwd
  have M0 := UP_pos (base := bm) g.okm g.fm Pm0
  have MA := UP_abs (b := bm) g.okm M.gd.b0 M.gd.b1 g.fwm (k := PER tm) (K := PER tm) (by omega) (by omega)
  refine ⟨_, (pss_cons (ps_set (i := 1) sc_Moon_cycle.nd rfl (by first | exact Or.inl rfl | exact Or.inr rfl) (pe_mcal0 c_Measure_period er.cl_Measure (hr.mono (by decide)) (pe_fld (pv 0) (by rfl))))
      (pss_cons (ps_set (i := 2) sc_Moon_cycle.nd rfl (by first | exact Or.inl rfl | exact Or.inr rfl) (pe_mcal c_Measure_upto er.cl_Measure (hr.mono (by decide)) (pe_fld (pv 0) (by rfl)) (pa_cons (pv 1) pa_nil)))
      (pss_cons (ps_set (i := 3) sc_Moon_cycle.nd rfl (by first | exact Or.inl rfl | exact Or.inr rfl) (pe_op op_fdivB (pe_mcal0 c_Measure_period er.cl_Measure (hr.mono (by decide)) (pe_fld (pv 0) (by rfl))) (pe_cal c_divisor (hr.mono (by decide)) rfl (pa_cons (pe_mcal0 c_Measure_period er.cl_Measure (hr.mono (by decide)) (pe_fld (pv 0) (by rfl))) (pa_cons (pv 2) pa_nil)))))
      (pss_one (ps_ret (pe_tup (pa_cons (pe_op op_mulB (pv 1) (pv 3)) (pa_cons (pe_mcal c_Measure_upto er.cl_Measure (hr.mono (by decide)) (pe_fld (pv 0) (by rfl)) (pa_cons (pe_op op_mulB (pv 2) (pv 3)) pa_nil)) pa_nil)))))))), ?_⟩
  walk_at "rdx"
  refine ⟨x, c_Moon, dx, _, _, rfl, hx, er.cl_Moon, er.na_Moon_many, rfl, ?_⟩
  walk_at "rdx"
  refine ⟨m, d2, f2, rfl, e2, l2.2.2.2, ?_⟩
  walk_at "rdx"
  refine ⟨m, _, tm, rfl, M, ?_⟩
  walk_at "rdx"
  refine ⟨x, c_Moon, dx, _, _, rfl, hx, er.cl_Moon, er.na_Moon_many, rfl, ?_⟩
  walk_at "rdx"
  refine ⟨m, d2, f2, rfl, e2, l2.2.2.1, ?_⟩
  walk_at "rdx"
  refine ⟨m, p4, d4, _, _, tm, _, rfl, e4, rfl, rfl, T4, M.gd.b0, M.gd.b1, bt_small (by omega) (by omega) (by decide), fun H1 s1 => ?_⟩
  have hx1 := s1 _ _ hx
  have D1 := D.same s1
  obtain ⟨d5, f5, e5, l5⟩ := D1.meth
  have eT : moT td bm tm = PER td / (Int.gcd (PER td) (UP bm tm (PER tm)) : Int) := rfl
  generalize hM : UP bm tm (PER tm) = MM at *
  walk_at "rdx"
  refine ⟨x, c_Moon, dx, _, _, rfl, hx1, er.cl_Moon, er.na_Moon_days, rfl, ?_⟩
  walk_at "rdx"
  refine ⟨d, d5, f5, rfl, e5, l5.2.2.2, ?_⟩
  walk_at "rdx"
  refine ⟨d, _, td, rfl, D1, ?_⟩
  walk_at "rdx"
  refine ⟨x, c_Moon, dx, _, _, rfl, hx1, er.cl_Moon, er.na_Moon_days, rfl, ?_⟩
  walk_at "rdx"
  refine ⟨d, d5, f5, rfl, e5, l5.2.2.2, ?_⟩
  walk_at "rdx"
  refine ⟨d, _, td, rfl, D1, ?_⟩
  walk_at "rdx"
  refine ⟨_, _, rfl, bt_small (by omega) (by omega) (by decide), (bt_of (by omega) (by omega)).mono (by decide), fun H2 s2 => ?_⟩
  have g0 := gcd_pos (b := MM) Pd0
  have g1 := gcd_le (b := MM) Pd0
  walk_at "rdx"
  refine rd_i (cdiv_small g0 (by omega)) ?_
  rw [← eT]
  have t0 : 0 ≤ moT td bm tm := by rw [eT]; exact Int.ediv_nonneg (by omega) (by omega)
  have t1 : moT td bm tm ≤ PER td := by rw [eT]; exact Int.ediv_le_self _ (by omega)
  generalize moT td bm tm = T at *
  have D2 := D1.same s2
  have hx2 := s2 _ _ hx1
  obtain ⟨d6, f6, e6, l6⟩ := D2.meth
  obtain ⟨d7, p7, e7, T7⟩ := D2.ex
  have bM : Bt 200 MM := bt_of (by omega) (by omega)
  have bT : Bt 64 T := bt_small (by omega) (by omega) (by decide)
  walk_at "rdx"
  refine rd_i ⟨64, 64, bt_small (by omega) (by omega) (by decide), bT, by decide⟩ ?_
  walk_at "rdx"
  refine ⟨x, c_Moon, dx, _, _, rfl, hx2, er.cl_Moon, er.na_Moon_days, rfl, ?_⟩
  walk_at "rdx"
  refine ⟨d, d6, f6, rfl, e6, l6.2.2.1, ?_⟩
  walk_at "rdx"
  refine rd_i ⟨200, 64, bM, bT, by decide⟩ ?_
  refine ⟨d, p7, d7, _, _, td, _, rfl, e7, rfl, rfl, T7, D.gd.b0, D.gd.b1, (bM.mul bT).mono (by decide), fun H3 s3 => ?_⟩
  walk_at "rdx"
  refine ⟨two, fun c hc => ?_⟩
  exact q _ _ ((s1.trans s2).trans (s3.trans (same_new hc _))) upd_same
theorem sc_is_number : FnScope ["text", "figures"] ["text"] (defScope s_is_number) := ⟨rfl, rfl, rfl, by decide +kernel, rfl, by decide +kernel, by decide +kernel⟩
theorem ok_is_number {f : Addr} {fd : FuncData} (F : Fun K "is_number" "is_number" s_is_number f fd) (z_len : mg "len" = none) (z_all : mg "all" = none) {tk_MOST_FIGURES : Tok} (m_MOST_FIGURES : mg "MOST_FIGURES" = some (.int 60 tk_MOST_FIGURES)) {tk_FIGURES : Tok} (m_FIGURES : mg "FIGURES" = some (.str "0123456789" tk_FIGURES)) : FnOk P w K mg base CX0 1 f fd ["text"] spIsNum := by
  refine F.ok (k := 0) sc_is_number (fun vs H Q E h => ?_) (fun cdv A outer s H vs Q E hr h => ?_)
  · obtain ⟨z, rfl, _⟩ := h
    rfl
  obtain ⟨z, rfl, hz, q⟩ := h
  refine ⟨_, (pss_cons (ps_set (i := 1) sc_is_number.nd rfl (by first | exact Or.inl rfl | exact Or.inr rfl) (pe_ifExp (pt_val (pe_bm PySem.F.plainAttrs_str PySem.F.slot_str_startswith PySem.F.type_str_startswith mt_startswith (pv 0) (pa_cons pe_str pa_nil))) (pe_slice sl_str (pv 0) (po_some pe_int) po_none) (pv 0)))
      (pss_cons (ps_if (PW.pt (pw_or (pt_cmpR op_lt (pe_callB call_len_str rfl z_len PySem.boot_len (pa_cons (pv 1) pa_nil)) pe_int (nomark _)) (pw_or1 (pt_cmpR op_gt (pe_callB call_len_str rfl z_len PySem.boot_len (pa_cons (pv 1) pa_nil)) (pe_glob rfl m_MOST_FIGURES (rel_int _ _)) (nomark _)))))
        (pss_one (ps_ret pe_bl))
        pss_nil)
      (pss_cons (ps_if (pt_cmpR op_eq (pe_ix ix_str (pv 1) pe_int (fun _ _ => rfl)) pe_str (nomark _))
        (pss_one (ps_ret (pe_cmpR op_eq (pv 0) pe_str (nomark _))))
        pss_nil)
      (pss_one (ps_ret (pe_callB (call_all rfl) rfl z_all PyProof.Rows.boot_all (pa_cons (pe_comp rfl (compOk_nil ["text", "figures"] rfl (by decide +kernel) rfl (by decide +kernel) rfl (by decide +kernel) (by decide +kernel)) (pi_str (pv 1)) (fun _ _ _ _ => pifs_nil) (fun _ _ _ _ => (pe_cmpR op_in_str (pv 0) (pe_glob rfl m_FIGURES (rel_str _ _)) (by rfl)))) pa_nil))))))), ?_⟩
  walk_at "rdx"
  refine ⟨_, rfl, rfl, ?_⟩
  walk_at "rdx"
  refine ⟨z, _, rfl, rfl, ?_⟩
  rw [starts_minus (.inr trivial)]
  walk_at "rdx"
  refine ite2d (fun hm => ?_) (fun hm => ?_)
  · walk_at "rdx"
    have l1 : 1 ≤ z.length := by
      rw [← len_cpl]
      cases h : cpl z with
      | nil => rw [h] at hm; cases hm
      | cons a r => simp
    refine ⟨z, rfl, hz.fit, ?_⟩
    have hy : TOk (Txt.slice z (some 1) none) := hz.slice _ _
    have ey : cpl (Txt.slice z (some 1) none) = figs (cpl z) := by
      rw [slice_from1 l1]
      unfold figs
      rw [if_pos hm]
    generalize Txt.slice z (some 1) none = y at hy ey ⊢
    walk_at "rdx"
    have fy := hy.fit
    have yl : (cpl y).length = y.length := len_cpl _
    refine ⟨_, rfl, fy, ?_⟩
    walk_at "rdx"
    refine ite2d (fun l1 => iteT ?_) (fun l1 => ?_)
    · walk_at "rdx"
      refine q _ _ (Same.refl _) ⟨(fun e => nomatch e), fun N => ?_⟩
      have := N.lo
      rw [← ey] at this
      omega
    walk_at "rdx"
    refine ⟨_, rfl, fy, ?_⟩
    walk_at "rdx"
    refine ite2d (fun l2 => ?_) (fun l2 => ?_)
    · walk_at "rdx"
      refine q _ _ (Same.refl _) ⟨(fun e => nomatch e), fun N => ?_⟩
      have := N.hi
      rw [← ey] at this
      omega
    walk_at "rdx"
    obtain ⟨c0, r0, ec⟩ : ∃ c r, cpl y = c :: r := by
      cases h : cpl y with
      | nil => rw [h] at yl; simp at yl; omega
      | cons c r => exact ⟨c, r, rfl⟩
    refine ⟨_, 0, c0, rfl, rfl, fy, by rw [show y.cps.toList = c0 :: r0 from ec]; exact atI_nat (j := 0) rfl, ?_⟩
    walk_at "rdx"
    refine ite2d (fun e0 => ?_) (fun e0 => ?_)
    · walk_at "rdx"
      have c48 : c0 = 48 := by
        have e1 : (⟨#[c0]⟩ : Str) = Str.ofString "0" := V.str.inj e0
        have e2 : cpl (⟨#[c0]⟩ : Str) = cpl (Str.ofString "0") := congrArg cpl e1
        have e3 : cpl (Str.ofString "0") = [48] := by decide +kernel
        rw [e3] at e2
        injection e2
      refine q _ _ (Same.refl _) ?_
      rw [decide_eq_true_eq]
      have e3 : cpl (Str.ofString "0") = [48] := by decide +kernel
      constructor
      · intro e
        have ez : cpl z = [48] := by rw [V.str.inj e, e3]
        refine ⟨?_, ?_, ?_, ?_⟩ <;> rw [ez] <;> simp [figs]
      · intro N
        have := N.z0 (by rw [← ey, ec, c48]; rfl)
        exact congrArg V.str (str_ext (by rw [this, e3]))
    walk_at "rdx"
    refine rd_comp (rd_iS ?_)
    walk_at "rdx"
    refine ⟨_, rfl, hy.asc, ?_⟩
    refine comp_go walk_s ?_ (fun _ _ _ => trivial) (fun _ => true) (fun v => match v with | .str y => .bl (decide (48 ≤ (cpl y).headD 0 ∧ (cpl y).headD 0 ≤ 57)) | _ => .non) (fun x hx D ys Q' hD h => h) (fun x hx _ D ys Q' hD h => ?_) (fun D hD => ?_)
    · rw [List.length_map]
      exact small1000 (by have : y.cps.toList.length = y.length := yl; omega)
    · obtain ⟨c, hc, rfl⟩ := List.mem_map.mp hx
      walk_at "rdx"
      refine ⟨_, _, rfl, rfl, ?_⟩
      rw [in_dig]
      exact h
    have e : ((y.cps.toList.map signV).filter fun _ => true).map (fun v => match v with | .str y => V.bl (decide (48 ≤ (cpl y).headD 0 ∧ (cpl y).headD 0 ≤ 57)) | _ => .non) = ((cpl y).map fun c => decide (48 ≤ c ∧ c ≤ 57)).map V.bl := by
      rw [List.filter_eq_self.mpr (fun _ _ => rfl), List.map_map, List.map_map]
      rfl
    rw [e]
    walk_at "rdx"
    refine ⟨D, _, rfl, SqL.of upd_same, ?_⟩
    refine q _ _ (same_new hD _) ?_
    rw [List.all_map, List.all_eq_true]
    constructor
    · intro h
      refine ⟨by rw [← ey]; omega, by rw [← ey]; omega, fun c hc => ?_, fun h0 => ?_⟩
      · rw [← ey] at hc
        simpa using h c hc
      · rw [← ey, ec] at h0
        injection h0 with h0
        subst h0
        exact absurd (by congr) e0
    · intro N c hc
      have := N.dg c (by rw [← ey]; exact hc)
      simpa using this
  · walk_at "rdx"
    have hy := hz
    have ey : cpl z = figs (cpl z) := by
      unfold figs
      rw [if_neg hm]
    have fy := hy.fit
    have yl : (cpl z).length = z.length := len_cpl _
    refine ⟨_, rfl, fy, ?_⟩
    walk_at "rdx"
    refine ite2d (fun l1 => iteT ?_) (fun l1 => ?_)
    · walk_at "rdx"
      refine q _ _ (Same.refl _) ⟨(fun e => nomatch e), fun N => ?_⟩
      have := N.lo
      rw [← ey] at this
      omega
    walk_at "rdx"
    refine ⟨_, rfl, fy, ?_⟩
    walk_at "rdx"
    refine ite2d (fun l2 => ?_) (fun l2 => ?_)
    · walk_at "rdx"
      refine q _ _ (Same.refl _) ⟨(fun e => nomatch e), fun N => ?_⟩
      have := N.hi
      rw [← ey] at this
      omega
    walk_at "rdx"
    obtain ⟨c0, r0, ec⟩ : ∃ c r, cpl z = c :: r := by
      cases h : cpl z with
      | nil => rw [h] at yl; simp at yl; omega
      | cons c r => exact ⟨c, r, rfl⟩
    refine ⟨_, 0, c0, rfl, rfl, fy, by rw [show z.cps.toList = c0 :: r0 from ec]; exact atI_nat (j := 0) rfl, ?_⟩
    walk_at "rdx"
    refine ite2d (fun e0 => ?_) (fun e0 => ?_)
    · walk_at "rdx"
      have c48 : c0 = 48 := by
        have e1 : (⟨#[c0]⟩ : Str) = Str.ofString "0" := V.str.inj e0
        have e2 : cpl (⟨#[c0]⟩ : Str) = cpl (Str.ofString "0") := congrArg cpl e1
        have e3 : cpl (Str.ofString "0") = [48] := by decide +kernel
        rw [e3] at e2
        injection e2
      refine q _ _ (Same.refl _) ?_
      rw [decide_eq_true_eq]
      have e3 : cpl (Str.ofString "0") = [48] := by decide +kernel
      constructor
      · intro e
        have ez : cpl z = [48] := by rw [V.str.inj e, e3]
        refine ⟨?_, ?_, ?_, ?_⟩ <;> rw [ez] <;> simp [figs]
      · intro N
        have := N.z0 (by rw [← ey, ec, c48]; rfl)
        exact congrArg V.str (str_ext (by rw [this, e3]))
    walk_at "rdx"
    refine rd_comp (rd_iS ?_)
    walk_at "rdx"
    refine ⟨_, rfl, hy.asc, ?_⟩
    refine comp_go walk_s ?_ (fun _ _ _ => trivial) (fun _ => true) (fun v => match v with | .str y => .bl (decide (48 ≤ (cpl y).headD 0 ∧ (cpl y).headD 0 ≤ 57)) | _ => .non) (fun x hx D ys Q' hD h => h) (fun x hx _ D ys Q' hD h => ?_) (fun D hD => ?_)
    · rw [List.length_map]
      exact small1000 (by have : z.cps.toList.length = z.length := yl; omega)
    · obtain ⟨c, hc, rfl⟩ := List.mem_map.mp hx
      walk_at "rdx"
      refine ⟨_, _, rfl, rfl, ?_⟩
      rw [in_dig]
      exact h
    have e : ((z.cps.toList.map signV).filter fun _ => true).map (fun v => match v with | .str y => V.bl (decide (48 ≤ (cpl y).headD 0 ∧ (cpl y).headD 0 ≤ 57)) | _ => .non) = ((cpl z).map fun c => decide (48 ≤ c ∧ c ≤ 57)).map V.bl := by
      rw [List.filter_eq_self.mpr (fun _ _ => rfl), List.map_map, List.map_map]
      rfl
    rw [e]
    walk_at "rdx"
    refine ⟨D, _, rfl, SqL.of upd_same, ?_⟩
    refine q _ _ (same_new hD _) ?_
    rw [List.all_map, List.all_eq_true]
    constructor
    · intro h
      refine ⟨by rw [← ey]; omega, by rw [← ey]; omega, fun c hc => ?_, fun h0 => ?_⟩
      · rw [← ey] at hc
        simpa using h c hc
      · rw [← ey, ec] at h0
        injection h0 with h0
        subst h0
        exact absurd (by congr) e0
    · intro N c hc
      have := N.dg c (by rw [← ey]; exact hc)
      simpa using this
theorem sc_read_number : FnScope ["text"] ["text"] (defScope s_read_number) := ⟨rfl, rfl, rfl, by decide +kernel, rfl, by decide +kernel, by decide +kernel⟩
theorem ok_read_number {f : Addr} {fd : FuncData} (F : Fun K "read_number" "read_number" s_read_number f fd) (c_is_number : Cal P w K mg base 1 "is_number" ["text"] spIsNum) (z_isinstance : mg "isinstance" = none) (z_str : mg "str" = none) (z_int : mg "int" = none) : FnOk P w K mg base CX0 2 f fd ["text"] spReadN0 := by
  refine F.ok (k := 1) sc_read_number (fun vs H Q E h => ?_) (fun cdv A outer s H vs Q E hr h => ?_)
  · obtain ⟨i, rfl, _⟩ := h
    rfl
  obtain ⟨i, rfl, hi, q⟩ := h
  have N := num_ok hi
  refine ⟨_, (pss_cons (ps_if (PW.pt (pw_or (pt_not (pt_val (pe_callB call_isi rfl z_isinstance PyProof.Rows.boot_isinstance (pa_cons (pv 0) (pa_cons (pe_bltn rfl z_str PyProof.Rows.boot_str (rel_ty _)) pa_nil))))) (pw_or1 (pt_not (pt_val (pe_cal c_is_number (hr.mono (by decide)) rfl (pa_cons (pv 0) pa_nil)))))))
        (pss_one ps_never)
        pss_nil)
      (pss_one (ps_ret (pe_callTy call_int_text rfl z_int PyProof.Rows.boot_int (pa_cons (pv 0) pa_nil))))), ?_⟩
  walk_at "rd"
  refine rd_isS (.txt _ (num_tok hi)) ?_
  walk_at "rd"
  refine iteF ?_
  walk_at "rd"
  refine ⟨intT i, rfl, num_tok hi, fun b H1 s1 hb => ?_⟩
  have eb : b = true := hb.mpr N.1
  subst eb
  walk_at "rd"
  refine iteF ?_
  walk_at "rd"
  have r := int_reads (z := intT i) N.1
  have v : numVal (cpl (intT i)) = i := N.2
  rw [v] at r
  refine ⟨_, _, rfl, ?_, r, q _ s1⟩
  have := num_len hi
  rw [← len_cpl]
  exact Nat.le_trans this (by decide)
theorem sc_term_text : FnScope ["term", "sign", "numbers"] ["term"] (defScope s_term_text) := ⟨rfl, rfl, rfl, by decide +kernel, rfl, by decide +kernel, by decide +kernel⟩
theorem ok_term_text {f : Addr} {fd : FuncData} (F : Fun K "term_text" "term_text" s_term_text f fd) (z_str : mg "str" = none) : FnOk P w K mg base CX0 1 f fd ["term"] (spTermText K) := by
  refine F.ok (k := 0) sc_term_text (fun vs H Q E h => ?_) (fun cdv A outer s H vs Q E hr h => ?_)
  · obtain ⟨p, t, rfl, _⟩ := h
    rfl
  obtain ⟨p, t, rfl, hp, ok, q⟩ := h
  obtain ⟨s1, s2, s3⟩ := okT_sm ok
  have sg := ok.sg
  refine ⟨_, (pss_cons (ps_cut (ps_set (i := 1) sc_term_text.nd rfl (by first | exact Or.inl rfl | exact Or.inr rfl) (pe_ifExp (pt_cmpR op_eq (pe_ix ix_tup (pv 0) pe_int (fun _ _ => rfl)) pe_int (nomark _)) pe_str pe_str)))
      (pss_cons (ps_set (i := 2) sc_term_text.nd rfl (by first | exact Or.inl rfl | exact Or.inr rfl) (pe_bm PySem.F.plainAttrs_str PySem.F.slot_str_join PySem.F.type_str_join mt_join pe_str (pa_cons (pe_comp rfl (compOk_nil ["term", "sign", "numbers"] rfl (by decide +kernel) rfl (by decide +kernel) rfl (by decide +kernel) (by decide +kernel)) (pi_tup (pe_slice sl_tup (pv 0) (po_some pe_int) po_none)) (fun _ _ _ _ => pifs_nil) (fun _ _ _ _ => (pe_callTy call_str_int rfl z_str PyProof.Rows.boot_str (pa_cons (pv 0) pa_nil)))) pa_nil)))
      (pss_one (ps_ret (pe_join (pj_cons (pe_fmt hr.toN (pv 1)) (pj_cons (pe_fmt hr.toN (pv 2)) pj_nil))))))), ?_⟩
  walk_at "rd"
  refine rd_cut (fun σ' H' => H' = H ∧ σ' = [some (.ref p), some (.str (txt [if t.1 = 1 then 43 else 45])), none]) ?_ ?_
  · walk_at "rd"
    refine rd_ifE ?_
    walk_at "rd"
    refine rd_ixT hp at40 ?_
    walk_at "rd"
    by_cases c : t.1 = 1
    · refine iteD (congrArg V.int c) ?_
      walk_at "rd"
      rw [if_pos c]
      exact ⟨rfl, by first | rfl | decide +kernel⟩
    · refine iteN (fun y => c (V.int.inj y)) ?_
      walk_at "rd"
      rw [if_neg c]
      exact ⟨rfl, by first | rfl | decide +kernel⟩
  rintro σ' H ⟨rfl, rfl⟩
  walk_at "rd"
  refine rd_bm ?_
  walk_at "rd"
  refine ⟨rfl, ?_⟩
  walk_at "rd"
  refine rd_comp (rd_iT ?_)
  walk_at "rd"
  refine rd_slT hp (fun z => by cases z.1) fun u hu => ?_
  rw [show cutV (tmV t) (some 1) none = (tmV t).drop 1 from cut_from' (tmV t) 1]
  have sA := same_new hu (.tup ((tmV t).drop 1))
  have tA : upd H u (.tup ((tmV t).drop 1)) u = some (.tup (([t.2.1, t.2.2.1, t.2.2.2] : List Int).map V.int)) := upd_same
  generalize upd H u (.tup ((tmV t).drop 1)) = H1 at sA tA ⊢
  refine ⟨u, rfl, ⟨_, SqT.of tA⟩, ?_⟩
  have sm : ∀ n ∈ ([t.2.1, t.2.2.1, t.2.2.2] : List Int), Sm n := fun n hn => by
    rcases List.mem_cons.mp hn with rfl | hn
    · exact s1
    rcases List.mem_cons.mp hn with rfl | hn
    · exact s2
    · rw [List.mem_singleton.mp hn]
      exact s3
  refine comp_str walk_t (by show 3 ≤ 1000; decide) (fun D ys hD => (same_new hD _).tup (SqT.of tA)) (fun n hn => sm_log (sm n hn)) fun D hD => ?_
  have sB := same_new hD (.lst ((([t.2.1, t.2.2.1, t.2.2.2] : List Int).map intT).map V.str))
  have tB : upd H1 D (.lst ((([t.2.1, t.2.2.1, t.2.2.2] : List Int).map intT).map V.str)) D = some (.lst ((([t.2.1, t.2.2.1, t.2.2.2] : List Int).map intT).map V.str)) := upd_same
  generalize upd H1 D (.lst ((([t.2.1, t.2.2.1, t.2.2.2] : List Int).map intT).map V.str)) = H2 at sB tB ⊢
  refine rd_nil ?_
  have sl := sum_lens (k := 61) (zs := ([t.2.1, t.2.2.1, t.2.2.2] : List Int).map intT) fun z hz => by
    obtain ⟨n, hn, rfl⟩ := List.mem_map.mp hz
    exact intT_lenS (sm n hn)
  refine ⟨_, D, ([t.2.1, t.2.2.1, t.2.2.2] : List Int).map intT, rfl, rfl, SqL.of tB, ?_, ?_⟩
  · have e1 : (Str.ofString ",").length = 1 := by decide +kernel
    rw [e1]
    refine Nat.le_trans (Nat.add_le_add_right sl _) ?_
    show 3 * 61 + 3 * 1 ≤ 16777216
    decide
  rw [join_nums]
  walk_at "rd"
  have w := tmW_len ok
  unfold tmW at w
  rw [List.length_cons] at w
  refine rd_js 0 1 (by decide) (by rw [txt_len]; exact Nat.le_refl 1) (by decide) rfl fun l1 => rd_js _ 187 l1 (by rw [txt_len]; exact Nat.le_trans (Nat.le_of_lt (Nat.lt_of_succ_le w)) (by decide)) (by decide) rfl fun l2 => rd_jnil (fits l2 (by decide)) ?_
  have ef : (Str.empty ++ txt [if t.1 = 1 then 43 else 45] ++ txt (joinC 44 ([t.2.1, t.2.2.1, t.2.2.2].map numT))) = txt (tmW t) := str_ext (by rw [cpl_app, cpl_app]; rfl)
  rw [ef]
  exact q _ (sA.trans sB)
theorem sc_term_words : FnScope ["terms"] ["terms"] (defScope s_term_words) := ⟨rfl, rfl, rfl, by decide +kernel, rfl, by decide +kernel, by decide +kernel⟩
theorem ok_term_words {f : Addr} {fd : FuncData} (F : Fun K "term_words" "term_words" s_term_words f fd) (c_term_text : Cal P w K mg base 1 "term_text" ["term"] (spTermText K)) : FnOk P w K mg base CX0 2 f fd ["terms"] (spTermWords K) := by
  refine F.ok (k := 1) sc_term_words (fun vs H Q E h => ?_) (fun cdv A outer s H vs Q E hr h => ?_)
  · obtain ⟨p, ts, rfl, _⟩ := h
    rfl
  obtain ⟨p, ts, rfl, T, q⟩ := h
  obtain ⟨vs, hp, hT⟩ := T.ex
  have vl := hT.len
  have few := T.few
  refine ⟨_, (pss_one (ps_ret (pe_comp rfl (compOk_nil ["terms"] rfl (by decide +kernel) rfl (by decide +kernel) rfl (by decide +kernel) (by decide +kernel)) (pi_tup (pv 0)) (fun _ _ _ _ => pifs_nil) (fun _ _ _ _ => (pe_cal c_term_text (hr.mono (by decide)) rfl (pa_cons (pv 0) pa_nil)))))), ?_⟩
  walk_at "rd"
  refine rd_comp (rd_iT ?_)
  walk_at "rd"
  refine ⟨p, rfl, ⟨_, hp⟩, ?_⟩
  refine comp_inv walk_t (by rw [vl]; exact small1000 (by omega)) (fun D i ys H2 => H2 D = some (.lst ys) ∧ Same H H2 ∧ ys = wV ((ts.take i).map tmW)) (fun D hD => ⟨upd_same, same_new hD _, rfl⟩)
    (fun D i ys H2 _ ⟨h1, h2, h3⟩ => ⟨h1, by rw [h3, wV_len, List.length_map]; exact List.length_take_le _ _, h2.tup hp⟩) (fun D i x ys H2 hD hx ⟨h1, h2, h3⟩ => ?_) (fun D ys H2 hD ⟨h1, h2, h3⟩ => ?_)
  · obtain ⟨a, t, rfl, ht, ha⟩ := hT.at hx
    refine rd_true (iteT ?_)
    walk_at "rd"
    refine ⟨a, t, rfl, SqT.of (h2 _ _ ha), T.ok t (List.mem_of_getElem? ht), fun H3 s3 => ⟨s3 _ _ h1, upd_same, same_app hD (h2.trans s3), ?_⟩⟩
    rw [List.take_add_one, ht, Option.toList_some, List.map_append, wV_app, h3]
    rfl
  · rw [vl, List.take_length] at h3
    subst h3
    exact q D H2 hD h2 h1
theorem sc_Sun_shown : FnScope ["self", "words"] ["self"] (defScope s_Sun_shown) := ⟨rfl, rfl, rfl, by decide +kernel, rfl, by decide +kernel, by decide +kernel⟩
theorem ok_Sun_shown {f : Addr} {fd : FuncData} (F : Fun K "shown" "Sun.shown" s_Sun_shown f fd) (er : Errs K mg c_FeastError c_NoNumber c_NoMeasure c_NoDate c_NoText c_Measure c_Calendar c_Sun c_Moon) (c_term_words : Cal P w K mg base 2 "term_words" ["terms"] (spTermWords K)) (z_str : mg "str" = none) (z_len : mg "len" = none) : FnOk P w K mg base CX0 3 f fd ["self"] (spShowS K c_Sun c_Measure) := by
  refine F.ok (k := 2) sc_Sun_shown (fun vs H Q E h => ?_) (fun cdv A outer s H vs Q E hr h => ?_)
  · obtain ⟨x, s, ls, lp, ts, rfl, _⟩ := h
    rfl
  obtain ⟨x, s', ls, lp, ts, rfl, S, sm, q⟩ := h
  obtain ⟨dx, p, y, hx, hp, M⟩ := S.ex
  obtain ⟨d2, tp, e2, T2⟩ := M.ex
  have g := S.gd
  have p0 := g.p0
  have p1 := g.p1
  have l1 := g.l1
  have slp : Sm lp := sm_of (by omega) (by omega)
  have lsm := lens_sm g.m
  have jf := join_fit (d := .sun s' ls lp ts) g sm
  refine ⟨_, (pss_cons (ps_set (i := 1) sc_Sun_shown.nd rfl (by first | exact Or.inl rfl | exact Or.inr rfl) (pe_lst (pa_cons pe_str (pa_cons (pe_callTy call_str_int rfl z_str PyProof.Rows.boot_str (pa_cons (pe_fld (pv 0) (by rfl)) pa_nil)) (pa_cons (pe_bm PySem.F.plainAttrs_str PySem.F.slot_str_join PySem.F.type_str_join mt_join pe_str (pa_cons (pe_comp rfl (compOk_nil ["self", "words"] rfl (by decide +kernel) rfl (by decide +kernel) rfl (by decide +kernel) (by decide +kernel)) (pi_tup (pe_fld (pv 0) (by rfl))) (fun _ _ _ _ => pifs_nil) (fun _ _ _ _ => (pe_callTy call_str_int rfl z_str PyProof.Rows.boot_str (pa_cons (pv 0) pa_nil)))) pa_nil)) pa_nil)))))
      (pss_cons (ps_cut (ps_if (pt_cmpR op_gt (pe_callB call_len_seq rfl z_len PySem.boot_len (pa_cons (pe_fld (pe_fld (pv 0) (by rfl)) (by rfl)) pa_nil)) pe_int (nomark _))
        (pss_one (ps_set (i := 1) sc_Sun_shown.nd rfl (by first | exact Or.inl rfl | exact Or.inr rfl) (pe_op op_cat (pe_op op_cat (pv 1) (pe_lst (pa_cons pe_str (pa_cons (pe_callTy call_str_int rfl z_str PyProof.Rows.boot_str (pa_cons (pe_fld (pv 0) (by rfl)) pa_nil)) pa_nil)))) (pe_cal c_term_words (hr.mono (by decide)) rfl (pa_cons (pe_fld (pe_fld (pv 0) (by rfl)) (by rfl)) pa_nil)))))
        pss_nil))
      (pss_one (ps_ret (pe_bm PySem.F.plainAttrs_str PySem.F.slot_str_join PySem.F.type_str_join mt_join pe_str (pa_cons (pv 1) pa_nil)))))), ?_⟩
  walk_at "rd"
  refine ⟨x, c_Sun, dx, _, _, rfl, hx, er.cl_Sun, er.na_Sun_start, rfl, ?_⟩
  walk_at "rd"
  refine ⟨s', rfl, sm_log sm, ?_⟩
  walk_at "rd"
  refine rd_bm ?_
  walk_at "rd"
  refine ⟨rfl, ?_⟩
  walk_at "rd"
  refine rd_comp (rd_iT ?_)
  walk_at "rd"
  refine ⟨x, c_Sun, dx, _, _, rfl, hx, er.cl_Sun, er.na_Sun_months, rfl, ?_⟩
  refine ⟨p, rfl, ⟨_, hp⟩, ?_⟩
  refine comp_str walk_t (by omega) (fun D ys hD => (same_new hD _).tup hp) (fun n hn => sm_log (lsm n hn)) fun D hD => ?_
  have sB := same_new hD (.lst ((ls.map intT).map V.str))
  have tB : upd H D (.lst ((ls.map intT).map V.str)) D = some (.lst ((ls.map intT).map V.str)) := upd_same
  generalize upd H D (.lst ((ls.map intT).map V.str)) = H2 at sB tB ⊢
  refine rd_nil ?_
  have sl := sum_lens (k := 61) (zs := ls.map intT) fun z hz => by
    obtain ⟨n, hn, rfl⟩ := List.mem_map.mp hz
    exact intT_lenS (lsm n hn)
  refine ⟨_, D, ls.map intT, rfl, rfl, SqL.of tB, ?_, ?_⟩
  · have e1 : (Str.ofString ",").length = 1 := by decide +kernel
    rw [e1]
    rw [List.length_map] at sl ⊢
    omega
  rw [join_nums]
  walk_at "rd"
  refine ⟨three, fun l hl => ?_⟩
  have eL : [V.str (Str.ofString "sun"), V.str (Str.ofString (toString s')), V.str (txt (joinC 44 (ls.map numT)))] = wV [[115, 117, 110], numT s', joinC 44 (ls.map numT)] := by
    rw [eSun, eStr]
    rfl
  rw [eL]
  have s3 := same_new hl (.lst (wV [[115, 117, 110], numT s', joinC 44 (ls.map numT)]))
  have t3 : upd H2 l (.lst (wV [[115, 117, 110], numT s', joinC 44 (ls.map numT)])) l = some (.lst (wV [[115, 117, 110], numT s', joinC 44 (ls.map numT)])) := upd_same
  generalize upd H2 l (.lst (wV [[115, 117, 110], numT s', joinC 44 (ls.map numT)])) = H3 at s3 t3 ⊢
  have s03 := sB.trans s3
  walk_at "rd"
  refine rd_cut (fun σ' H' => Same H H' ∧ ∃ l : Addr, σ' = [some (.ref x), some (.ref l)] ∧ H' l = some (.lst (wV (calW (.sun s' ls lp ts))))) ?_ ?_
  · walk_at "rd"
    refine ⟨x, c_Sun, dx, _, _, rfl, s03 _ _ hx, er.cl_Sun, er.na_Sun_years, rfl, ?_⟩
    walk_at "rd"
    refine ⟨y, c_Measure, d2, _, _, rfl, s03 _ _ e2, er.cl_Measure, er.na_Measure_terms, rfl, ?_⟩
    have T3 := T2.same s03
    obtain ⟨vs, hvs, hT⟩ := T3.ex
    refine ⟨tp, _, rfl, .inr hvs, ?_⟩
    walk_at "rd"
    rw [hT.len]
    by_cases c : ts = []
    · subst c
      refine iteN (by decide) ?_
      walk_at "rd"
      exact ⟨s03, l, rfl, t3⟩
    · have pos : 0 < ts.length := by
        cases ts with
        | nil => exact absurd rfl c
        | cons a b => simp
      refine iteD (by omega) ?_
      walk_at "rd"
      refine ⟨x, c_Sun, dx, _, _, rfl, s03 _ _ hx, er.cl_Sun, er.na_Sun_leap, rfl, ?_⟩
      walk_at "rd"
      refine ⟨lp, rfl, sm_log slp, ?_⟩
      walk_at "rd"
      refine ⟨two, fun l4 hl4 => ?_⟩
      have eM : [V.str (Str.ofString "leap"), V.str (Str.ofString (toString lp))] = wV [[108, 101, 97, 112], numT lp] := by
        rw [eLeap, eStr]
        rfl
      rw [eM]
      have s4 := same_new hl4 (.lst (wV [[108, 101, 97, 112], numT lp]))
      have t4 : upd H3 l4 (.lst (wV [[108, 101, 97, 112], numT lp])) l4 = some (.lst (wV [[108, 101, 97, 112], numT lp])) := upd_same
      generalize upd H3 l4 (.lst (wV [[108, 101, 97, 112], numT lp])) = H4 at s4 t4 ⊢
      walk_at "rd"
      refine ⟨l, l4, _, _, rfl, rfl, s4 _ _ t3, t4, (by rw [wV_len, wV_len]; show 3 + 2 ≤ sizeLine; decide), fun l5 hl5 => ?_⟩
      rw [← wV_app]
      have s5 := same_new hl5 (.lst (wV ([[115, 117, 110], numT s', joinC 44 (ls.map numT)] ++ [[108, 101, 97, 112], numT lp])))
      have t5 : upd H4 l5 (.lst (wV ([[115, 117, 110], numT s', joinC 44 (ls.map numT)] ++ [[108, 101, 97, 112], numT lp]))) l5 = some (.lst (wV ([[115, 117, 110], numT s', joinC 44 (ls.map numT)] ++ [[108, 101, 97, 112], numT lp]))) := upd_same
      generalize upd H4 l5 (.lst (wV ([[115, 117, 110], numT s', joinC 44 (ls.map numT)] ++ [[108, 101, 97, 112], numT lp]))) = H5 at s5 t5 ⊢
      have s05 := s03.trans (s4.trans s5)
      walk_at "rd"
      refine ⟨x, c_Sun, dx, _, _, rfl, s05 _ _ hx, er.cl_Sun, er.na_Sun_years, rfl, ?_⟩
      walk_at "rd"
      refine ⟨y, c_Measure, d2, _, _, rfl, s05 _ _ e2, er.cl_Measure, er.na_Measure_terms, rfl, ?_⟩
      walk_at "rd"
      refine ⟨tp, ts, rfl, T2.same s05, fun l6 H6 hl6 s6 t6 => ?_⟩
      have few := g.few
      refine ⟨l5, l6, _, _, rfl, rfl, s6 _ _ t5, t6, (by rw [wV_len, wV_len, List.length_map]; exact Nat.le_of_lt (small1000 (by show 5 + ts.length ≤ 1000; omega))), fun l7 hl7 => ?_⟩
      rw [← wV_app]
      walk_at "rd"
      refine ⟨(s05.trans s6).trans (same_new hl7 _), l7, rfl, ?_⟩
      rw [upd_same]
      show some (HO.lst (wV _)) = some (.lst (wV ([115, 117, 110] :: sunWs s' ls lp ts)))
      unfold sunWs
      rw [if_neg c]
      rfl
  rintro σ' H4 ⟨s4, l4, rfl, t4⟩
  walk_at "rd"
  refine rd_bm ?_
  walk_at "rd"
  refine ⟨rfl, ?_⟩
  walk_at "rd"
  refine ⟨_, l4, (calW (.sun s' ls lp ts)).map txt, rfl, rfl, SqL.of t4, jf, ?_⟩
  rw [join_words]
  exact q _ s4
theorem sc_Moon_shown : FnScope ["self", "days", "many"] ["self"] (defScope s_Moon_shown) := ⟨rfl, rfl, rfl, by decide +kernel, rfl, by decide +kernel, by decide +kernel⟩
theorem ok_Moon_shown {f : Addr} {fd : FuncData} (F : Fun K "shown" "Moon.shown" s_Moon_shown f fd) (er : Errs K mg c_FeastError c_NoNumber c_NoMeasure c_NoDate c_NoText c_Measure c_Calendar c_Sun c_Moon) (c_term_words : Cal P w K mg base 2 "term_words" ["terms"] (spTermWords K)) (z_str : mg "str" = none) : FnOk P w K mg base CX0 3 f fd ["self"] (spShowM K c_Moon c_Measure) := by
  refine F.ok (k := 2) sc_Moon_shown (fun vs H Q E h => ?_) (fun cdv A outer s H vs Q E hr h => ?_)
  · obtain ⟨x, s, bd, td, bm, tm, rfl, _⟩ := h
    rfl
  obtain ⟨x, s', bd, td, bm, tm, rfl, S, sm, q⟩ := h
  obtain ⟨dx, d, m, hx, D, M⟩ := S.ex
  obtain ⟨d1, tp1, e1, T1⟩ := D.ex
  obtain ⟨d2, tp2, e2, T2⟩ := M.ex
  have g := S.gd
  have n1 := falls_nn (ts := td)
  have n2 := falls_nn (ts := tm)
  have h1 := g.fd
  have h2 := g.fm
  have h3 := g.gd
  have h4 := g.gm
  have w1 := g.fwd
  have w2 := g.fwm
  have sbd : Sm bd := sm_of (by omega) (by omega)
  have sbm : Sm bm := sm_of (by omega) (by omega)
  have jf := join_fit (d := .moon s' bd td bm tm) g sm
  refine ⟨_, (pss_cons (ps_set (i := 1) sc_Moon_shown.nd rfl (by first | exact Or.inl rfl | exact Or.inr rfl) (pe_op op_cat (pe_lst (pa_cons (pe_callTy call_str_int rfl z_str PyProof.Rows.boot_str (pa_cons (pe_fld (pe_fld (pv 0) (by rfl)) (by rfl)) pa_nil)) pa_nil)) (pe_cal c_term_words (hr.mono (by decide)) rfl (pa_cons (pe_fld (pe_fld (pv 0) (by rfl)) (by rfl)) pa_nil))))
      (pss_cons (ps_set (i := 2) sc_Moon_shown.nd rfl (by first | exact Or.inl rfl | exact Or.inr rfl) (pe_op op_cat (pe_lst (pa_cons (pe_callTy call_str_int rfl z_str PyProof.Rows.boot_str (pa_cons (pe_fld (pe_fld (pv 0) (by rfl)) (by rfl)) pa_nil)) pa_nil)) (pe_cal c_term_words (hr.mono (by decide)) rfl (pa_cons (pe_fld (pe_fld (pv 0) (by rfl)) (by rfl)) pa_nil))))
      (pss_one (ps_ret (pe_bm PySem.F.plainAttrs_str PySem.F.slot_str_join PySem.F.type_str_join mt_join pe_str (pa_cons (pe_op op_cat (pe_op op_cat (pe_op op_cat (pe_lst (pa_cons pe_str (pa_cons (pe_callTy call_str_int rfl z_str PyProof.Rows.boot_str (pa_cons (pe_fld (pv 0) (by rfl)) pa_nil)) pa_nil))) (pv 1)) (pe_lst (pa_cons pe_str pa_nil))) (pv 2)) pa_nil)))))), ?_⟩
  walk_at "rd"
  refine ⟨x, c_Moon, dx, _, _, rfl, hx, er.cl_Moon, er.na_Moon_days, rfl, ?_⟩
  walk_at "rd"
  refine ⟨d, c_Measure, d1, _, _, rfl, e1, er.cl_Measure, er.na_Measure_base, rfl, ?_⟩
  walk_at "rd"
  refine ⟨bd, rfl, sm_log sbd, ?_⟩
  walk_at "rd"
  refine ⟨(by show 1 ≤ sizeLine; decide), fun l1 hl1 => ?_⟩
  rw [show [V.str (Str.ofString (toString bd))] = wV [numT bd] by rw [eStr]; rfl]
  have s1 := same_new hl1 (.lst (wV [numT bd]))
  have t1 : upd H l1 (.lst (wV [numT bd])) l1 = some (.lst (wV [numT bd])) := upd_same
  generalize upd H l1 (.lst (wV [numT bd])) = H1 at s1 t1 ⊢
  walk_at "rd"
  refine ⟨x, c_Moon, dx, _, _, rfl, s1 _ _ hx, er.cl_Moon, er.na_Moon_days, rfl, ?_⟩
  walk_at "rd"
  refine ⟨d, c_Measure, d1, _, _, rfl, s1 _ _ e1, er.cl_Measure, er.na_Measure_terms, rfl, ?_⟩
  walk_at "rd"
  refine ⟨tp1, td, rfl, T1.same s1, fun l2 H2 hl2 s2 t2 => ?_⟩
  have s02 := s1.trans s2
  refine ⟨l1, l2, _, _, rfl, rfl, s2 _ _ t1, t2, (by rw [wV_len, wV_len, List.length_map]; exact Nat.le_of_lt (small1000 (by show 1 + td.length ≤ 1000; omega))), fun l3 hl3 => ?_⟩
  rw [← wV_app]
  have s3 := same_new hl3 (.lst (wV ([numT bd] ++ td.map tmW)))
  have t3 : upd H2 l3 (.lst (wV ([numT bd] ++ td.map tmW))) l3 = some (.lst (wV ([numT bd] ++ td.map tmW))) := upd_same
  generalize upd H2 l3 (.lst (wV ([numT bd] ++ td.map tmW))) = H3 at s3 t3 ⊢
  have s03 := s02.trans s3
  walk_at "rd"
  refine ⟨x, c_Moon, dx, _, _, rfl, s03 _ _ hx, er.cl_Moon, er.na_Moon_many, rfl, ?_⟩
  walk_at "rd"
  refine ⟨m, c_Measure, d2, _, _, rfl, s03 _ _ e2, er.cl_Measure, er.na_Measure_base, rfl, ?_⟩
  walk_at "rd"
  refine ⟨bm, rfl, sm_log sbm, ?_⟩
  walk_at "rd"
  refine ⟨(by show 1 ≤ sizeLine; decide), fun l4 hl4 => ?_⟩
  rw [show [V.str (Str.ofString (toString bm))] = wV [numT bm] by rw [eStr]; rfl]
  have s4 := same_new hl4 (.lst (wV [numT bm]))
  have t4 : upd H3 l4 (.lst (wV [numT bm])) l4 = some (.lst (wV [numT bm])) := upd_same
  generalize upd H3 l4 (.lst (wV [numT bm])) = H4 at s4 t4 ⊢
  have s04 := s03.trans s4
  walk_at "rd"
  refine ⟨x, c_Moon, dx, _, _, rfl, s04 _ _ hx, er.cl_Moon, er.na_Moon_many, rfl, ?_⟩
  walk_at "rd"
  refine ⟨m, c_Measure, d2, _, _, rfl, s04 _ _ e2, er.cl_Measure, er.na_Measure_terms, rfl, ?_⟩
  walk_at "rd"
  refine ⟨tp2, tm, rfl, T2.same s04, fun l5 H5 hl5 s5 t5 => ?_⟩
  have s05 := s04.trans s5
  refine ⟨l4, l5, _, _, rfl, rfl, s5 _ _ t4, t5, (by rw [wV_len, wV_len, List.length_map]; exact Nat.le_of_lt (small1000 (by show 1 + tm.length ≤ 1000; omega))), fun l6 hl6 => ?_⟩
  rw [← wV_app]
  have s6 := same_new hl6 (.lst (wV ([numT bm] ++ tm.map tmW)))
  have t6 : upd H5 l6 (.lst (wV ([numT bm] ++ tm.map tmW))) l6 = some (.lst (wV ([numT bm] ++ tm.map tmW))) := upd_same
  generalize upd H5 l6 (.lst (wV ([numT bm] ++ tm.map tmW))) = H6 at s6 t6 ⊢
  have s06 := s05.trans s6
  have t36 := s6 _ _ (s5 _ _ (s4 _ _ t3))
  walk_at "rd"
  refine rd_bm ?_
  walk_at "rd"
  refine ⟨rfl, ?_⟩
  walk_at "rd"
  refine ⟨x, c_Moon, dx, _, _, rfl, s06 _ _ hx, er.cl_Moon, er.na_Moon_start, rfl, ?_⟩
  walk_at "rd"
  refine ⟨s', rfl, sm_log sm, ?_⟩
  walk_at "rd"
  refine ⟨two, fun l7 hl7 => ?_⟩
  rw [show [V.str (Str.ofString "moon"), V.str (Str.ofString (toString s'))] = wV [[109, 111, 111, 110], numT s'] by rw [eMoon, eStr]; rfl]
  have s7 := same_new hl7 (.lst (wV [[109, 111, 111, 110], numT s']))
  have t7 : upd H6 l7 (.lst (wV [[109, 111, 111, 110], numT s'])) l7 = some (.lst (wV [[109, 111, 111, 110], numT s'])) := upd_same
  generalize upd H6 l7 (.lst (wV [[109, 111, 111, 110], numT s'])) = H7 at s7 t7 ⊢
  walk_at "rd"
  refine ⟨l7, l3, _, _, rfl, rfl, t7, s7 _ _ t36, (by rw [wV_len, wV_len, List.length_append, List.length_map]; exact Nat.le_of_lt (small1000 (by show 2 + (1 + td.length) ≤ 1000; omega))), fun l8 hl8 => ?_⟩
  rw [← wV_app]
  generalize hA : [[109, 111, 111, 110], numT s'] ++ ([numT bd] ++ td.map tmW) = A
  have lA : A.length = 3 + td.length := by rw [← hA, List.length_append, List.length_append, List.length_map]; show 2 + (1 + td.length) = _; omega
  have s8 := same_new hl8 (.lst (wV A))
  have t8 : upd H7 l8 (.lst (wV A)) l8 = some (.lst (wV A)) := upd_same
  generalize upd H7 l8 (.lst (wV A)) = H8 at s8 t8 ⊢
  walk_at "rd"
  refine ⟨(by show 1 ≤ sizeLine; decide), fun l9 hl9 => ?_⟩
  rw [show [V.str (Str.ofString "/")] = wV [[47]] by rw [eSlash]; rfl]
  have s9 := same_new hl9 (.lst (wV [[47]]))
  have t9 : upd H8 l9 (.lst (wV [[47]])) l9 = some (.lst (wV [[47]])) := upd_same
  generalize upd H8 l9 (.lst (wV [[47]])) = H9 at s9 t9 ⊢
  walk_at "rd"
  refine ⟨l8, l9, _, _, rfl, rfl, s9 _ _ t8, t9, (by rw [wV_len, wV_len, lA]; exact Nat.le_of_lt (small1000 (by show 3 + td.length + 1 ≤ 1000; omega))), fun l10 hl10 => ?_⟩
  rw [← wV_app]
  have s10 := same_new hl10 (.lst (wV (A ++ [[47]])))
  have t10 : upd H9 l10 (.lst (wV (A ++ [[47]]))) l10 = some (.lst (wV (A ++ [[47]]))) := upd_same
  generalize upd H9 l10 (.lst (wV (A ++ [[47]]))) = H10 at s10 t10 ⊢
  walk_at "rd"
  refine ⟨l10, l6, _, _, rfl, rfl, t10, s10 _ _ (s9 _ _ (s8 _ _ (s7 _ _ t6))), (by rw [wV_len, wV_len, List.length_append, lA, List.length_append, List.length_map]; exact Nat.le_of_lt (small1000 (by show 3 + td.length + 1 + (1 + tm.length) ≤ 1000; omega))), fun l11 hl11 => ?_⟩
  rw [← wV_app]
  have eW : A ++ [[47]] ++ ([numT bm] ++ tm.map tmW) = calW (.moon s' bd td bm tm) := by
    rw [← hA]
    show _ = [109, 111, 111, 110] :: moonWs s' bd td bm tm
    unfold moonWs
    simp
  rw [eW]
  refine rd_nil ?_
  refine ⟨_, l11, (calW (.moon s' bd td bm tm)).map txt, rfl, rfl, SqL.of upd_same, jf, ?_⟩
  rw [join_words]
  exact q _ ((s06.trans (s7.trans (s8.trans (s9.trans s10)))).trans (same_new hl11 _))
theorem sc_is_readable : FnScope ["text"] ["text"] (defScope s_is_readable) := ⟨rfl, rfl, rfl, by decide +kernel, rfl, by decide +kernel, by decide +kernel⟩
theorem ok_is_readable {f : Addr} {fd : FuncData} (F : Fun K "is_readable" "is_readable" s_is_readable f fd) (z_isinstance : mg "isinstance" = none) (z_str : mg "str" = none) (z_len : mg "len" = none) {tk_MOST_SIGNS : Tok} (m_MOST_SIGNS : mg "MOST_SIGNS" = some (.int 4000 tk_MOST_SIGNS)) : FnOk P w K mg base CX0 1 f fd ["text"] spReadable := by
  refine F.ok (k := 0) sc_is_readable (fun vs H Q E h => ?_) (fun cdv A outer s H vs Q E hr h => ?_)
  · obtain ⟨z, rfl, _⟩ := h
    rfl
  obtain ⟨z, rfl, hz, hl, q⟩ := h
  refine ⟨_, (pss_one (ps_ret (pe_and (pe_callB call_isi rfl z_isinstance PyProof.Rows.boot_isinstance (pa_cons (pv 0) (pa_cons (pe_bltn rfl z_str PyProof.Rows.boot_str (rel_ty _)) pa_nil))) (pe_one (pe_cmpR op_le (pe_callB call_len_str rfl z_len PySem.boot_len (pa_cons (pv 0) pa_nil)) (pe_glob rfl m_MOST_SIGNS (rel_int _ _)) (nomark _)))))), ?_⟩
  walk_at "rd"
  refine rd_isS (.txt _ hz) ?_
  walk_at "rd"
  refine iteT ?_
  walk_at "rd"
  refine ⟨z, rfl, hz.fit, ?_⟩
  walk_at "rd"
  rw [decide_eq_true (show ((z.length : Nat) : Int) ≤ 4000 by omega)]
  exact q
theorem sc_read_numbers : FnScope ["word"] ["word"] (defScope s_read_numbers) := ⟨rfl, rfl, rfl, by decide +kernel, rfl, by decide +kernel, by decide +kernel⟩
theorem ok_read_numbers {f : Addr} {fd : FuncData} (F : Fun K "read_numbers" "read_numbers" s_read_numbers f fd) (c_read_number : Cal P w K mg base 2 "read_number" ["text"] spReadN0) : FnOk P w K mg base CX0 3 f fd ["word"] (spReadNs K) := by
  refine F.ok (k := 2) sc_read_numbers (fun vs H Q E h => ?_) (fun cdv A outer s H vs Q E hr h => ?_)
  · obtain ⟨ns, rfl, _⟩ := h
    rfl
  obtain ⟨ns, rfl, hn, hl, sm, q⟩ := h
  have sp := nums_split hn sm
  have jl := joinC_len 44 61 (ws := ns.map numT) fun w hw => by
    obtain ⟨n, hn, rfl⟩ := List.mem_map.mp hw
    exact num_len (sm n hn)
  rw [List.length_map] at jl
  refine ⟨_, (pss_one (ps_ret (pe_comp rfl (compOk_nil ["word"] rfl (by decide +kernel) rfl (by decide +kernel) rfl (by decide +kernel) (by decide +kernel)) (pi_list (pe_bm PySem.F.plainAttrs_str PySem.F.slot_str_split PySem.F.type_str_split mt_split (pv 0) (pa_cons pe_str pa_nil))) (fun _ _ _ _ => pifs_nil) (fun _ _ _ _ => (pe_cal c_read_number (hr.mono (by decide)) rfl (pa_cons (pv 0) pa_nil)))))), ?_⟩
  walk_at "rd"
  refine rd_comp (rd_iL ?_)
  walk_at "rd"
  refine rd_bm ?_
  walk_at "rd"
  refine ⟨rfl, ?_⟩
  walk_at "rd"
  refine ⟨_, 44, rfl, by rw [e44], by decide, by rw [txt_len]; omega, fun l hl => ?_⟩
  rw [sp]
  have s1 := same_new hl (.lst ((ns.map intT).map V.str))
  have t1 : upd H l (.lst ((ns.map intT).map V.str)) l = some (.lst ((ns.map intT).map V.str)) := upd_same
  have hlH := hl
  generalize upd H l (.lst ((ns.map intT).map V.str)) = H1 at s1 t1 ⊢
  refine ⟨l, rfl, ⟨_, SqL.of t1⟩, ?_⟩
  refine comp_inv walk_l (by rw [List.length_map, List.length_map]; exact small1000 (by omega)) (fun D i ys H2 => H2 D = some (.lst ys) ∧ Same H1 H2 ∧ ys = (ns.take i).map V.int) (fun D hD => ⟨upd_same, same_new hD _, rfl⟩)
    (fun D i ys H2 _ ⟨h1, h2, h3⟩ => ⟨h1, by rw [h3, List.length_map]; exact List.length_take_le _ _, SqL.of (h2 _ _ t1)⟩) (fun D i x ys H2 hD hx ⟨h1, h2, h3⟩ => ?_) (fun D ys H2 hD ⟨h1, h2, h3⟩ => ?_)
  · rw [List.getElem?_map, List.getElem?_map] at hx
    obtain ⟨y, hy, rfl⟩ := Option.map_eq_some_iff.mp hx
    obtain ⟨n, hn, rfl⟩ := Option.map_eq_some_iff.mp hy
    refine rd_true (iteT ?_)
    walk_at "rd"
    refine ⟨n, rfl, sm n (List.mem_of_getElem? hn), fun H3 s3 => ⟨s3 _ _ h1, upd_same, same_app hD (h2.trans s3), ?_⟩⟩
    rw [List.take_add_one, hn, Option.toList_some, List.map_append, h3]
    rfl
  · rw [List.length_map, List.length_map, List.take_length] at h3
    subst h3
    exact q D H2 (s1.free hD) (s1.trans h2) h1
theorem sc_read_term : FnScope ["word", "numbers", "sign"] ["word"] (defScope s_read_term) := ⟨rfl, rfl, rfl, by decide +kernel, rfl, by decide +kernel, by decide +kernel⟩
theorem ok_read_term {f : Addr} {fd : FuncData} (F : Fun K "read_term" "read_term" s_read_term f fd) (c_read_numbers : Cal P w K mg base 3 "read_numbers" ["word"] (spReadNs K)) (z_len : mg "len" = none) : FnOk P w K mg base CX0 4 f fd ["word"] (spReadT K) := by
  refine F.ok (k := 3) sc_read_term (fun vs H Q E h => ?_) (fun cdv A outer s H vs Q E hr h => ?_)
  · obtain ⟨t, rfl, _⟩ := h
    rfl
  obtain ⟨t, rfl, ok, q⟩ := h
  obtain ⟨s1, s2, s3⟩ := okT_sm ok
  have sg := ok.sg
  have tl := tmW_len ok
  have hd : ∃ c, tmW t = c :: joinC 44 ([t.2.1, t.2.2.1, t.2.2.2].map numT) ∧ (c = 43 ∧ t.1 = 1 ∨ c = 45 ∧ t.1 = -1) := by
    refine ⟨_, rfl, ?_⟩
    rcases sg with e | e
    · exact .inl ⟨by rw [if_pos e], e⟩
    · exact .inr ⟨by rw [if_neg (by omega)], e⟩
  obtain ⟨c, hw, hc⟩ := hd
  have l0 : 1 ≤ (txt (tmW t)).length := by rw [txt_len, hw]; simp
  have e1 : Txt.slice (txt (tmW t)) none (some 1) = txt [c] := str_ext (by rw [slice_to1, cpl_txt, hw]; rfl)
  have e2 : Txt.slice (txt (tmW t)) (some 1) none = txt (joinC 44 ([t.2.1, t.2.2.1, t.2.2.2].map numT)) := str_ext (by rw [slice_from1 l0, cpl_txt, hw]; rfl)
  have sm : ∀ n ∈ ([t.2.1, t.2.2.1, t.2.2.2] : List Int), Sm n := fun n hn => by
    rcases List.mem_cons.mp hn with rfl | hn
    · exact s1
    rcases List.mem_cons.mp hn with rfl | hn
    · exact s2
    · rw [List.mem_singleton.mp hn]
      exact s3
  refine ⟨_, (pss_cons (ps_cut (ps_if (PW.pt (pw_and (pt_cmpR op_ne (pe_slice sl_str (pv 0) po_none (po_some pe_int)) pe_str (nomark _)) (pw_and1 (pt_cmpR op_ne (pe_slice sl_str (pv 0) po_none (po_some pe_int)) pe_str (nomark _)))))
        (pss_one ps_never)
        pss_nil))
      (pss_cons (ps_set (i := 1) sc_read_term.nd rfl (by first | exact Or.inl rfl | exact Or.inr rfl) (pe_cal c_read_numbers (hr.mono (by decide)) rfl (pa_cons (pe_slice sl_str (pv 0) (po_some pe_int) po_none) pa_nil)))
      (pss_cons (ps_if (pt_cmpR op_ne (pe_callB call_len_seq rfl z_len PySem.boot_len (pa_cons (pv 1) pa_nil)) pe_int (nomark _))
        (pss_one ps_never)
        pss_nil)
      (pss_cons (ps_cut (ps_set (i := 2) sc_read_term.nd rfl (by first | exact Or.inl rfl | exact Or.inr rfl) (pe_ifExp (pt_cmpR op_eq (pe_ix ix_str (pv 0) pe_int (fun _ _ => rfl)) pe_str (nomark _)) pe_int (pe_un un_neg pe_int))))
      (pss_one (ps_ret (pe_tup (pa_cons (pv 2) (pa_cons (pe_ix ix_list (pv 1) pe_int (fun _ _ => rfl)) (pa_cons (pe_ix ix_list (pv 1) pe_int (fun _ _ => rfl)) (pa_cons (pe_ix ix_list (pv 1) pe_int (fun _ _ => rfl)) pa_nil))))))))))), ?_⟩
  walk_at "rd"
  have fit : (txt (tmW t)).length ≤ sizeLine := by rw [txt_len]; exact Nat.le_trans tl (by decide)
  have ePlus : Str.ofString "+" = txt [43] := by decide +kernel
  have eMinus : Str.ofString "-" = txt [45] := by decide +kernel
  have tne : txt [45] ≠ txt [43] := fun z => by
    have := congrArg cpl z
    rw [cpl_txt, cpl_txt] at this
    cases this
  refine rd_cut (fun σ' H' => H' = H ∧ σ' = [some (.str (txt (tmW t))), none, none]) ?_ ?_
  · walk_at "rd"
    refine ⟨_, rfl, fit, ?_⟩
    rw [e1]
    walk_at "rd"
    rw [ePlus]
    rcases hc with ⟨rfl, _⟩ | ⟨rfl, _⟩
    · refine iteNS rfl ?_
      refine iteF ?_
      walk_at "rd"
      exact ⟨rfl, rfl⟩
    · refine iteNN (fun z => tne (V.str.inj z)) ?_
      walk_at "rd"
      refine ⟨_, rfl, fit, ?_⟩
      rw [e1]
      walk_at "rd"
      rw [eMinus]
      refine iteNS rfl ?_
      walk_at "rd"
      exact ⟨rfl, rfl⟩
  rintro σ' H ⟨rfl, rfl⟩
  walk_at "rd"
  refine ⟨_, rfl, fit, ?_⟩
  rw [e2]
  refine rd_nil ?_
  refine ⟨[t.2.1, t.2.2.1, t.2.2.2], rfl, (fun z => nomatch z), by show 3 ≤ 100; decide, sm, fun l H1 hl u1 t1 => ?_⟩
  walk_at "rd"
  refine ⟨l, _, rfl, .inl (SqL.of t1), ?_⟩
  walk_at "rd"
  refine iteNS rfl ?_
  walk_at "rd"
  refine rd_cut (fun σ' H' => H' = H1 ∧ σ' = [some (.str (txt (tmW t))), some (.ref l), some (.int t.1)]) ?_ ?_
  · walk_at "rd"
    refine rd_ifE ?_
    walk_at "rd"
    refine ⟨_, 0, c, rfl, rfl, fit, (by show atI (tmW t) 0 = some c; rw [hw]; exact at_n0), ?_⟩
    walk_at "rd"
    rw [ePlus]
    rcases hc with ⟨rfl, e⟩ | ⟨rfl, e⟩
    · refine iteD rfl ?_
      walk_at "rd"
      exact ⟨rfl, by rw [e]; rfl⟩
    · refine iteN (fun z => tne (V.str.inj z)) ?_
      walk_at "rd"
      exact ⟨rfl, by rw [e]; rfl⟩
  rintro σ' H1 ⟨rfl, rfl⟩
  walk_at "rd"
  refine rd_ixL (SqL.of t1) rfl ?_
  walk_at "rd"
  refine rd_ixL (SqL.of t1) rfl ?_
  walk_at "rd"
  refine rd_ixL (SqL.of t1) rfl ?_
  walk_at "rd"
  refine ⟨(by show 4 ≤ sizeLine; decide), fun p hp => ?_⟩
  exact q p _ (u1.trans (same_new hp _)) upd_same
theorem sc_read_terms : FnScope ["words"] ["words"] (defScope s_read_terms) := ⟨rfl, rfl, rfl, by decide +kernel, rfl, by decide +kernel, by decide +kernel⟩
theorem ok_read_terms {f : Addr} {fd : FuncData} (F : Fun K "read_terms" "read_terms" s_read_terms f fd) (c_read_term : Cal P w K mg base 4 "read_term" ["word"] (spReadT K)) : FnOk P w K mg base CX0 5 f fd ["words"] (spReadTs K) := by
  refine F.ok (k := 4) sc_read_terms (fun vs H Q E h => ?_) (fun cdv A outer s H vs Q E hr h => ?_)
  · obtain ⟨l, ts, rfl, _⟩ := h
    rfl
  obtain ⟨l, ts, rfl, hl, ok, few, q⟩ := h
  refine ⟨_, (pss_one (ps_ret (pe_comp rfl (compOk_nil ["words"] rfl (by decide +kernel) rfl (by decide +kernel) rfl (by decide +kernel) (by decide +kernel)) (pi_list (pv 0)) (fun _ _ _ _ => pifs_nil) (fun _ _ _ _ => (pe_cal c_read_term (hr.mono (by decide)) rfl (pa_cons (pv 0) pa_nil)))))), ?_⟩
  walk_at "rd"
  refine rd_comp (rd_iL ?_)
  walk_at "rd"
  refine ⟨l, rfl, ⟨_, SqL.of hl⟩, ?_⟩
  refine comp_inv walk_l (by rw [wV_len, List.length_map]; exact small1000 (by omega)) (fun D i ys H2 => H2 D = some (.lst ys) ∧ Same H H2 ∧ Tms H2 ys (ts.take i)) (fun D hD => ⟨upd_same, same_new hD _, .nil⟩)
    (fun D i ys H2 _ ⟨h1, h2, h3⟩ => ⟨h1, by rw [h3.len]; exact List.length_take_le _ _, SqL.of (h2 _ _ hl)⟩) (fun D i x ys H2 hD hx ⟨h1, h2, h3⟩ => ?_) (fun D ys H2 hD ⟨h1, h2, h3⟩ => ?_)
  · unfold wV at hx
    rw [List.getElem?_map, List.getElem?_map, List.getElem?_map] at hx
    obtain ⟨y, hy, rfl⟩ := Option.map_eq_some_iff.mp hx
    obtain ⟨w, hw, rfl⟩ := Option.map_eq_some_iff.mp hy
    obtain ⟨t, ht, rfl⟩ := Option.map_eq_some_iff.mp hw
    refine rd_true (iteT ?_)
    walk_at "rd"
    refine ⟨t, rfl, ok t (List.mem_of_getElem? ht), fun p H3 s3 hp => ⟨s3 _ _ h1, upd_same, same_app hD (h2.trans s3), ?_⟩⟩
    rw [List.take_add_one, ht]
    exact Tms.upd (s3 _ _ h1) (Tms.snoc hp (h3.same s3))
  · rw [wV_len, List.length_map, List.take_length] at h3
    exact q D ys H2 h2 ⟨h1, h3, ok, few⟩
theorem sc_read_sun : FnScope ["words", "start", "lengths", "leap"] ["words"] (defScope s_read_sun) := ⟨rfl, rfl, rfl, by decide +kernel, rfl, by decide +kernel, by decide +kernel⟩
theorem ok_read_sun {f : Addr} {fd : FuncData} (F : Fun K "read_sun" "read_sun" s_read_sun f fd) (er : Errs K mg c_FeastError c_NoNumber c_NoMeasure c_NoDate c_NoText c_Measure c_Calendar c_Sun c_Moon) (c_read_number : Cal P w K mg base 2 "read_number" ["text"] spReadN0) (c_read_numbers : Cal P w K mg base 3 "read_numbers" ["word"] (spReadNs K)) (c_Sun___init___d2 : CalID P w K mg base CX0 7 "Sun" c_Sun ["self", "start", "lengths", "leap", "terms"] [(.int 1), .non] (spInitS K c_Sun c_Measure)) (c_Sun___init__ : CalI P w K mg base CX0 7 "Sun" c_Sun ["self", "start", "lengths", "leap", "terms"] (spInitS K c_Sun c_Measure)) (c_read_terms : Cal P w K mg base 5 "read_terms" ["words"] (spReadTs K)) (z_len : mg "len" = none) : FnOk P w K mg base CX0 9 f fd ["words"] (spReadS K c_Sun c_Measure) := by
  refine F.ok (k := 8) sc_read_sun (fun vs H Q E h => ?_) (fun cdv A outer s H vs Q E hr h => ?_)
  · obtain ⟨l, s', ls, lp, ts, rfl, _⟩ := h
    rfl
  obtain ⟨l, s', ls, lp, ts, rfl, hl, g, sm, bs, q⟩ := h
  have lsm := lens_sm g.m
  have l0 := g.l0
  have l1 := g.l1
  have p0 := g.p0
  have p1 := g.p1
  have lne : ls ≠ [] := fun z => by rw [z] at l0; simp at l0
  have slp : Sm lp := sm_of (by omega) (by omega)
  have few := g.few
  unfold sunWs at hl
  refine ⟨_, (pss_cons (ps_if (pt_cmpR op_lt (pe_callB call_len_seq rfl z_len PySem.boot_len (pa_cons (pv 0) pa_nil)) pe_int (nomark _))
        (pss_one ps_never)
        pss_nil)
      (pss_cons (ps_set (i := 1) sc_read_sun.nd rfl (by first | exact Or.inl rfl | exact Or.inr rfl) (pe_cal c_read_number (hr.mono (by decide)) rfl (pa_cons (pe_ix ix_list (pv 0) pe_int (fun _ _ => rfl)) pa_nil)))
      (pss_cons (ps_set (i := 2) sc_read_sun.nd rfl (by first | exact Or.inl rfl | exact Or.inr rfl) (pe_cal c_read_numbers (hr.mono (by decide)) rfl (pa_cons (pe_ix ix_list (pv 0) pe_int (fun _ _ => rfl)) pa_nil)))
      (pss_cons (ps_if (pt_cmpR op_eq (pe_callB call_len_seq rfl z_len PySem.boot_len (pa_cons (pv 0) pa_nil)) pe_int (nomark _))
        (pss_one (ps_ret (pe_mkD c_Sun___init___d2 (hr.mono (by decide)) rfl (pa_cons (pv 1) (pa_cons (pv 2) pa_nil)))))
        pss_nil)
      (pss_cons (ps_if (PW.pt (pw_or (pt_cmpR op_ne (pe_ix ix_list (pv 0) pe_int (fun _ _ => rfl)) pe_str (nomark _)) (pw_or1 (pt_cmpR op_lt (pe_callB call_len_seq rfl z_len PySem.boot_len (pa_cons (pv 0) pa_nil)) pe_int (nomark _)))))
        (pss_one ps_never)
        pss_nil)
      (pss_cons (ps_set (i := 3) sc_read_sun.nd rfl (by first | exact Or.inl rfl | exact Or.inr rfl) (pe_cal c_read_number (hr.mono (by decide)) rfl (pa_cons (pe_ix ix_list (pv 0) pe_int (fun _ _ => rfl)) pa_nil)))
      (pss_one (ps_ret (pe_mk c_Sun___init__ (hr.mono (by decide)) rfl (pa_cons (pv 1) (pa_cons (pv 2) (pa_cons (pv 3) (pa_cons (pe_cal c_read_terms (hr.mono (by decide)) rfl (pa_cons (pe_slice sl_list (pv 0) (po_some pe_int) po_none) pa_nil)) pa_nil))))))))))))), ?_⟩
  walk_at "rd"
  refine ⟨l, _, rfl, .inl (SqL.of hl), ?_⟩
  walk_at "rd"
  rw [wV_len]
  refine iteN (by simp only [List.length_cons]; omega) ?_
  walk_at "rd"
  refine rd_ixL (SqL.of hl) at_n0 ?_
  rw [show V.str (txt (numT s')) = V.str (intT s') by rw [txt_num]]
  refine rd_nil ?_
  refine ⟨s', rfl, sm, fun H1 s1 => ?_⟩
  have h1 := s1 _ _ hl
  walk_at "rd"
  refine rd_ixL (SqL.of h1) at_n1 ?_
  refine rd_nil ?_
  refine ⟨ls, rfl, lne, by omega, lsm, fun l2 H2 hl2 s2 t2 => ?_⟩
  have h2 := s2 _ _ h1
  walk_at "rd"
  refine ⟨l, _, rfl, .inl (SqL.of h2), ?_⟩
  walk_at "rd"
  rw [wV_len]
  by_cases c : ts = []
  · subst c
    refine iteD rfl ?_
    walk_at "rd"
    have g1 : GoodS ls 1 [] := ⟨l0, l1, g.m, by decide, by omega, (by show (0 : Int) ≤ _; exact (g.m _ (getD_mem' (by omega))).1), g.f1, g.ok, g.few⟩
    refine fun x dx hx hdx ne => init_sun hx hdx ne t2 .nil (.inl ⟨rfl, rfl⟩) g1 bs fun H6 s6 S6 => ⟨rfl, ?_⟩
    exact q x 1 _ ((s1.trans s2).trans s6) S6 (fun _ => rfl) fun z => absurd rfl z
  rw [if_neg c] at h2 ⊢
  have tpos : 0 < ts.length := by
    cases ts with
    | nil => exact absurd rfl c
    | cons a b => simp
  refine iteN (fun z => by have := V.int.inj z; simp only [List.length_cons, List.length_map] at this; omega) ?_
  walk_at "rd"
  refine rd_ixL (SqL.of h2) at_n2 ?_
  walk_at "rd"
  rw [← eLeap]
  refine iteNS rfl ?_
  walk_at "rd"
  refine ⟨l, _, rfl, .inl (SqL.of h2), ?_⟩
  walk_at "rd"
  rw [wV_len]
  refine iteN (by simp only [List.length_cons, List.length_map]; omega) ?_
  walk_at "rd"
  refine rd_ixL (SqL.of h2) at_n3 ?_
  rw [show V.str (txt (numT lp)) = V.str (intT lp) by rw [txt_num]]
  refine rd_nil ?_
  refine ⟨lp, rfl, slp, fun H3 s3 => ?_⟩
  have h3 := s3 _ _ h2
  walk_at "rd"
  refine rd_slL (SqL.of h3) fun u hu => ?_
  have ec : cutV (wV (numT s' :: joinC 44 (ls.map numT) :: [108, 101, 97, 112] :: numT lp :: ts.map tmW)) (some 4) none = wV (ts.map tmW) := cut_from' _ 4
  rw [ec]
  have s4 := same_new hu (.lst (wV (ts.map tmW)))
  have t4 : upd H3 u (.lst (wV (ts.map tmW))) u = some (.lst (wV (ts.map tmW))) := upd_same
  generalize upd H3 u (.lst (wV (ts.map tmW))) = H4 at s4 t4 ⊢
  refine rd_nil ?_
  refine ⟨u, ts, rfl, t4, g.ok, few, fun l5 us H5 s5 T5 => ?_⟩
  walk_at "rd"
  refine fun x dx hx hdx ne => init_sun hx hdx ne (s5 _ _ (s4 _ _ (s3 _ _ t2))) T5.tm (.inr ⟨l5, rfl, T5.li⟩) g bs fun H6 s6 S6 => ⟨rfl, ?_⟩
  exact q x lp _ ((s1.trans s2).trans ((s3.trans s4).trans (s5.trans s6))) S6 (fun z => absurd z c) fun _ => rfl
theorem sc_read_moon : FnScope ["words", "place", "days", "many", "start", "days_base", "days_terms", "many_base", "many_terms"] ["words"] (defScope s_read_moon) := ⟨rfl, rfl, rfl, by decide +kernel, rfl, by decide +kernel, by decide +kernel⟩
theorem ok_read_moon {f : Addr} {fd : FuncData} (F : Fun K "read_moon" "read_moon" s_read_moon f fd) (er : Errs K mg c_FeastError c_NoNumber c_NoMeasure c_NoDate c_NoText c_Measure c_Calendar c_Sun c_Moon) (c_read_number : Cal P w K mg base 2 "read_number" ["text"] spReadN0) (c_read_terms : Cal P w K mg base 5 "read_terms" ["words"] (spReadTs K)) (c_Moon___init__ : CalI P w K mg base CX0 3 "Moon" c_Moon ["self", "start", "days", "many"] (spInitMo K c_Moon c_Measure)) (c_Measure___init__ : CalI P w K mg base CX0 5 "Measure" c_Measure ["self", "base", "terms"] (spInitM K c_Measure)) (z_len : mg "len" = none) : FnOk P w K mg base CX0 7 f fd ["words"] (spReadM K c_Moon c_Measure) := by
  refine F.ok (k := 6) sc_read_moon (fun vs H Q E h => ?_) (fun cdv A outer s H vs Q E hr h => ?_)
  · obtain ⟨l, s', bd, td, bm, tm, rfl, _⟩ := h
    rfl
  obtain ⟨l, s', bd, td, bm, tm, rfl, hl, g, sm, bs, q⟩ := h
  have n1 := falls_nn (ts := td)
  have n2 := falls_nn (ts := tm)
  have h1 := g.fd
  have h2 := g.fm
  have h3 := g.gd
  have h4 := g.gm
  have w1 := g.fwd
  have w2 := g.fwm
  have sbd : Sm bd := sm_of (by omega) (by omega)
  have sbm : Sm bm := sm_of (by omega) (by omega)
  have ne : ∀ {w : List Nat}, w ≠ [47] → txt w ≠ txt [47] := fun {w} h z => h (by have := congrArg cpl z; rwa [cpl_txt, cpl_txt] at this)
  have nn : ∀ {i : Int}, Sm i → numT i ≠ [47] := fun {i} hi z => by
    have := num_ch hi 47 (by rw [z]; exact List.mem_cons_self)
    omega
  have nt : ∀ t : Tm, tmW t ≠ [47] := fun t z => by
    have : (if t.1 = 1 then 43 else 45) = 47 := by unfold tmW at z; exact (List.cons.inj z).1
    split at this <;> omega
  have nots : ∀ (ts : List Tm) (z : Str), z ∈ (ts.map tmW).map txt → z ≠ txt [47] := fun ts z hz => by
    obtain ⟨w, hw, rfl⟩ := List.mem_map.mp hz
    obtain ⟨t, _, rfl⟩ := List.mem_map.mp hw
    exact ne (nt t)
  have c0 : ∀ ts : List Tm, ((ts.map tmW).map txt).count (txt [47]) = 0 := fun ts => List.count_eq_zero.mpr fun z => nots ts _ z rfl
  have eW : (moonWs s' bd td bm tm).map txt = txt (numT s') :: txt (numT bd) :: ((td.map tmW).map txt ++ txt [47] :: txt (numT bm) :: (tm.map tmW).map txt) := by
    unfold moonWs
    simp
  have hcount : ((moonWs s' bd td bm tm).map txt).count (txt [47]) = 1 := by
    rw [eW, List.count_cons_of_ne (ne (nn sm)), List.count_cons_of_ne (ne (nn sbd)), List.count_append, c0, List.count_cons_self, List.count_cons_of_ne (ne (nn sbm)), c0]
  have hlen : (moonWs s' bd td bm tm).length = td.length + tm.length + 4 := by
    unfold moonWs
    simp only [List.length_cons, List.length_append, List.length_map]
    omega
  have hat : ((moonWs s' bd td bm tm).map txt)[2 + td.length]? = some (txt [47]) := by
    rw [eW, show 2 + td.length = td.length + 1 + 1 by omega, List.getElem?_cons_succ, List.getElem?_cons_succ, List.getElem?_append_right (by simp)]
    simp
  have hno : ∀ m, m < 2 + td.length → ((moonWs s' bd td bm tm).map txt)[m]? ≠ some (txt [47]) := fun m hm z => by
    rw [eW] at z
    match m, hm, z with
    | 0, _, z => exact ne (nn sm) (Option.some.inj z)
    | 1, _, z => exact ne (nn sbd) (Option.some.inj z)
    | k + 2, hm, z =>
      rw [List.getElem?_cons_succ, List.getElem?_cons_succ, List.getElem?_append_left (by simp; omega)] at z
      exact nots td _ (List.mem_of_getElem? z) rfl
  refine ⟨_, (pss_cons (ps_if (pt_cmpR op_ne (pe_bm PySem.F.plainAttrs_list PySem.F.slot_list_count PySem.F.type_list_count mt_lcount (pv 0) (pa_cons pe_str pa_nil)) pe_int (nomark _))
        (pss_one ps_never)
        pss_nil)
      (pss_cons (ps_set (i := 1) sc_read_moon.nd rfl (by first | exact Or.inl rfl | exact Or.inr rfl) (pe_bm PySem.F.plainAttrs_list PySem.F.slot_list_index PySem.F.type_list_index mt_lindex (pv 0) (pa_cons pe_str pa_nil)))
      (pss_cons (ps_set (i := 2) sc_read_moon.nd rfl (by first | exact Or.inl rfl | exact Or.inr rfl) (pe_slice sl_list (pv 0) (po_some pe_int) (po_some (pv 1))))
      (pss_cons (ps_set (i := 3) sc_read_moon.nd rfl (by first | exact Or.inl rfl | exact Or.inr rfl) (pe_slice sl_list (pv 0) (po_some (pe_op op_add (pv 1) pe_int)) po_none))
      (pss_cons (ps_if (PW.pt (pw_or (pt_cmpR op_lt (pe_callB call_len_seq rfl z_len PySem.boot_len (pa_cons (pv 2) pa_nil)) pe_int (nomark _)) (pw_or1 (pt_cmpR op_lt (pe_callB call_len_seq rfl z_len PySem.boot_len (pa_cons (pv 3) pa_nil)) pe_int (nomark _)))))
        (pss_one ps_never)
        pss_nil)
      (pss_cons (ps_set (i := 4) sc_read_moon.nd rfl (by first | exact Or.inl rfl | exact Or.inr rfl) (pe_cal c_read_number (hr.mono (by decide)) rfl (pa_cons (pe_ix ix_list (pv 0) pe_int (fun _ _ => rfl)) pa_nil)))
      (pss_cons (ps_set (i := 5) sc_read_moon.nd rfl (by first | exact Or.inl rfl | exact Or.inr rfl) (pe_cal c_read_number (hr.mono (by decide)) rfl (pa_cons (pe_ix ix_list (pv 2) pe_int (fun _ _ => rfl)) pa_nil)))
      (pss_cons (ps_set (i := 6) sc_read_moon.nd rfl (by first | exact Or.inl rfl | exact Or.inr rfl) (pe_cal c_read_terms (hr.mono (by decide)) rfl (pa_cons (pe_slice sl_list (pv 2) (po_some pe_int) po_none) pa_nil)))
      (pss_cons (ps_set (i := 7) sc_read_moon.nd rfl (by first | exact Or.inl rfl | exact Or.inr rfl) (pe_cal c_read_number (hr.mono (by decide)) rfl (pa_cons (pe_ix ix_list (pv 3) pe_int (fun _ _ => rfl)) pa_nil)))
      (pss_cons (ps_set (i := 8) sc_read_moon.nd rfl (by first | exact Or.inl rfl | exact Or.inr rfl) (pe_cal c_read_terms (hr.mono (by decide)) rfl (pa_cons (pe_slice sl_list (pv 3) (po_some pe_int) po_none) pa_nil)))
      (pss_one (ps_ret (pe_mk c_Moon___init__ (hr.mono (by decide)) rfl (pa_cons (pv 4) (pa_cons (pe_mk c_Measure___init__ (hr.mono (by decide)) rfl (pa_cons (pv 5) (pa_cons (pv 6) pa_nil))) (pa_cons (pe_mk c_Measure___init__ (hr.mono (by decide)) rfl (pa_cons (pv 7) (pa_cons (pv 8) pa_nil))) pa_nil)))))))))))))))), ?_⟩
  walk_at "rd"
  refine rd_bm ?_
  walk_at "rd"
  refine ⟨.inl ⟨rfl, _, SqL.of hl⟩, ?_⟩
  walk_at "rd"
  refine ⟨l, _, _, rfl, rfl, SqL.of hl, ?_⟩
  rw [eSlash, hcount]
  walk_at "rd"
  refine iteNS rfl ?_
  walk_at "rd"
  refine rd_bm ?_
  walk_at "rd"
  refine ⟨.inl ⟨rfl, _, SqL.of hl⟩, ?_⟩
  walk_at "rd"
  refine ⟨l, _, txt [47], 2 + td.length, rfl, rfl, SqL.of hl, hat, hno, ?_⟩
  walk_at "rd"
  refine rd_slL (SqL.of hl) fun u1 hu1 => ?_
  have ec1 : cutV (wV (moonWs s' bd td bm tm)) (some 1) (some ((2 + td.length : Nat) : Int)) = wV (numT bd :: td.map tmW) := by
    unfold cutV
    rw [show ((1 : Int)) = ((1 : Nat) : Int) from rfl, HT.sIx_nat, HT.sIx_nat, wV_len, hlen, Nat.min_eq_left (by omega), Nat.min_eq_left (by omega)]
    unfold moonWs
    rw [wV_cons, List.drop_succ_cons, List.drop_zero, wV_cons, wV_app, show 2 + td.length - 1 = td.length + 1 by omega, List.take_succ_cons, List.take_append_of_le_length (by rw [wV_len, List.length_map]; omega), List.take_of_length_le (by rw [wV_len, List.length_map]; omega)]
    rfl
  rw [ec1]
  have s1 := same_new hu1 (.lst (wV (numT bd :: td.map tmW)))
  have t1 : upd H u1 (.lst (wV (numT bd :: td.map tmW))) u1 = some (.lst (wV (numT bd :: td.map tmW))) := upd_same
  generalize upd H u1 (.lst (wV (numT bd :: td.map tmW))) = H1 at s1 t1 ⊢
  have l1 := s1 _ _ hl
  walk_at "rd"
  refine rd_slL (SqL.of l1) fun u2 hu2 => ?_
  have ec2 : cutV (wV (moonWs s' bd td bm tm)) (some (((2 + td.length : Nat) : Int) + 1)) none = wV (numT bm :: tm.map tmW) := by
    rw [show (((2 + td.length : Nat) : Int) + 1) = ((3 + td.length : Nat) : Int) by omega, cut_from']
    unfold moonWs
    rw [show numT s' :: numT bd :: (td.map tmW ++ [47] :: numT bm :: tm.map tmW) = (numT s' :: numT bd :: (td.map tmW ++ [[47]])) ++ (numT bm :: tm.map tmW) by simp, wV_app, List.drop_append_of_le_length (by rw [wV_len]; simp; omega), List.drop_of_length_le (by rw [wV_len]; simp; omega), List.nil_append]
  rw [ec2]
  have s2 := same_new hu2 (.lst (wV (numT bm :: tm.map tmW)))
  have t2 : upd H1 u2 (.lst (wV (numT bm :: tm.map tmW))) u2 = some (.lst (wV (numT bm :: tm.map tmW))) := upd_same
  generalize upd H1 u2 (.lst (wV (numT bm :: tm.map tmW))) = H2 at s2 t2 ⊢
  have l2 := s2 _ _ l1
  have k2 := s2 _ _ t1
  walk_at "rd"
  refine ⟨u1, _, rfl, .inl (SqL.of k2), ?_⟩
  walk_at "rd"
  rw [wV_len]
  refine iteN (by simp only [List.length_cons]; omega) ?_
  walk_at "rd"
  refine ⟨u2, _, rfl, .inl (SqL.of t2), ?_⟩
  walk_at "rd"
  rw [wV_len]
  refine iteN (by simp only [List.length_cons]; omega) ?_
  walk_at "rd"
  unfold moonWs at l2
  refine rd_ixL (SqL.of l2) at_n0 ?_
  rw [show V.str (txt (numT s')) = V.str (intT s') by rw [txt_num]]
  refine rd_nil ?_
  refine ⟨s', rfl, sm, fun H3 s3 => ?_⟩
  have k3 := s3 _ _ k2
  have t3 := s3 _ _ t2
  walk_at "rd"
  refine rd_ixL (SqL.of k3) at_n0 ?_
  rw [show V.str (txt (numT bd)) = V.str (intT bd) by rw [txt_num]]
  refine rd_nil ?_
  refine ⟨bd, rfl, sbd, fun H4 s4 => ?_⟩
  have k4 := s4 _ _ k3
  have t4 := s4 _ _ t3
  walk_at "rd"
  refine rd_slL (SqL.of k4) fun u5 hu5 => ?_
  rw [show cutV (wV (numT bd :: td.map tmW)) (some 1) none = wV (td.map tmW) from cut_from' _ 1]
  have s5 := same_new hu5 (.lst (wV (td.map tmW)))
  have t5 : upd H4 u5 (.lst (wV (td.map tmW))) u5 = some (.lst (wV (td.map tmW))) := upd_same
  generalize upd H4 u5 (.lst (wV (td.map tmW))) = H5 at s5 t5 ⊢
  refine rd_nil ?_
  refine ⟨u5, td, rfl, t5, g.okd, w1, fun ld ud H6 s6 D6 => ?_⟩
  have t6 := s6 _ _ (s5 _ _ t4)
  walk_at "rd"
  refine rd_ixL (SqL.of t6) at_n0 ?_
  rw [show V.str (txt (numT bm)) = V.str (intT bm) by rw [txt_num]]
  refine rd_nil ?_
  refine ⟨bm, rfl, sbm, fun H7 s7 => ?_⟩
  have t7 := s7 _ _ t6
  have D7 := D6.same s7
  walk_at "rd"
  refine rd_slL (SqL.of t7) fun u8 hu8 => ?_
  rw [show cutV (wV (numT bm :: tm.map tmW)) (some 1) none = wV (tm.map tmW) from cut_from' _ 1]
  have s8 := same_new hu8 (.lst (wV (tm.map tmW)))
  have t8 : upd H7 u8 (.lst (wV (tm.map tmW))) u8 = some (.lst (wV (tm.map tmW))) := upd_same
  generalize upd H7 u8 (.lst (wV (tm.map tmW))) = H8 at s8 t8 ⊢
  refine rd_nil ?_
  refine ⟨u8, tm, rfl, t8, g.okm, w2, fun lm um H9 s9 M9 => ?_⟩
  have D9 := (D7.same s8).same s9
  have Pd := D9.per
  have Pm := M9.per
  walk_at "rd"
  refine fun y1 dy hy hdy ne => init_me hy hdy ne D9.tm (.inr ⟨ld, rfl, D9.li⟩) D9.ok D9.few (good_m h1 h3) (UP_pos D9.ok h1 Pd.1) fun H10 s10 N10 => ⟨rfl, ?_⟩
  have M10 := M9.same s10
  clear hy hdy ne
  walk_at "rd"
  refine fun y2 dy hy hdy ne => init_me hy hdy ne M10.tm (.inr ⟨lm, rfl, M10.li⟩) M10.ok M10.few (good_m h2 (by omega)) (UP_pos M10.ok h2 Pm.1) fun H11 s11 O11 => ⟨rfl, ?_⟩
  have N11 := N10.same s11
  clear hy hdy ne
  walk_at "rd"
  refine fun x dx hx hdx ne => init_moon hx hdx ne N11 O11 g bs fun H12 s12 S12 => ⟨rfl, ?_⟩
  exact q x _ ((((s1.trans s2).trans (s3.trans s4)).trans ((s5.trans s6).trans (s7.trans s8))).trans ((s9.trans s10).trans (s11.trans s12))) S12
theorem sc_read_calendar : FnScope ["text", "words"] ["text"] (defScope s_read_calendar) := ⟨rfl, rfl, rfl, by decide +kernel, rfl, by decide +kernel, by decide +kernel⟩
theorem ok_read_calendar {f : Addr} {fd : FuncData} (F : Fun K "read_calendar" "read_calendar" s_read_calendar f fd) (c_is_readable : Cal P w K mg base 1 "is_readable" ["text"] spReadable) (c_read_sun : Cal P w K mg base 9 "read_sun" ["words"] (spReadS K c_Sun c_Measure)) (c_read_moon : Cal P w K mg base 7 "read_moon" ["words"] (spReadM K c_Moon c_Measure)) : FnOk P w K mg base CX0 10 f fd ["text"] (spReadC K c_Sun c_Moon c_Measure) := by
  refine F.ok (k := 9) sc_read_calendar (fun vs H Q E h => ?_) (fun cdv A outer s H vs Q E hr h => ?_)
  · obtain ⟨d, rfl, _⟩ := h
    rfl
  obtain ⟨d, rfl, g, sm, bs, q⟩ := h
  have sp := calT_split g sm
  obtain ⟨wl, wn⟩ := calW_len g sm
  have tl : (calT d).length ≤ 24820 := by
    have := joinC_len 32 1240 wl
    unfold calT
    have : (calW d).length * 1241 ≤ 20 * 1241 := Nat.mul_le_mul_right _ wn
    omega
  have tok : TOk (txt (calT d)) := ⟨asc_iff.mpr fun c hc => by
    have := joinC_ch (P := fun a => a < 128) (c := 32) (by decide) (fun w hw a ha => by have := calW_ch g sm w hw a ha; unfold wch at this; omega) c hc
    exact this, by rw [txt_len]; omega⟩
  have t4 : (txt (calT d)).length ≤ 4000 := by rw [txt_len]; exact calT_len g sm
  refine ⟨_, (pss_cons (ps_if (pt_not (pt_val (pe_cal c_is_readable (hr.mono (by decide)) rfl (pa_cons (pv 0) pa_nil))))
        (pss_one ps_never)
        pss_nil)
      (pss_cons (ps_set (i := 1) sc_read_calendar.nd rfl (by first | exact Or.inl rfl | exact Or.inr rfl) (pe_bm PySem.F.plainAttrs_str PySem.F.slot_str_split PySem.F.type_str_split mt_split (pv 0) (pa_cons pe_str pa_nil)))
      (pss_cons (ps_if (pt_cmpR op_eq (pe_ix ix_list (pv 1) pe_int (fun _ _ => rfl)) pe_str (nomark _))
        (pss_one (ps_ret (pe_cal c_read_sun (hr.mono (by decide)) rfl (pa_cons (pe_slice sl_list (pv 1) (po_some pe_int) po_none) pa_nil))))
        pss_nil)
      (pss_cons (ps_if (pt_cmpR op_eq (pe_ix ix_list (pv 1) pe_int (fun _ _ => rfl)) pe_str (nomark _))
        (pss_one (ps_ret (pe_cal c_read_moon (hr.mono (by decide)) rfl (pa_cons (pe_slice sl_list (pv 1) (po_some pe_int) po_none) pa_nil))))
        pss_nil)
      (pss_one ps_never))))), ?_⟩
  walk_at "rd"
  refine ⟨_, rfl, tok, t4, ?_⟩
  walk_at "rd"
  refine iteF ?_
  walk_at "rd"
  refine rd_bm ?_
  walk_at "rd"
  refine ⟨rfl, ?_⟩
  walk_at "rd"
  refine ⟨_, 32, rfl, by rw [e32], by decide, tok.len, fun l hl => ?_⟩
  rw [sp]
  have s1 := same_new hl (.lst (wV (calW d)))
  have t1 : upd H l (.lst (wV (calW d))) l = some (.lst (wV (calW d))) := upd_same
  have eV : ((calW d).map txt).map V.str = wV (calW d) := rfl
  rw [eV]
  generalize upd H l (.lst (wV (calW d))) = H1 at s1 t1 ⊢
  have smn : txt [109, 111, 111, 110] ≠ txt [115, 117, 110] := fun z => by
    have := congrArg cpl z
    rw [cpl_txt, cpl_txt] at this
    cases this
  walk_at "rd"
  cases d with
  | sun s0 ls lp ts =>
    have t1' : H1 l = some (.lst (wV ([115, 117, 110] :: sunWs s0 ls lp ts))) := t1
    refine rd_ixL (SqL.of t1') at_n0 ?_
    walk_at "rd"
    rw [eSun]
    refine iteD rfl ?_
    walk_at "rd"
    refine rd_slL (SqL.of t1') fun u hu => ?_
    rw [show cutV (wV ([115, 117, 110] :: sunWs s0 ls lp ts)) (some 1) none = wV (sunWs s0 ls lp ts) from cut_from' _ 1]
    have s2 := same_new hu (.lst (wV (sunWs s0 ls lp ts)))
    refine rd_nil ?_
    refine ⟨u, s0, ls, lp, ts, rfl, upd_same, g, sm, bs, fun x lp' H3 s3 S3 e1 e2 => q x _ ((s1.trans s2).trans s3) ?_⟩
    by_cases c : ts = []
    · rw [e1 c] at S3
      show CalO K c_Sun c_Moon c_Measure H3 x (if ts = [] then .sun s0 ls 1 [] else .sun s0 ls lp ts)
      rw [if_pos c]
      rw [c] at S3
      exact S3
    · rw [e2 c] at S3
      show CalO K c_Sun c_Moon c_Measure H3 x (if ts = [] then .sun s0 ls 1 [] else .sun s0 ls lp ts)
      rw [if_neg c]
      exact S3
  | moon s0 bd td bm tm =>
    have t1' : H1 l = some (.lst (wV ([109, 111, 111, 110] :: moonWs s0 bd td bm tm))) := t1
    refine rd_ixL (SqL.of t1') at_n0 ?_
    walk_at "rd"
    rw [eSun]
    refine iteN (fun z => smn (V.str.inj z)) ?_
    walk_at "rd"
    refine rd_ixL (SqL.of t1') at_n0 ?_
    walk_at "rd"
    rw [eMoon]
    refine iteD rfl ?_
    walk_at "rd"
    refine rd_slL (SqL.of t1') fun u hu => ?_
    rw [show cutV (wV ([109, 111, 111, 110] :: moonWs s0 bd td bm tm)) (some 1) none = wV (moonWs s0 bd td bm tm) from cut_from' _ 1]
    have s2 := same_new hu (.lst (wV (moonWs s0 bd td bm tm)))
    refine rd_nil ?_
    exact ⟨u, s0, bd, td, bm, tm, rfl, upd_same, g, sm, bs, fun x H3 s3 S3 => q x _ ((s1.trans s2).trans s3) S3⟩
theorem sc_law_cell_at : FnScope ["_law_script", "_law_k"] ["_law_script", "_law_k"] (defScope s_law_cell_at) := ⟨rfl, rfl, rfl, by decide +kernel, rfl, by decide +kernel, by decide +kernel⟩
theorem ok_law_cell_at {f : Addr} {fd : FuncData} (F : Fun K "_law_cell_at" "_law_cell_at" s_law_cell_at f fd) (z_len : mg "len" = none) : FnOk P w K mg base CX0 1 f fd ["_law_script", "_law_k"] (spCell K) := by
  refine F.ok (k := 0) sc_law_cell_at (fun vs H Q E h => ?_) (fun cdv A outer s H vs Q E hr h => ?_)
  · obtain ⟨a, ns, k, rfl, _⟩ := h
    rfl
  obtain ⟨a, ns, k, rfl, hS, h0, hl, q⟩ := h
  refine ⟨_, (pss_cons (ps_if (pt_cmpR op_lt (pv 1) (pe_callB call_len_seq rfl z_len PySem.boot_len (pa_cons (pv 0) pa_nil)) (nomark _))
        (pss_one (ps_ret (pe_ix ix_list (pv 0) (pv 1) (fun _ _ => rfl))))
        pss_nil)
      (pss_one (ps_ret pe_int))), ?_⟩
  walk_at "rd"
  refine ⟨a, _, rfl, .inl hS, ?_⟩
  walk_at "rd"
  rw [List.length_map]
  refine ite2d (fun c => ?_) (fun c => ?_)
  · walk_at "rd"
    refine rd_ixL hS (at_ints h0 c) ?_
    exact q
  · walk_at "rd"
    have e : ns.getD k.toNat 0 = 0 := by
      simp [List.getD, List.getElem?_eq_none (show ns.length ≤ k.toNat by omega)]
    rw [e] at q
    exact q
theorem sc_law_number : FnScope ["_law_cell", "_law_part"] ["_law_cell"] (defScope s_law_number) := ⟨rfl, rfl, rfl, by decide +kernel, rfl, by decide +kernel, by decide +kernel⟩
theorem ok_law_number {f : Addr} {fd : FuncData} (F : Fun K "_law_number" "_law_number" s_law_number f fd) : FnOk P w K mg base CX0 1 f fd ["_law_cell"] spNumB := by
  refine F.ok (k := 0) sc_law_number (fun vs H Q E h => ?_) (fun cdv A outer s H vs Q E hr h => ?_)
  · obtain ⟨c, rfl, _⟩ := h
    rfl
  obtain ⟨c, rfl, q⟩ := h
  refine ⟨_, (pss_cons (ps_set (i := 1) sc_law_number.nd rfl (by first | exact Or.inl rfl | exact Or.inr rfl) (pe_op op_mod (pe_op op_fdivB (pv 0) pe_int) (pe_op op_pow pe_int pe_int)))
      (pss_one (ps_ret (pe_ix ix_list (pe_lst (pa_cons (pv 1) (pa_cons (pe_un un_neg (pv 1)) (pa_cons (pe_op op_sub (pe_op op_mod (pv 1) pe_int) pe_int) pa_nil)))) (pe_op op_mod (pv 0) pe_int) (fun _ _ => rfl))))), ?_⟩
  walk_at "rd"
  rw [p40]
  generalize hp : c / 3 % 10000000000000000000000000000000000000000 = pt
  refine ⟨(by show 3 ≤ sizeLine; decide), fun l hl => ?_⟩
  walk_at "rd"
  have fin : ∀ k : Int, -10000000000000000000000000000000000000000 ≤ k → k ≤ 10000000000000000000000000000000000000000 → atI [V.int pt, V.int (-pt), V.int (pt % 1000 - 500)] (c % 3) = some (V.int k) → rIxL K (.ref l) (.int (c % 3)) (upd H l (.lst [V.int pt, V.int (-pt), V.int (pt % 1000 - 500)])) Q := fun k k0 k1 e =>
    rd_ixL (SqL.of upd_same) e (q k _ (same_new hl _) k0 k1)
  rcases (by omega : c % 3 = 0 ∨ c % 3 = 1 ∨ c % 3 = 2) with e | e | e
  · exact fin pt (by omega) (by omega) (by rw [e]; rfl)
  · exact fin (-pt) (by omega) (by omega) (by rw [e]; rfl)
  · exact fin (pt % 1000 - 500) (by omega) (by omega) (by rw [e]; rfl)
theorem sc_law_mixed : FnScope ["_law_cell", "_law_k", "_law_number_here"] ["_law_cell", "_law_k"] (defScope s_law_mixed) := ⟨rfl, rfl, rfl, by decide +kernel, rfl, by decide +kernel, by decide +kernel⟩
theorem ok_law_mixed {f : Addr} {fd : FuncData} (F : Fun K "_law_mixed" "_law_mixed" s_law_mixed f fd) : FnOk P w K mg base CX0 1 f fd ["_law_cell", "_law_k"] spMixed := by
  refine F.ok (k := 0) sc_law_mixed (fun vs H Q E h => ?_) (fun cdv A outer s H vs Q E hr h => ?_)
  · obtain ⟨c, k, rfl, _⟩ := h
    rfl
  obtain ⟨c, k, rfl, k0, k1, q⟩ := h
  refine ⟨_, (pss_cons (ps_if (pt_cmpR op_eq (pe_op op_mod (pv 0) pe_int) pe_int (nomark _))
        (pss_one (ps_ret (pe_op op_and (pe_op op_shr (pe_op op_fdivB (pv 0) pe_int) (pe_op op_mulB pe_int (pv 1))) pe_int)))
        pss_nil)
      (pss_cons (ps_set (i := 2) sc_law_mixed.nd rfl (by first | exact Or.inl rfl | exact Or.inr rfl) (pe_op op_mod (pe_op op_mulB (pe_op op_add (pe_op op_add (pe_op op_mod (pv 0) pe_int) (pe_op op_mulB pe_int (pv 1))) pe_int) pe_int) pe_int))
      (pss_cons (ps_set (i := 2) sc_law_mixed.nd rfl (by first | exact Or.inl rfl | exact Or.inr rfl) (pe_op op_mod (pe_op op_mulB (pv 2) (pe_op op_add (pe_op op_fdivB (pv 2) pe_int) pe_int)) pe_int))
      (pss_one (ps_ret (pe_op op_mod (pe_op op_mulB (pv 2) (pe_op op_add (pe_op op_add (pe_op op_fdivB (pv 2) pe_int) pe_int) (pv 1))) pe_int)))))), ?_⟩
  walk_at "rd"
  refine ite2d (fun _ => ?_) (fun _ => ?_)
  · walk_at "rd"
    refine rd_i ⟨64, 64, by unfold Bt; omega, by unfold Bt; omega, by decide⟩ ?_
    walk_at "rd"
    refine rd_i (show (0 : Int) ≤ 41 * k by omega) ?_
    walk_at "rd"
    exact q _ (bitAnd_mask _ 2199023255551).1
  walk_at "rd"
  refine rd_i ⟨64, 64, by unfold Bt; omega, by unfold Bt; omega, by decide⟩ ?_
  walk_at "rd"
  refine rd_i ⟨64, 64, by unfold Bt; omega, by unfold Bt; omega, by decide⟩ ?_
  walk_at "rd"
  generalize h1 : (c % 2147483647 + 7919 * k + 1) * 48271 % 2147483647 = x
  have x0 : 0 ≤ x := by rw [← h1]; exact Int.emod_nonneg _ (by decide)
  have x1 : x < 2147483647 := by rw [← h1]; exact Int.emod_lt_of_pos _ (by decide)
  refine rd_i ⟨64, 64, by unfold Bt; omega, by unfold Bt; omega, by decide⟩ ?_
  walk_at "rd"
  generalize h2 : x * (x / 1009 + 69621) % 2147483647 = y
  have y0 : 0 ≤ y := by rw [← h2]; exact Int.emod_nonneg _ (by decide)
  have y1 : y < 2147483647 := by rw [← h2]; exact Int.emod_lt_of_pos _ (by decide)
  refine rd_i ⟨64, 64, by unfold Bt; omega, by unfold Bt; omega, by decide⟩ ?_
  walk_at "rd"
  exact q _ (Int.emod_nonneg _ (by decide))
theorem sc_law_term : FnScope ["_law_cell", "_law_k", "_law_most", "_law_n", "_law_a", "_law_b"] ["_law_cell", "_law_k", "_law_most"] (defScope s_law_term) := ⟨rfl, rfl, rfl, by decide +kernel, rfl, by decide +kernel, by decide +kernel⟩
theorem ok_law_term {f : Addr} {fd : FuncData} (F : Fun K "_law_term" "_law_term" s_law_term f fd) (c__law_mixed : Cal P w K mg base 1 "_law_mixed" ["_law_cell", "_law_k"] spMixed) : FnOk P w K mg base CX0 2 f fd ["_law_cell", "_law_k", "_law_most"] spTermL := by
  refine F.ok (k := 1) sc_law_term (fun vs H Q E h => ?_) (fun cdv A outer s H vs Q E hr h => ?_)
  · obtain ⟨c, k, m, rfl, _⟩ := h
    rfl
  obtain ⟨c, k, m, rfl, k0, k1, m0, m1, q⟩ := h
  refine ⟨_, (pss_cons (ps_set (i := 3) sc_law_term.nd rfl (by first | exact Or.inl rfl | exact Or.inr rfl) (pe_op op_add pe_int (pe_op op_mod (pe_cal c__law_mixed (hr.mono (by decide)) rfl (pa_cons (pv 0) (pa_cons (pe_op op_add (pe_op op_mulB pe_int (pv 1)) pe_int) pa_nil))) (pv 2))))
      (pss_cons (ps_set (i := 4) sc_law_term.nd rfl (by first | exact Or.inl rfl | exact Or.inr rfl) (pe_op op_mod (pe_cal c__law_mixed (hr.mono (by decide)) rfl (pa_cons (pv 0) (pa_cons (pe_op op_add (pe_op op_mulB pe_int (pv 1)) pe_int) pa_nil))) (pe_op op_add (pv 3) pe_int)))
      (pss_cons (ps_set (i := 5) sc_law_term.nd rfl (by first | exact Or.inl rfl | exact Or.inr rfl) (pe_op op_mod (pe_cal c__law_mixed (hr.mono (by decide)) rfl (pa_cons (pv 0) (pa_cons (pe_op op_add (pe_op op_mulB pe_int (pv 1)) pe_int) pa_nil))) (pv 3)))
      (pss_one (ps_ret (pe_tup (pa_cons (pe_op op_sub pe_int (pe_op op_mulB pe_int (pe_op op_mod (pe_cal c__law_mixed (hr.mono (by decide)) rfl (pa_cons (pv 0) (pa_cons (pe_op op_add (pe_op op_mulB pe_int (pv 1)) pe_int) pa_nil))) pe_int))) (pa_cons (pv 4) (pa_cons (pv 5) (pa_cons (pv 3) pa_nil)))))))))), ?_⟩
  have mul : CMulB 4 k := ⟨64, 64, by unfold Bt; decide, by unfold Bt; omega, by decide⟩
  walk_at "rd"
  refine rd_i mul ?_
  walk_at "rd"
  refine ⟨c, _, rfl, by omega, by omega, fun x x0 => ?_⟩
  walk_at "rd"
  have n0 := Int.emod_nonneg x (show m ≠ 0 by omega)
  have n1 := Int.emod_lt_of_pos x (show 0 < m by omega)
  generalize hn : 1 + x % m = n
  refine rd_i mul ?_
  walk_at "rd"
  refine ⟨c, _, rfl, by omega, by omega, fun y y0 => ?_⟩
  walk_at "rd"
  have a0 := Int.emod_nonneg y (show n + 1 ≠ 0 by omega)
  have a1 := Int.emod_lt_of_pos y (show 0 < n + 1 by omega)
  generalize y % (n + 1) = a at a0 a1 ⊢
  refine rd_i mul ?_
  walk_at "rd"
  refine ⟨c, _, rfl, by omega, by omega, fun z z0 => ?_⟩
  walk_at "rd"
  have b0 := Int.emod_nonneg z (show n ≠ 0 by omega)
  have b1 := Int.emod_lt_of_pos z (show 0 < n by omega)
  generalize z % n = b at b0 b1 ⊢
  refine rd_i mul ?_
  walk_at "rd"
  refine ⟨c, _, rfl, by omega, by omega, fun v v0 => ?_⟩
  walk_at "rd"
  refine rd_i ⟨64, 64, by unfold Bt; decide, by unfold Bt; omega, by decide⟩ ?_
  walk_at "rd"
  refine ⟨(by show 4 ≤ sizeLine; decide), fun p hp => ?_⟩
  exact q p (1 - 2 * (v % 2), a, b, n) _ (same_new hp _) upd_same ⟨by show 1 - 2 * (v % 2) = 1 ∨ 1 - 2 * (v % 2) = -1; omega, by show 1 ≤ n; omega, by show n ≤ 1000; omega, a0, by show a ≤ n; omega, b0, b1⟩
theorem sc_law_terms : FnScope ["_law_cell", "_law_most"] ["_law_cell"] (defScope s_law_terms) := ⟨rfl, rfl, rfl, by decide +kernel, rfl, by decide +kernel, by decide +kernel⟩
theorem ok_law_terms {f : Addr} {fd : FuncData} (F : Fun K "_law_terms" "_law_terms" s_law_terms f fd) (c__law_term : Cal P w K mg base 2 "_law_term" ["_law_cell", "_law_k", "_law_most"] spTermL) (z_range : mg "range" = none) : FnOk P w K mg base CX0 3 f fd ["_law_cell"] (spTermsL K) := by
  refine F.ok (k := 2) sc_law_terms (fun vs H Q E h => ?_) (fun cdv A outer s H vs Q E hr h => ?_)
  · obtain ⟨c, rfl, _⟩ := h
    rfl
  obtain ⟨c, rfl, q⟩ := h
  refine ⟨_, (pss_cons (ps_set (i := 1) sc_law_terms.nd rfl (by first | exact Or.inl rfl | exact Or.inr rfl) (pe_ix ix_list (pe_lst (pa_cons pe_int (pa_cons pe_int (pa_cons pe_int (pa_cons pe_int pa_nil))))) (pe_op op_mod (pe_op op_fdivB (pv 0) pe_int) pe_int) (fun _ _ => rfl)))
      (pss_one (ps_ret (pe_comp rfl (compOk_freeM ["_law_cell", "_law_most"] ["_law_cell", "_law_most"] rfl rfl (by with_unfolding_all rfl) (by decide +kernel) rfl (by decide +kernel) rfl (by decide +kernel) (by walk_at "fm") (by with_unfolding_all rfl) (by with_unfolding_all rfl)) (pi_range1 rfl z_range (pa_cons (pe_op op_mod (pv 0) pe_int) pa_nil)) (fun _ _ _ _ => pifs_nil) (fun _ _ _ _ => (pe_cal c__law_term (hr.mono (by decide)) rfl (pa_cons (pe_op op_fdivB (pv 1) pe_int) (pa_cons (pv 0) (pa_cons (pv 2) pa_nil))))))))), ?_⟩
  walk_at "rd"
  refine ⟨(by show 4 ≤ sizeLine; decide), fun l hl => ?_⟩
  have s1 := same_new hl (.lst [.int 4, .int 19, .int 100, .int 1000])
  have t1 : upd H l (.lst [.int 4, .int 19, .int 100, .int 1000]) l = some (.lst (([4, 19, 100, 1000] : List Int).map V.int)) := upd_same
  generalize upd H l (.lst [.int 4, .int 19, .int 100, .int 1000]) = H1 at s1 t1 ⊢
  walk_at "rd"
  obtain ⟨m, hm, m0, m1⟩ : ∃ m, atI (([4, 19, 100, 1000] : List Int).map V.int) (c / 7 % 4) = some (V.int m) ∧ 1 ≤ m ∧ m ≤ 1000 := by
    rcases (by omega : c / 7 % 4 = 0 ∨ c / 7 % 4 = 1 ∨ c / 7 % 4 = 2 ∨ c / 7 % 4 = 3) with e | e | e | e <;> rw [e]
    · exact ⟨4, rfl, by decide, by decide⟩
    · exact ⟨19, rfl, by decide, by decide⟩
    · exact ⟨100, rfl, by decide, by decide⟩
    · exact ⟨1000, rfl, by decide, by decide⟩
  refine rd_ixL (SqL.of t1) hm ?_
  walk_at "rd"
  refine rd_comp (rd_rng1 ?_)
  walk_at "rd"
  refine ⟨c % 7, rfl, by omega, by omega, ?_⟩
  refine comp_inv walk_r (by rw [List.length_map, List.length_range]; exact small1000 (by omega)) (fun D i ys H2 => H2 D = some (.lst ys) ∧ Same H1 H2 ∧ ∃ ts : List Tm, Tms H2 ys ts ∧ (∀ t ∈ ts, OkT t) ∧ ts.length = i) (fun D hD => ⟨upd_same, same_new hD _, [], .nil, (fun t ht => nomatch ht), rfl⟩)
    (fun D i ys H2 _ ⟨h1, _, ts, h3, _, h5⟩ => ⟨h1, by rw [h3.len]; omega, trivial⟩) (fun D i x ys H2 hD hx ⟨h1, h2, ts, h3, h4, h5⟩ => ?_) (fun D ys H2 hD ⟨h1, h2, ts, h3, h4, h5⟩ => ?_)
  · rw [List.getElem?_map] at hx
    obtain ⟨j, hj, rfl⟩ := Option.map_eq_some_iff.mp hx
    have jl : j < (c % 7).toNat := List.mem_range.mp (List.mem_of_getElem? hj)
    refine rd_true (iteT ?_)
    walk_at "rd"
    refine ⟨_, _, m, rfl, by omega, by omega, m0, m1, fun p t H3 s3 hp ok => ⟨s3 _ _ h1, upd_same, same_app hD (h2.trans s3), ts ++ [t], ?_, fun u hu => ?_, by rw [List.length_append, h5]; rfl⟩⟩
    · exact Tms.upd (s3 _ _ h1) (Tms.snoc hp (h3.same s3))
    · rcases List.mem_append.mp hu with z | z
      · exact h4 u z
      · cases List.mem_singleton.mp z
        exact ok
  · rw [List.length_map, List.length_range] at h5
    exact q D ys ts H2 (s1.trans h2) ⟨h1, h3, h4, by omega⟩
theorem sc_law_fallen : FnScope ["_law_terms_here"] ["_law_terms_here"] (defScope s_law_fallen) := ⟨rfl, rfl, rfl, by decide +kernel, rfl, by decide +kernel, by decide +kernel⟩
theorem ok_law_fallen {f : Addr} {fd : FuncData} (F : Fun K "_law_fallen" "_law_fallen" s_law_fallen f fd) (z_len : mg "len" = none) : FnOk P w K mg base CX0 1 f fd ["_law_terms_here"] (spFallsL K) := by
  refine F.ok (k := 0) sc_law_fallen (fun vs H Q E h => ?_) (fun cdv A outer s H vs Q E hr h => ?_)
  · obtain ⟨l, us, ts, rfl, _⟩ := h
    rfl
  obtain ⟨l, us, ts, rfl, T, q⟩ := h
  have ul := T.tm.len
  have few := T.few
  refine ⟨_, (pss_one (ps_ret (pe_callB call_len_seq rfl z_len PySem.boot_len (pa_cons (pe_comp rfl (compOk_nil ["_law_terms_here"] rfl (by decide +kernel) rfl (by decide +kernel) rfl (by decide +kernel) (by decide +kernel)) (pi_list (pv 0)) (fun _ _ _ _ => (pifs_one (pt_cmpR op_eq (pe_ix ix_tup_c (pv 0) pe_int (fun _ _ => rfl)) (pe_un un_neg pe_int) (nomark _)))) (fun _ _ _ _ => (pv 0))) pa_nil)))), ?_⟩
  walk_at "rd"
  refine comp_l rfl (SqL.of T.li) (by rw [ul]; exact small1000 (by omega)) (fun v => ((tmAt H v).map fun t => decide (t.1 = -1)).getD false) (fun v => v) (fun x hx D ys Q' hD h => ?_) (fun x hx _ D ys Q' hD h => ⟨_, rfl, h⟩) (fun D4 hD4 => ?_)
  · obtain ⟨a, t, rfl, ht, ha⟩ := T.tm.mem hx
    rw [tmAt_eq ha] at h
    walk_at "rd"
    refine rd_ixT (SqT.of (same_new hD _ _ _ ha)) at40 ?_
    walk_at "rd"
    rw [dec_int0]
    exact h
  walk_at "rd"
  refine ⟨D4, _, rfl, .inl (SqL.of upd_same), ?_⟩
  have e : ((((us.filter fun v => ((tmAt H v).map fun t => decide (t.1 = -1)).getD false).map fun v => v).length : Nat) : Int) = falls ts := by
    have := congrArg List.length (T.tm.fm (fun t => decide (t.1 = -1)) (fun _ => V.non))
    rw [List.length_map, List.length_map] at this
    rw [List.length_map, this]
    rfl
  rw [e]
  exact q _ (same_new hD4 _)
theorem sc_law_term_text : FnScope ["_law_term_here", "_law_sign"] ["_law_term_here"] (defScope s_law_term_text) := ⟨rfl, rfl, rfl, by decide +kernel, rfl, by decide +kernel, by decide +kernel⟩
theorem ok_law_term_text {f : Addr} {fd : FuncData} (F : Fun K "_law_term_text" "_law_term_text" s_law_term_text f fd) (z_str : mg "str" = none) : FnOk P w K mg base CX0 1 f fd ["_law_term_here"] (spTermTextL K) := by
  refine F.ok (k := 0) sc_law_term_text (fun vs H Q E h => ?_) (fun cdv A outer s H vs Q E hr h => ?_)
  · obtain ⟨p, t, rfl, _⟩ := h
    rfl
  obtain ⟨p, t, rfl, hp, ok, q⟩ := h
  obtain ⟨s1, s2, s3⟩ := okT_sm ok
  have sg := ok.sg
  have ePlus : Str.ofString "+" = txt [43] := by decide +kernel
  have eMinus : Str.ofString "-" = txt [45] := by decide +kernel
  have eB : Str.ofString " " = txt [32] := by decide +kernel
  have w := tmW_len ok
  refine ⟨_, (pss_cons (ps_set (i := 1) sc_law_term_text.nd rfl (by first | exact Or.inl rfl | exact Or.inr rfl) pe_str)
      (pss_cons (ps_cut (ps_if (pt_cmpR op_eq (pe_ix ix_tup (pv 0) pe_int (fun _ _ => rfl)) (pe_un un_neg pe_int) (nomark _))
        (pss_one (ps_set (i := 1) sc_law_term_text.nd rfl (by first | exact Or.inl rfl | exact Or.inr rfl) pe_str))
        pss_nil))
      (pss_one (ps_ret (pe_op op_add_str (pe_op op_add_str pe_str (pv 1)) (pe_bm PySem.F.plainAttrs_str PySem.F.slot_str_join PySem.F.type_str_join mt_join pe_str (pa_cons (pe_comp rfl (compOk_nil ["_law_term_here", "_law_sign"] rfl (by decide +kernel) rfl (by decide +kernel) rfl (by decide +kernel) (by decide +kernel)) (pi_tup (pe_slice sl_tup (pv 0) (po_some pe_int) po_none)) (fun _ _ _ _ => pifs_nil) (fun _ _ _ _ => (pe_callTy call_str_int rfl z_str PyProof.Rows.boot_str (pa_cons (pv 0) pa_nil)))) pa_nil))))))), ?_⟩
  walk_at "rd"
  refine rd_cut (fun σ' H' => H' = H ∧ σ' = [some (.ref p), some (.str (txt [if t.1 = 1 then 43 else 45]))]) ?_ ?_
  · walk_at "rd"
    refine rd_ixT hp at40 ?_
    walk_at "rd"
    by_cases c : t.1 = -1
    · refine iteD (congrArg V.int c) ?_
      walk_at "rd"
      rw [if_neg (by omega), eMinus]
      exact ⟨rfl, rfl⟩
    · refine iteN (fun y => c (V.int.inj y)) ?_
      walk_at "rd"
      rw [if_pos (by omega), ← ePlus]
      exact ⟨rfl, rfl⟩
  rintro σ' H ⟨rfl, rfl⟩
  walk_at "rd"
  refine ⟨_, _, rfl, rfl, (by rw [eB, txt_len, txt_len]; show 1 + 1 ≤ sizeLine; decide), ?_⟩
  rw [eB, cpl_addT]
  walk_at "rd"
  refine rd_bm ?_
  walk_at "rd"
  refine ⟨rfl, ?_⟩
  walk_at "rd"
  refine rd_comp (rd_iT ?_)
  walk_at "rd"
  refine rd_slT hp (fun z => by cases z.1) fun u hu => ?_
  rw [show cutV (tmV t) (some 1) none = (tmV t).drop 1 from cut_from' (tmV t) 1]
  have sA := same_new hu (.tup ((tmV t).drop 1))
  have tA : upd H u (.tup ((tmV t).drop 1)) u = some (.tup (([t.2.1, t.2.2.1, t.2.2.2] : List Int).map V.int)) := upd_same
  generalize upd H u (.tup ((tmV t).drop 1)) = H1 at sA tA ⊢
  refine ⟨u, rfl, ⟨_, SqT.of tA⟩, ?_⟩
  have sm : ∀ n ∈ ([t.2.1, t.2.2.1, t.2.2.2] : List Int), Sm n := fun n hn => by
    rcases List.mem_cons.mp hn with rfl | hn
    · exact s1
    rcases List.mem_cons.mp hn with rfl | hn
    · exact s2
    · rw [List.mem_singleton.mp hn]
      exact s3
  refine comp_str walk_t (by show 3 ≤ 1000; decide) (fun D ys hD => (same_new hD _).tup (SqT.of tA)) (fun n hn => sm_log (sm n hn)) fun D hD => ?_
  have sB := same_new hD (.lst ((([t.2.1, t.2.2.1, t.2.2.2] : List Int).map intT).map V.str))
  have tB : upd H1 D (.lst ((([t.2.1, t.2.2.1, t.2.2.2] : List Int).map intT).map V.str)) D = some (.lst ((([t.2.1, t.2.2.1, t.2.2.2] : List Int).map intT).map V.str)) := upd_same
  generalize upd H1 D (.lst ((([t.2.1, t.2.2.1, t.2.2.2] : List Int).map intT).map V.str)) = H2 at sB tB ⊢
  refine rd_nil ?_
  have sl := sum_lens (k := 61) (zs := ([t.2.1, t.2.2.1, t.2.2.2] : List Int).map intT) fun z hz => by
    obtain ⟨n, hn, rfl⟩ := List.mem_map.mp hz
    exact intT_lenS (sm n hn)
  refine ⟨_, D, ([t.2.1, t.2.2.1, t.2.2.2] : List Int).map intT, rfl, rfl, SqL.of tB, ?_, ?_⟩
  · have e1 : (Str.ofString ",").length = 1 := by decide +kernel
    rw [e1]
    refine Nat.le_trans (Nat.add_le_add_right sl _) ?_
    show 3 * 61 + 3 * 1 ≤ 16777216
    decide
  rw [join_nums]
  unfold tmW at w
  rw [List.length_cons] at w
  refine ⟨_, _, rfl, rfl, ?_, ?_⟩
  · rw [txt_len, txt_len]
    refine Nat.le_trans (show 2 + _ ≤ 2 + 187 from Nat.add_le_add_left (Nat.le_trans (Nat.le_of_lt (Nat.lt_of_succ_le w)) (by decide)) 2) (by decide)
  rw [cpl_addT]
  have ef : [32] ++ [if t.1 = 1 then 43 else 45] ++ joinC 44 ([t.2.1, t.2.2.1, t.2.2.2].map numT) = 32 :: tmW t := rfl
  rw [ef]
  exact q _ (sA.trans sB)
theorem sc_law_terms_text : FnScope ["_law_terms_here"] ["_law_terms_here"] (defScope s_law_terms_text) := ⟨rfl, rfl, rfl, by decide +kernel, rfl, by decide +kernel, by decide +kernel⟩
theorem ok_law_terms_text {f : Addr} {fd : FuncData} (F : Fun K "_law_terms_text" "_law_terms_text" s_law_terms_text f fd) (c__law_term_text : Cal P w K mg base 1 "_law_term_text" ["_law_term_here"] (spTermTextL K)) : FnOk P w K mg base CX0 2 f fd ["_law_terms_here"] (spTermsTextL K) := by
  refine F.ok (k := 1) sc_law_terms_text (fun vs H Q E h => ?_) (fun cdv A outer s H vs Q E hr h => ?_)
  · obtain ⟨l, us, ts, rfl, _⟩ := h
    rfl
  obtain ⟨l, us, ts, rfl, T, q⟩ := h
  have ul := T.tm.len
  have few := T.few
  refine ⟨_, (pss_one (ps_ret (pe_bm PySem.F.plainAttrs_str PySem.F.slot_str_join PySem.F.type_str_join mt_join pe_str (pa_cons (pe_comp rfl (compOk_nil ["_law_terms_here"] rfl (by decide +kernel) rfl (by decide +kernel) rfl (by decide +kernel) (by decide +kernel)) (pi_list (pv 0)) (fun _ _ _ _ => pifs_nil) (fun _ _ _ _ => (pe_cal c__law_term_text (hr.mono (by decide)) rfl (pa_cons (pv 0) pa_nil)))) pa_nil)))), ?_⟩
  walk_at "rd"
  refine rd_bm ?_
  walk_at "rd"
  refine ⟨rfl, ?_⟩
  walk_at "rd"
  refine rd_comp (rd_iL ?_)
  walk_at "rd"
  refine ⟨l, rfl, ⟨_, SqL.of T.li⟩, ?_⟩
  refine comp_inv walk_l (by rw [ul]; exact small1000 (by omega)) (fun D i ys H2 => H2 D = some (.lst ys) ∧ Same H H2 ∧ ys = (((ts.take i).map tmW).map (32 :: ·)).map fun w => V.str (txt w)) (fun D hD => ⟨upd_same, same_new hD _, rfl⟩)
    (fun D i ys H2 _ ⟨h1, h2, h3⟩ => ⟨h1, by rw [h3, List.length_map, List.length_map, List.length_map]; exact List.length_take_le _ _, SqL.of (h2 _ _ T.li)⟩) (fun D i x ys H2 hD hx ⟨h1, h2, h3⟩ => ?_) (fun D ys H2 hD ⟨h1, h2, h3⟩ => ?_)
  · obtain ⟨a, t, rfl, ht, ha⟩ := T.tm.at hx
    refine rd_true (iteT ?_)
    walk_at "rd"
    refine ⟨a, t, rfl, SqT.of (h2 _ _ ha), T.ok t (List.mem_of_getElem? ht), fun H3 s3 => ⟨s3 _ _ h1, upd_same, same_app hD (h2.trans s3), ?_⟩⟩
    rw [List.take_add_one, ht, Option.toList_some, List.map_append, List.map_append, List.map_append, h3]
    rfl
  · rw [ul, List.take_length] at h3
    have e3 : ys = (((ts.map tmW).map (32 :: ·)).map txt).map V.str := by rw [h3]; simp [Function.comp_def]
    subst e3
    refine rd_nil ?_
    have sl := sum_lens (k := 188) (zs := ((ts.map tmW).map (32 :: ·)).map txt) fun z hz => by
      obtain ⟨w, hw, rfl⟩ := List.mem_map.mp hz
      obtain ⟨v, hv, rfl⟩ := List.mem_map.mp hw
      obtain ⟨t, ht, rfl⟩ := List.mem_map.mp hv
      have := tmW_len (T.ok t ht)
      rw [txt_len, List.length_cons]
      omega
    refine ⟨_, D, ((ts.map tmW).map (32 :: ·)).map txt, rfl, rfl, SqL.of h1, ?_, ?_⟩
    · have e0 : (Str.ofString "").length = 0 := by decide +kernel
      rw [e0]
      rw [List.length_map, List.length_map, List.length_map] at sl ⊢
      omega
    have ej : Txt.join (Str.ofString "") (((ts.map tmW).map (32 :: ·)).map txt) = txt (flatT ts) := by
      rw [eNo]
      refine str_ext ?_
      rw [join_cpl0, List.map_map]
      show (((ts.map tmW).map (32 :: ·)).map fun w => w).flatten = flatT ts
      rw [List.map_id']
      rfl
    rw [ej]
    exact q _ h2
theorem sc_law_sun : FnScope ["_law_script", "_law_start", "_law_terms_here", "_law_cell", "_law_many", "_law_most", "_law_lengths", "_law_leap", "_law_text"] ["_law_script", "_law_start"] (defScope s_law_sun) := ⟨rfl, rfl, rfl, by decide +kernel, rfl, by decide +kernel, by decide +kernel⟩
theorem ok_law_sun {f : Addr} {fd : FuncData} (F : Fun K "_law_sun" "_law_sun" s_law_sun f fd) (er : Errs K mg c_FeastError c_NoNumber c_NoMeasure c_NoDate c_NoText c_Measure c_Calendar c_Sun c_Moon) (c__law_terms : Cal P w K mg base 3 "_law_terms" ["_law_cell"] (spTermsL K)) (c__law_cell_at : Cal P w K mg base 1 "_law_cell_at" ["_law_script", "_law_k"] (spCell K)) (c__law_mixed : Cal P w K mg base 1 "_law_mixed" ["_law_cell", "_law_k"] spMixed) (c__law_fallen : Cal P w K mg base 1 "_law_fallen" ["_law_terms_here"] (spFallsL K)) (c__law_terms_text : Cal P w K mg base 2 "_law_terms_text" ["_law_terms_here"] (spTermsTextL K)) (c_Sun___init__ : CalI P w K mg base CX0 7 "Sun" c_Sun ["self", "start", "lengths", "leap", "terms"] (spInitS K c_Sun c_Measure)) (z_range : mg "range" = none) (z_max : mg "max" = none) (z_str : mg "str" = none) : FnOk P w K mg base CX0 9 f fd ["_law_script", "_law_start"] (spMade72 K c_Sun c_Moon c_Measure true) := by
  refine F.ok (k := 8) sc_law_sun (fun vs H Q E h => ?_) (fun cdv A outer s H vs Q E hr h => ?_)
  · obtain ⟨a, ns, st, rfl, _⟩ := h
    rfl
  obtain ⟨a, ns, st, rfl, hS, h63, bst, smst, q⟩ := h
  have eS : Str.ofString "sun " = txt [115, 117, 110, 32] := by decide +kernel
  have eB : Str.ofString " " = txt [32] := by decide +kernel
  have eLp : Str.ofString " leap " = txt [32, 108, 101, 97, 112, 32] := by decide +kernel
  refine ⟨_, (pss_cons (ps_set (i := 2) sc_law_sun.nd rfl (by first | exact Or.inl rfl | exact Or.inr rfl) (pe_cal c__law_terms (hr.mono (by decide)) rfl (pa_cons (pe_cal c__law_cell_at (hr.mono (by decide)) rfl (pa_cons (pv 0) (pa_cons pe_int pa_nil))) pa_nil)))
      (pss_cons (ps_set (i := 3) sc_law_sun.nd rfl (by first | exact Or.inl rfl | exact Or.inr rfl) (pe_cal c__law_cell_at (hr.mono (by decide)) rfl (pa_cons (pv 0) (pa_cons pe_int pa_nil))))
      (pss_cons (ps_set (i := 4) sc_law_sun.nd rfl (by first | exact Or.inl rfl | exact Or.inr rfl) (pe_op op_add pe_int (pe_op op_mod (pe_op op_fdivB (pv 3) pe_int) (pe_ix ix_list (pe_lst (pa_cons pe_int (pa_cons pe_int (pa_cons pe_int (pa_cons pe_int pa_nil))))) (pe_op op_mod (pv 3) pe_int) (fun _ _ => rfl)))))
      (pss_cons (ps_set (i := 5) sc_law_sun.nd rfl (by first | exact Or.inl rfl | exact Or.inr rfl) (pe_ix ix_list (pe_lst (pa_cons pe_int (pa_cons pe_int (pa_cons pe_int (pa_cons pe_int pa_nil))))) (pe_op op_mod (pe_op op_fdivB (pv 3) pe_int) pe_int) (fun _ _ => rfl)))
      (pss_cons (ps_setComp (i := 6) sc_law_sun.nd rfl (by first | exact Or.inl rfl | exact Or.inr rfl) rfl (compOk_freeM ["_law_script", "_law_start", "_law_terms_here", "_law_cell", "_law_many", "_law_most", "_law_lengths", "_law_leap", "_law_text"] ["_law_script", "_law_start", "_law_terms_here", "_law_cell", "_law_many", "_law_most", "_law_lengths", "_law_leap", "_law_text"] rfl rfl (by with_unfolding_all rfl) (by decide +kernel) rfl (by decide +kernel) rfl (by decide +kernel) (by walk_at "fm") (by with_unfolding_all rfl) (by with_unfolding_all rfl)) (pi_range1 rfl z_range (pa_cons (pv 4) pa_nil)) (fun _ _ _ _ => pifs_nil) (fun _ _ _ _ => (pe_op op_mod (pe_cal c__law_mixed (hr.mono (by decide)) rfl (pa_cons (pe_op op_fdivB (pv 4) pe_int) (pa_cons (pv 0) pa_nil))) (pv 6))))
      (pss_cons (ps_set (i := 7) sc_law_sun.nd rfl (by first | exact Or.inl rfl | exact Or.inr rfl) (pe_op op_add pe_int (pe_op op_mod (pe_cal c__law_mixed (hr.mono (by decide)) rfl (pa_cons (pe_op op_fdivB (pv 3) pe_int) (pa_cons pe_int pa_nil))) (pv 4))))
      (pss_cons (ps_asg (pe_callB (call_max2 rfl) rfl z_max PyProof.Rows.boot_max (pa_cons (pe_ix ix_list (pv 6) (pe_op op_sub (pv 7) pe_int) (fun _ _ => rfl)) (pa_cons (pe_op op_add (pe_cal c__law_fallen (hr.mono (by decide)) rfl (pa_cons (pv 2) pa_nil)) pe_int) pa_nil))) (pg_sub (pv 6) (pe_op op_sub (pv 7) pe_int) set_list))
      (pss_cons (ps_set (i := 8) sc_law_sun.nd rfl (by first | exact Or.inl rfl | exact Or.inr rfl) (pe_op op_add_str (pe_op op_add_str (pe_op op_add_str pe_str (pe_callTy call_str_int rfl z_str PyProof.Rows.boot_str (pa_cons (pv 1) pa_nil))) pe_str) (pe_bm PySem.F.plainAttrs_str PySem.F.slot_str_join PySem.F.type_str_join mt_join pe_str (pa_cons (pe_comp rfl (compOk_nil ["_law_script", "_law_start", "_law_terms_here", "_law_cell", "_law_many", "_law_most", "_law_lengths", "_law_leap", "_law_text"] rfl (by decide +kernel) rfl (by decide +kernel) rfl (by decide +kernel) (by decide +kernel)) (pi_list (pv 6)) (fun _ _ _ _ => pifs_nil) (fun _ _ _ _ => (pe_callTy call_str_int rfl z_str PyProof.Rows.boot_str (pa_cons (pv 0) pa_nil)))) pa_nil))))
      (pss_cons (ps_cut (ps_if (pt_cmpR (op_neNil hr.units) (pv 2) (pe_lst pa_nil) (nomark _))
        (pss_one (ps_set (i := 8) sc_law_sun.nd rfl (by first | exact Or.inl rfl | exact Or.inr rfl) (pe_op op_add_str (pe_op op_add_str (pe_op op_add_str (pv 8) pe_str) (pe_callTy call_str_int rfl z_str PyProof.Rows.boot_str (pa_cons (pv 7) pa_nil))) (pe_cal c__law_terms_text (hr.mono (by decide)) rfl (pa_cons (pv 2) pa_nil)))))
        pss_nil))
      (pss_one (ps_ret (pe_tup (pa_cons (pe_mk c_Sun___init__ (hr.mono (by decide)) rfl (pa_cons (pv 1) (pa_cons (pv 6) (pa_cons (pv 7) (pa_cons (pv 2) pa_nil))))) (pa_cons (pv 8) pa_nil)))))))))))))), ?_⟩
  walk_at "rdc"
  refine ⟨_, rfl, fun l us ts H0 s0 T => ?_⟩
  have hS0 := s0.seq hS
  have ul := T.tm.len
  have few := T.few
  have f6 : (ts.filter fun t => decide (t.1 = -1)).length ≤ ts.length := List.length_filter_le _ _
  have fl6 : 0 ≤ falls ts ∧ falls ts ≤ 6 := by
    unfold falls
    omega
  walk_at "rdc"
  generalize hc : ns.getD (Int.toNat 2) 0 = c
  refine ⟨(by show 4 ≤ sizeLine; decide), fun l1 hl1 => ?_⟩
  have s1 := same_new hl1 (.lst [.int 1, .int 3, .int 12, .int 20])
  have t1 : upd H0 l1 (.lst [.int 1, .int 3, .int 12, .int 20]) l1 = some (.lst (([1, 3, 12, 20] : List Int).map V.int)) := upd_same
  generalize upd H0 l1 (.lst [.int 1, .int 3, .int 12, .int 20]) = H1 at s1 t1 ⊢
  walk_at "rdc"
  obtain ⟨d, hd, d0, d1⟩ : ∃ m, atI (([1, 3, 12, 20] : List Int).map V.int) (c % 4) = some (V.int m) ∧ 1 ≤ m ∧ m ≤ 20 := by
    rcases (by omega : c % 4 = 0 ∨ c % 4 = 1 ∨ c % 4 = 2 ∨ c % 4 = 3) with e | e | e | e <;> rw [e]
    · exact ⟨1, rfl, by decide, by decide⟩
    · exact ⟨3, rfl, by decide, by decide⟩
    · exact ⟨12, rfl, by decide, by decide⟩
    · exact ⟨20, rfl, by decide, by decide⟩
  refine rd_ixL (SqL.of t1) hd ?_
  walk_at "rdc"
  have e0 := Int.emod_nonneg (c / 16) (show d ≠ 0 by omega)
  have e1 := Int.emod_lt_of_pos (c / 16) (show 0 < d by omega)
  generalize hm : 1 + c / 16 % d = m
  refine ⟨(by show 4 ≤ sizeLine; decide), fun l2 hl2 => ?_⟩
  have s2 := s1.trans (same_new hl2 (.lst [.int 2, .int 13, .int 32, .int 1001]))
  have t2 : upd H1 l2 (.lst [.int 2, .int 13, .int 32, .int 1001]) l2 = some (.lst (([2, 13, 32, 1001] : List Int).map V.int)) := upd_same
  generalize upd H1 l2 (.lst [.int 2, .int 13, .int 32, .int 1001]) = H2 at s2 t2 ⊢
  walk_at "rdc"
  obtain ⟨o, ho, o0, o1⟩ : ∃ m, atI (([2, 13, 32, 1001] : List Int).map V.int) (c / 4 % 4) = some (V.int m) ∧ 1 ≤ m ∧ m ≤ 1001 := by
    rcases (by omega : c / 4 % 4 = 0 ∨ c / 4 % 4 = 1 ∨ c / 4 % 4 = 2 ∨ c / 4 % 4 = 3) with e | e | e | e <;> rw [e]
    · exact ⟨2, rfl, by decide, by decide⟩
    · exact ⟨13, rfl, by decide, by decide⟩
    · exact ⟨32, rfl, by decide, by decide⟩
    · exact ⟨1001, rfl, by decide, by decide⟩
  refine rd_ixL (SqL.of t2) ho ?_
  walk_at "rdc"
  refine rd_comp (rd_rng1 ?_)
  walk_at "rdc"
  refine ⟨m, rfl, by omega, by omega, ?_⟩
  refine comp_inv walk_r (by rw [List.length_map, List.length_range]; exact small1000 (by omega)) (fun D i ys H3 => H3 D = some (.lst ys) ∧ Same H2 H3 ∧ ∃ ls : List Int, ys = ls.map V.int ∧ (∀ n ∈ ls, 0 ≤ n ∧ n ≤ 1000) ∧ ls.length = i) (fun D hD => ⟨upd_same, same_new hD _, [], rfl, (fun t ht => nomatch ht), rfl⟩)
    (fun D i ys H3 _ ⟨h1, _, ls, h3, _, h5⟩ => ⟨h1, by rw [h3, List.length_map]; omega, trivial⟩) (fun D i x ys H3 hD hx ⟨h1, h2, ls, h3, h4, h5⟩ => ?_) (fun D ys H3 hD ⟨h1, h2, ls, h3, h4, h5⟩ => ?_)
  · rw [List.getElem?_map] at hx
    obtain ⟨j, hj, rfl⟩ := Option.map_eq_some_iff.mp hx
    have jl : j < m.toNat := List.mem_range.mp (List.mem_of_getElem? hj)
    refine rd_true (iteT ?_)
    walk_at "rdc"
    refine ⟨_, _, rfl, by omega, by omega, fun v v0 => ?_⟩
    walk_at "rdc"
    have w0 := Int.emod_nonneg v (show o ≠ 0 by omega)
    have w1 := Int.emod_lt_of_pos v (show 0 < o by omega)
    refine ⟨h1, upd_same, same_app hD h2, ls ++ [v % o], by rw [h3, List.map_append]; rfl, fun n hn => ?_, by rw [List.length_append, h5]; rfl⟩
    rcases List.mem_append.mp hn with z | z
    · exact h4 n z
    · cases List.mem_singleton.mp z
      omega
  rw [List.length_map, List.length_range] at h5
  subst h3
  have s3 := s2.trans h2
  have T3 := T.same s3
  have hD0 : H0 D = none := s2.free hD
  walk_at "rdc"
  refine ⟨_, _, rfl, by omega, by omega, fun v v0 => ?_⟩
  walk_at "rdc"
  have w0 := Int.emod_nonneg v (show m ≠ 0 by omega)
  have w1 := Int.emod_lt_of_pos v (show 0 < m by omega)
  generalize hlp : 1 + v % m = lp
  have t4 := h1
  have elp : lp - 1 = (((lp - 1).toNat : Nat) : Int) := by omega
  generalize hi : (lp - 1).toNat = i at elp
  have il : i < ls.length := by omega
  have hat : ∀ {ls : List Int}, i < ls.length → atI (ls.map V.int) (i : Int) = some (V.int (ls.getD i 0)) := fun {ls} il => by
    refine atI_nat ?_
    rw [List.getElem?_map, List.getD_eq_getElem?_getD, List.getElem?_eq_getElem il]
    rfl
  have setm : ∀ {ls : List Int} {v : Int}, 0 ≤ v → v ≤ 1000 → (∀ n ∈ ls, 0 ≤ n ∧ n ≤ 1000) → ∀ n ∈ ls.set i v, 0 ≤ n ∧ n ≤ 1000 := fun v0 v1 h n hn => by
    rcases List.mem_or_eq_of_mem_set hn with z | z
    · exact h n z
    · omega
  have setg : ∀ {ls : List Int} {v : Int}, i < ls.length → (ls.set i v).getD i 0 = v := fun {ls v} il => by
    rw [List.getD_eq_getElem?_getD, List.getElem?_set_self il]
    rfl
  rw [elp]
  refine rd_ixL (SqL.of t4) (hat il) ?_
  walk_at "rdc"
  refine ⟨l, us, ts, rfl, T3, fun H4 s4 => ?_⟩
  walk_at "rdc"
  refine ⟨_, _, rfl, ?_⟩
  walk_at "rdc"
  rw [elp]
  refine rd_setL (s4 _ _ t4) (by rw [List.length_map]; exact il) ?_
  have m1000 := h4 _ (getD_mem' (ls := ls) (i := i) il)
  generalize hmx : (if falls ts + 1 > ls.getD i 0 then falls ts + 1 else ls.getD i 0) = mx
  obtain ⟨x0, x1, x2⟩ : falls ts + 1 ≤ mx ∧ 0 ≤ mx ∧ mx ≤ 1000 := by
    rw [← hmx]
    split <;> omega
  have t5 : upd H4 D (.lst ((ls.map V.int).set i (.int mx))) D = some (.lst ((ls.set i mx).map V.int)) := by rw [upd_same, List.map_set]
  have s5 : Same H0 (upd H4 D (.lst ((ls.map V.int).set i (.int mx)))) := fun b o h => by
    rw [upd_ne (ne_of_none h hD0)]
    exact s4 _ _ (s3 _ _ h)
  generalize upd H4 D (.lst ((ls.map V.int).set i (.int mx))) = H5 at t5 s5 ⊢
  have f0 : falls ts + 1 ≤ (ls.set i mx).getD i 0 := by rw [setg il]; exact x0
  have h4' := setm x1 x2 h4
  have h5' : (ls.set i mx).length = m.toNat := by rw [List.length_set]; exact h5
  clear hmx m1000 t4 h4 h5
  generalize ls.set i mx = ls at *
  have h4 := h4'
  have h5 := h5'
  have il : i < ls.length := by omega
  have f1 : falls ts < ls.sum := by
    have nn := sum_le (setm (ls := ls) (v := 0) (by omega) (by omega) h4)
    have hz := sum_set (ls := ls) (i := i) (e := 0 - ls.getD i 0) il
    rw [show ls.getD i 0 + (0 - ls.getD i 0) = 0 by omega] at hz
    omega
  have g : GoodS ls lp ts := ⟨by omega, by omega, h4, by omega, by omega, by rw [hi]; omega, f1, T.ok, T.few⟩
  have T5 := T.same s5
  have bsum := g.sum
  have lsm := lens_sm g.m
  have ll := g.l1
  have l20 : ls.length ≤ 20 := ll
  have lp0' := g.p0
  have lp1' := g.p1
  have slp : Sm lp := sm_of (by omega) (by omega)
  have d5 := t5
  walk_at "rdc"
  refine ⟨st, rfl, sm_log smst, ?_⟩
  rw [eS, eStr]
  have nl := num_len smst
  walk_at "rdc"
  refine ⟨_, _, rfl, rfl, (by rw [txt_len, txt_len]; exact Nat.le_of_lt (small1000 (by show 4 + (numT st).length ≤ 1000; omega))), ?_⟩
  rw [cpl_addT]
  walk_at "rdc"
  refine ⟨_, _, rfl, rfl, (by rw [eB, txt_len, txt_len, List.length_append]; exact Nat.le_of_lt (small1000 (by show 4 + (numT st).length + 1 ≤ 1000; omega))), ?_⟩
  rw [eB, cpl_addT]
  walk_at "rdc"
  refine rd_bm ?_
  walk_at "rdc"
  refine ⟨rfl, ?_⟩
  walk_at "rdc"
  refine rd_comp (rd_iL ?_)
  walk_at "rdc"
  refine ⟨D, rfl, ⟨_, SqL.of t5⟩, ?_⟩
  refine comp_str walk_l (by omega) (fun E ys hE => (same_new hE _).seq (SqL.of t5)) (fun n hn => sm_log (lsm n hn)) fun E hE => ?_
  have s6 := same_new hE (.lst ((ls.map intT).map V.str))
  have t6 : upd H5 E (.lst ((ls.map intT).map V.str)) E = some (.lst ((ls.map intT).map V.str)) := upd_same
  generalize upd H5 E (.lst ((ls.map intT).map V.str)) = H6 at s6 t6 ⊢
  refine rd_nil ?_
  have sl := sum_lens (k := 61) (zs := ls.map intT) fun z hz => by
    obtain ⟨n, hn, rfl⟩ := List.mem_map.mp hz
    exact intT_lenS (lsm n hn)
  refine ⟨_, E, ls.map intT, rfl, rfl, SqL.of t6, ?_, ?_⟩
  · have e1 : (Str.ofString ",").length = 1 := by decide +kernel
    rw [e1]
    rw [List.length_map] at sl ⊢
    omega
  rw [join_nums]
  have jl := lensT_len g.m l20
  refine ⟨_, _, rfl, rfl, ?_, ?_⟩
  · rw [txt_len, txt_len, List.length_append, List.length_append]
    show 4 + (numT st).length + 1 + _ ≤ sizeLine
    rw [sizeLine_eq]
    omega
  rw [cpl_addT]
  generalize hT0 : [115, 117, 110, 32] ++ numT st ++ [32] ++ joinC 44 (ls.map numT) = T0
  have T0l : T0.length ≤ 1400 := by
    rw [← hT0, List.length_append, List.length_append, List.length_append]
    show 4 + (numT st).length + 1 + _ ≤ 1400
    omega
  have s06 := s5.trans s6
  have T6 := T.same s06
  have d6 := s6 _ _ t5
  walk_at "rdc"
  refine rd_cut (fun σ' H' => Same H6 H' ∧ σ' = [some (.ref a), some (.int st), some (.ref l), some (.int c), some (.int m), some (.int o), some (.ref D), some (.int lp), some (.str (txt (calT (.sun st ls lp ts))))]) ?_ ?_
  · walk_at "rdc"
    refine ⟨Nat.zero_le _, fun nl' hn' => ?_⟩
    have s7 := same_new hn' (.lst [])
    have t7 : upd H6 nl' (.lst []) nl' = some (.lst []) := upd_same
    generalize upd H6 nl' (.lst []) = H7 at s7 t7 ⊢
    walk_at "rdc"
    have T7 := T6.same s7
    refine ⟨l, nl', us, rfl, rfl, SqL.of T7.li, SqL.of t7, ?_⟩
    by_cases cz : ts = []
    · subst cz
      have eu : us = [] := List.length_eq_zero_iff.mp (by rw [ul]; rfl)
      subst eu
      walk_at "rdc"
      refine iteF ?_
      walk_at "rdc"
      rw [calT_sun0, hT0]
      exact ⟨s7, rfl⟩
    · have eu : us.isEmpty = false := by
        cases us with
        | nil =>
          cases ts with
          | nil => exact absurd rfl cz
          | cons t r => simp at ul
        | cons u r => rfl
      rw [eu]
      walk_at "rdc"
      refine iteT ?_
      walk_at "rdc"
      refine ⟨_, _, rfl, rfl, (by rw [eLp, txt_len, txt_len, sizeLine_eq]; show T0.length + 6 ≤ _; omega), ?_⟩
      rw [eLp, cpl_addT]
      walk_at "rdc"
      refine ⟨lp, rfl, sm_log slp, ?_⟩
      rw [eStr]
      have nl2 := num_len slp
      refine ⟨_, _, rfl, rfl, (by rw [txt_len, txt_len, List.length_append, sizeLine_eq]; show T0.length + 6 + _ ≤ _; omega), ?_⟩
      rw [cpl_addT]
      walk_at "rdc"
      refine ⟨l, us, ts, rfl, T7, fun H8 s8 => ?_⟩
      have fl := flatT_len T.ok T.few
      refine ⟨_, _, rfl, rfl, (by rw [txt_len, txt_len, List.length_append, List.length_append, sizeLine_eq]; show T0.length + 6 + _ + _ ≤ _; omega), ?_⟩
      rw [cpl_addT, ← hT0, ← calT_sun1 st ls lp cz]
      walk_at "rdc"
      exact ⟨s7.trans s8, rfl⟩
  rintro σ' H7 ⟨s7, rfl⟩
  have T7 := T6.same s7
  walk_at "rdc"
  refine fun x dx hx hdx ne => init_sun hx hdx ne (s7 _ _ d6) T7.tm (.inr ⟨l, rfl, T7.li⟩) g (bst.mono (by decide)) fun H8 s8 S8 => ⟨rfl, ?_⟩
  walk_at "rdc"
  refine ⟨two, fun r hr' => ?_⟩
  have s9 := same_new hr' (.tup [.ref x, .str (txt (calT (.sun st ls lp ts)))])
  exact q r x (.sun st ls lp ts) _ ((s0.trans s06).trans (s7.trans (s8.trans s9))) upd_same (S8.same s9) rfl rfl
theorem sc_law_base : FnScope ["_law_cell", "_law_terms_here", "_law_most"] ["_law_cell", "_law_terms_here", "_law_most"] (defScope s_law_base) := ⟨rfl, rfl, rfl, by decide +kernel, rfl, by decide +kernel, by decide +kernel⟩
theorem ok_law_base {f : Addr} {fd : FuncData} (F : Fun K "_law_base" "_law_base" s_law_base f fd) (c__law_fallen : Cal P w K mg base 1 "_law_fallen" ["_law_terms_here"] (spFallsL K)) (z_min : mg "min" = none) : FnOk P w K mg base CX0 2 f fd ["_law_cell", "_law_terms_here", "_law_most"] (spBaseB K) := by
  refine F.ok (k := 1) sc_law_base (fun vs H Q E h => ?_) (fun cdv A outer s H vs Q E hr h => ?_)
  · obtain ⟨c, mo, l, us, ts, rfl, _⟩ := h
    rfl
  obtain ⟨c, mo, l, us, ts, rfl, T, mo0, mo1, q⟩ := h
  have few := T.few
  have f6 : (ts.filter fun t => decide (t.1 = -1)).length ≤ ts.length := List.length_filter_le _ _
  have fl6 : 0 ≤ falls ts ∧ falls ts ≤ 6 := by
    unfold falls
    omega
  refine ⟨_, (pss_one (ps_ret (pe_callB (call_min2 rfl) rfl z_min PyProof.Rows.boot_min (pa_cons (pv 2) (pa_cons (pe_op op_add (pe_op op_add (pe_cal c__law_fallen (hr.mono (by decide)) rfl (pa_cons (pv 1) pa_nil)) pe_int) (pe_op op_mod (pe_op op_fdivB (pv 0) pe_int) (pe_ix ix_list (pe_lst (pa_cons pe_int (pa_cons pe_int (pa_cons (pv 2) pa_nil)))) (pe_op op_mod (pv 0) pe_int) (fun _ _ => rfl)))) pa_nil))))), ?_⟩
  walk_at "rd"
  refine ⟨l, us, ts, rfl, T, fun H1 s1 => ?_⟩
  walk_at "rd"
  refine ⟨(by show 3 ≤ sizeLine; decide), fun l2 hl2 => ?_⟩
  have s5 := same_new hl2 (.lst [.int 1, .int 30, .int mo])
  have t5 : upd H1 l2 (.lst [.int 1, .int 30, .int mo]) l2 = some (.lst (([1, 30, mo] : List Int).map V.int)) := upd_same
  generalize upd H1 l2 (.lst [.int 1, .int 30, .int mo]) = H5 at s5 t5 ⊢
  walk_at "rd"
  obtain ⟨o, ho, o0⟩ : ∃ m, atI (([1, 30, mo] : List Int).map V.int) (c % 3) = some (V.int m) ∧ 1 ≤ m := by
    rcases (by omega : c % 3 = 0 ∨ c % 3 = 1 ∨ c % 3 = 2) with e | e | e <;> rw [e]
    · exact ⟨1, rfl, by decide⟩
    · exact ⟨30, rfl, by decide⟩
    · exact ⟨mo, rfl, by omega⟩
  refine rd_ixL (SqL.of t5) ho ?_
  walk_at "rd"
  have w0 := Int.emod_nonneg (c / 3) (show o ≠ 0 by omega)
  refine ⟨_, _, rfl, ?_⟩
  generalize hb : (if falls ts + 1 + c / 3 % o < mo then falls ts + 1 + c / 3 % o else mo) = b
  obtain ⟨f1, f2⟩ : falls ts < b ∧ b ≤ mo := by
    rw [← hb]
    split <;> omega
  exact q b _ (s1.trans s5) f1 f2
theorem sc_law_moon : FnScope ["_law_script", "_law_start", "_law_terms_here", "_law_days", "_law_text", "_law_many"] ["_law_script", "_law_start"] (defScope s_law_moon) := ⟨rfl, rfl, rfl, by decide +kernel, rfl, by decide +kernel, by decide +kernel⟩
theorem ok_law_moon {f : Addr} {fd : FuncData} (F : Fun K "_law_moon" "_law_moon" s_law_moon f fd) (er : Errs K mg c_FeastError c_NoNumber c_NoMeasure c_NoDate c_NoText c_Measure c_Calendar c_Sun c_Moon) (c__law_terms : Cal P w K mg base 3 "_law_terms" ["_law_cell"] (spTermsL K)) (c__law_cell_at : Cal P w K mg base 1 "_law_cell_at" ["_law_script", "_law_k"] (spCell K)) (c__law_base : Cal P w K mg base 2 "_law_base" ["_law_cell", "_law_terms_here", "_law_most"] (spBaseB K)) (c__law_terms_text : Cal P w K mg base 2 "_law_terms_text" ["_law_terms_here"] (spTermsTextL K)) (c_Measure___init__ : CalI P w K mg base CX0 5 "Measure" c_Measure ["self", "base", "terms"] (spInitM K c_Measure)) (c_Moon___init__ : CalI P w K mg base CX0 3 "Moon" c_Moon ["self", "start", "days", "many"] (spInitMo K c_Moon c_Measure)) (z_str : mg "str" = none) : FnOk P w K mg base CX0 7 f fd ["_law_script", "_law_start"] (spMade72 K c_Sun c_Moon c_Measure false) := by
  refine F.ok (k := 6) sc_law_moon (fun vs H Q E h => ?_) (fun cdv A outer s H vs Q E hr h => ?_)
  · obtain ⟨a, ns, st, rfl, _⟩ := h
    rfl
  obtain ⟨a, ns, st, rfl, hS, h63, bst, smst, q⟩ := h
  have eM : Str.ofString "moon " = txt [109, 111, 111, 110, 32] := by decide +kernel
  have eB : Str.ofString " " = txt [32] := by decide +kernel
  have eSl : Str.ofString " / " = txt [32, 47, 32] := by decide +kernel
  have nl := num_len smst
  refine ⟨_, (pss_cons (ps_set (i := 2) sc_law_moon.nd rfl (by first | exact Or.inl rfl | exact Or.inr rfl) (pe_cal c__law_terms (hr.mono (by decide)) rfl (pa_cons (pe_cal c__law_cell_at (hr.mono (by decide)) rfl (pa_cons (pv 0) (pa_cons pe_int pa_nil))) pa_nil)))
      (pss_cons (ps_set (i := 3) sc_law_moon.nd rfl (by first | exact Or.inl rfl | exact Or.inr rfl) (pe_cal c__law_base (hr.mono (by decide)) rfl (pa_cons (pe_cal c__law_cell_at (hr.mono (by decide)) rfl (pa_cons (pv 0) (pa_cons pe_int pa_nil))) (pa_cons (pv 2) (pa_cons pe_int pa_nil)))))
      (pss_cons (ps_set (i := 4) sc_law_moon.nd rfl (by first | exact Or.inl rfl | exact Or.inr rfl) (pe_op op_add_str (pe_op op_add_str (pe_op op_add_str (pe_op op_add_str pe_str (pe_callTy call_str_int rfl z_str PyProof.Rows.boot_str (pa_cons (pv 1) pa_nil))) pe_str) (pe_callTy call_str_int rfl z_str PyProof.Rows.boot_str (pa_cons (pv 3) pa_nil))) (pe_cal c__law_terms_text (hr.mono (by decide)) rfl (pa_cons (pv 2) pa_nil))))
      (pss_cons (ps_set (i := 3) sc_law_moon.nd rfl (by first | exact Or.inl rfl | exact Or.inr rfl) (pe_mk c_Measure___init__ (hr.mono (by decide)) rfl (pa_cons (pv 3) (pa_cons (pv 2) pa_nil))))
      (pss_cons (ps_set (i := 2) sc_law_moon.nd rfl (by first | exact Or.inl rfl | exact Or.inr rfl) (pe_cal c__law_terms (hr.mono (by decide)) rfl (pa_cons (pe_cal c__law_cell_at (hr.mono (by decide)) rfl (pa_cons (pv 0) (pa_cons pe_int pa_nil))) pa_nil)))
      (pss_cons (ps_set (i := 5) sc_law_moon.nd rfl (by first | exact Or.inl rfl | exact Or.inr rfl) (pe_cal c__law_base (hr.mono (by decide)) rfl (pa_cons (pe_cal c__law_cell_at (hr.mono (by decide)) rfl (pa_cons (pv 0) (pa_cons pe_int pa_nil))) (pa_cons (pv 2) (pa_cons pe_int pa_nil)))))
      (pss_cons (ps_set (i := 4) sc_law_moon.nd rfl (by first | exact Or.inl rfl | exact Or.inr rfl) (pe_op op_add_str (pe_op op_add_str (pe_op op_add_str (pv 4) pe_str) (pe_callTy call_str_int rfl z_str PyProof.Rows.boot_str (pa_cons (pv 5) pa_nil))) (pe_cal c__law_terms_text (hr.mono (by decide)) rfl (pa_cons (pv 2) pa_nil))))
      (pss_one (ps_ret (pe_tup (pa_cons (pe_mk c_Moon___init__ (hr.mono (by decide)) rfl (pa_cons (pv 1) (pa_cons (pv 3) (pa_cons (pe_mk c_Measure___init__ (hr.mono (by decide)) rfl (pa_cons (pv 5) (pa_cons (pv 2) pa_nil))) pa_nil)))) (pa_cons (pv 4) pa_nil)))))))))))), ?_⟩
  walk_at "rdc"
  refine ⟨_, rfl, fun ld ud td H1 s1 D1 => ?_⟩
  have hS1 := s1.seq hS
  walk_at "rdc"
  refine ⟨_, _, ld, ud, td, rfl, D1, by decide, by decide, fun bd H2 s2 fd gd => ?_⟩
  have hS2 := s2.seq hS1
  have D2 := D1.same s2
  have n1 := falls_nn (ts := td)
  have sbd : Sm bd := sm_of (by omega) (by omega)
  have nb := num_len sbd
  walk_at "rdc"
  refine ⟨st, rfl, sm_log smst, ?_⟩
  rw [eM, eStr]
  walk_at "rdc"
  refine ⟨_, _, rfl, rfl, (by rw [txt_len, txt_len, sizeLine_eq]; show 5 + _ ≤ _; omega), ?_⟩
  rw [cpl_addT]
  walk_at "rdc"
  refine ⟨_, _, rfl, rfl, (by rw [eB, txt_len, txt_len, List.length_append, sizeLine_eq]; show 5 + _ + 1 ≤ _; omega), ?_⟩
  rw [eB, cpl_addT]
  walk_at "rdc"
  refine ⟨bd, rfl, sm_log sbd, ?_⟩
  rw [eStr]
  refine ⟨_, _, rfl, rfl, (by rw [txt_len, txt_len, List.length_append, List.length_append, sizeLine_eq]; show 5 + _ + 1 + _ ≤ _; omega), ?_⟩
  rw [cpl_addT]
  walk_at "rdc"
  refine ⟨ld, ud, td, rfl, D2, fun H3 s3 => ?_⟩
  have hS3 := s3.seq hS2
  have D3 := D2.same s3
  have f1 := flatT_len D1.ok D1.few
  refine ⟨_, _, rfl, rfl, (by rw [txt_len, txt_len, List.length_append, List.length_append, List.length_append, sizeLine_eq]; show 5 + _ + 1 + _ + _ ≤ _; omega), ?_⟩
  rw [cpl_addT]
  generalize hT0 : [109, 111, 111, 110, 32] ++ numT st ++ [32] ++ numT bd ++ flatT td = T0
  have T0l : T0.length ≤ 1400 := by
    rw [← hT0, List.length_append, List.length_append, List.length_append, List.length_append]
    show 5 + (numT st).length + 1 + _ + _ ≤ 1400
    omega
  have Pd := D3.per
  walk_at "rdc"
  refine fun y1 dy hy hdy ne => init_me hy hdy ne D3.tm (.inr ⟨ld, rfl, D3.li⟩) D3.ok D3.few (good_m fd gd) (UP_pos D3.ok fd Pd.1) fun H4 s4 N4 => ⟨rfl, ?_⟩
  clear hy hdy ne
  have hS4 := s4.seq hS3
  walk_at "rdc"
  refine ⟨_, rfl, fun lm um tm H5 s5 M5 => ?_⟩
  have hS5 := s5.seq hS4
  walk_at "rdc"
  refine ⟨_, _, lm, um, tm, rfl, M5, by decide, by decide, fun bm H6 s6 fm gm => ?_⟩
  have M6 := M5.same s6
  have n2 := falls_nn (ts := tm)
  have sbm : Sm bm := sm_of (by omega) (by omega)
  have nm := num_len sbm
  walk_at "rdc"
  refine ⟨_, _, rfl, rfl, (by rw [eSl, txt_len, txt_len, sizeLine_eq]; show T0.length + 3 ≤ _; omega), ?_⟩
  rw [eSl, cpl_addT]
  walk_at "rdc"
  refine ⟨bm, rfl, sm_log sbm, ?_⟩
  rw [eStr]
  refine ⟨_, _, rfl, rfl, (by rw [txt_len, txt_len, List.length_append, sizeLine_eq]; show T0.length + 3 + _ ≤ _; omega), ?_⟩
  rw [cpl_addT]
  walk_at "rdc"
  refine ⟨lm, um, tm, rfl, M6, fun H7 s7 => ?_⟩
  have M7 := M6.same s7
  have f2 := flatT_len M5.ok M5.few
  refine ⟨_, _, rfl, rfl, (by rw [txt_len, txt_len, List.length_append, List.length_append, sizeLine_eq]; show T0.length + 3 + _ + _ ≤ _; omega), ?_⟩
  rw [cpl_addT, ← hT0, ← calT_moon]
  have Pm := M7.per
  walk_at "rdc"
  refine fun y2 dy hy hdy ne => init_me hy hdy ne M7.tm (.inr ⟨lm, rfl, M7.li⟩) M7.ok M7.few (good_m fm (by omega)) (UP_pos M7.ok fm Pm.1) fun H8 s8 O8 => ⟨rfl, ?_⟩
  clear hy hdy ne
  have N8 := (((N4.same s5).same s6).same s7).same s8
  have g : GoodMo bd td bm tm := ⟨fd, gd, fm, gm, D1.ok, M5.ok, D1.few, M5.few⟩
  walk_at "rdc"
  refine fun x dx hx hdx ne => init_moon hx hdx ne N8 O8 g (bst.mono (by decide)) fun H9 s9 S9 => ⟨rfl, ?_⟩
  walk_at "rdc"
  refine ⟨two, fun r hr' => ?_⟩
  have s10 := same_new hr' (.tup [.ref x, .str (txt (calT (.moon st bd td bm tm)))])
  exact q r x (.moon st bd td bm tm) _ ((((s1.trans s2).trans (s3.trans s4)).trans ((s5.trans s6).trans (s7.trans s8))).trans (s9.trans s10)) upd_same (S9.same s10) rfl rfl
theorem sc_law_alike : FnScope ["_law_one", "_law_other", "_law_day", "_law_date"] ["_law_one", "_law_other", "_law_day"] (defScope s_law_alike) := ⟨rfl, rfl, rfl, by decide +kernel, rfl, by decide +kernel, by decide +kernel⟩
theorem ok_law_alike {f : Addr} {fd : FuncData} (F : Fun K "_law_alike" "_law_alike" s_law_alike f fd) (er : Errs K mg c_FeastError c_NoNumber c_NoMeasure c_NoDate c_NoText c_Measure c_Calendar c_Sun c_Moon) (c_Sun_date_of : CalM P w K mg base CX0 5 c_Sun "date_of" ["self", "day"] (spDate K c_Sun c_Moon c_Measure true)) (c_Moon_date_of : CalM P w K mg base CX0 5 c_Moon "date_of" ["self", "day"] (spDate K c_Sun c_Moon c_Measure false)) (c_Sun_day_of : CalM P w K mg base CX0 4 c_Sun "day_of" ["self", "date"] (spDay K c_Sun c_Moon c_Measure true)) (c_Moon_day_of : CalM P w K mg base CX0 4 c_Moon "day_of" ["self", "date"] (spDay K c_Sun c_Moon c_Measure false)) (c_Sun_year_start : CalM P w K mg base CX0 3 c_Sun "year_start" ["self", "year"] (spYS K c_Sun c_Measure)) (c_Moon_year_start : CalM P w K mg base CX0 3 c_Moon "year_start" ["self", "year"] (spMYS K c_Moon c_Measure)) (c_Sun_cycle : CalM P w K mg base CX0 3 c_Sun "cycle" ["self"] (spCyc K c_Sun c_Measure)) (c_Moon_cycle : CalM P w K mg base CX0 3 c_Moon "cycle" ["self"] (spMCyc K c_Moon c_Measure)) (c_Sun_lengths : CalM P w K mg base CX0 3 c_Sun "lengths" ["self", "year"] (spLens K c_Sun c_Measure)) (c_Moon_lengths : CalM P w K mg base CX0 3 c_Moon "lengths" ["self", "year"] (spMLens K c_Moon c_Measure)) : FnOk P w K mg base CX0 6 f fd ["_law_one", "_law_other", "_law_day"] (spAlike72 K c_Sun c_Moon c_Measure) := by
  refine F.ok (k := 5) sc_law_alike (fun vs H Q E h => ?_) (fun cdv A outer s H vs Q E hr h => ?_)
  · obtain ⟨x, y, n, d, e, rfl, _⟩ := h
    rfl
  obtain ⟨x, y, n, d, e, rfl, D, F', K', bn, q⟩ := h
  have gd := CalO.good D
  have ge := CalO.good F'
  refine ⟨_, (pss_cons (ps_set (i := 3) sc_law_alike.nd rfl (by first | exact Or.inl rfl | exact Or.inr rfl) (pe_mcalL (k := 5) (CalL.cons er.cl_Sun c_Sun_date_of (by decide) (CalL.cons er.cl_Moon c_Moon_date_of (by decide) CalL.nil)) (hr.mono (by decide)) (pv 0) (pa_cons (pv 2) pa_nil)))
      (pss_cons (ps_if (PW.pt (pw_or (pt_cmpR (op_neT hr.units0) (pe_mcalL (k := 5) (CalL.cons er.cl_Sun c_Sun_date_of (by decide) (CalL.cons er.cl_Moon c_Moon_date_of (by decide) CalL.nil)) (hr.mono (by decide)) (pv 1) (pa_cons (pv 2) pa_nil)) (pv 3) (nomark _)) (pw_or1 (pt_cmpR op_ne (pe_mcalL (k := 4) (CalL.cons er.cl_Sun c_Sun_day_of (by decide) (CalL.cons er.cl_Moon c_Moon_day_of (by decide) CalL.nil)) (hr.mono (by decide)) (pv 1) (pa_cons (pv 3) pa_nil)) (pv 2) (nomark _)))))
        (pss_one (ps_ret pe_bl))
        pss_nil)
      (pss_cons (ps_if (PW.pt (pw_or (pt_cmpR op_ne (pe_mcalL (k := 3) (CalL.cons er.cl_Sun c_Sun_year_start (by decide) (CalL.cons er.cl_Moon c_Moon_year_start (by decide) CalL.nil)) (hr.mono (by decide)) (pv 0) (pa_cons pe_int pa_nil)) (pe_mcalL (k := 3) (CalL.cons er.cl_Sun c_Sun_year_start (by decide) (CalL.cons er.cl_Moon c_Moon_year_start (by decide) CalL.nil)) (hr.mono (by decide)) (pv 1) (pa_cons pe_int pa_nil)) (nomark _)) (pw_or1 (pt_cmpR (op_neT hr.units0) (pe_mcalL0 (k := 3) (CalL.cons er.cl_Sun c_Sun_cycle (by decide) (CalL.cons er.cl_Moon c_Moon_cycle (by decide) CalL.nil)) (hr.mono (by decide)) (pv 0)) (pe_mcalL0 (k := 3) (CalL.cons er.cl_Sun c_Sun_cycle (by decide) (CalL.cons er.cl_Moon c_Moon_cycle (by decide) CalL.nil)) (hr.mono (by decide)) (pv 1)) (nomark _)))))
        (pss_one (ps_ret pe_bl))
        pss_nil)
      (pss_one (ps_ret (pe_cmpR (op_eqL hr.units) (pe_mcalL (k := 3) (CalL.cons er.cl_Sun c_Sun_lengths (by decide) (CalL.cons er.cl_Moon c_Moon_lengths (by decide) CalL.nil)) (hr.mono (by decide)) (pv 0) (pa_cons (pe_ix ix_tup (pv 3) pe_int (fun _ _ => rfl)) pa_nil)) (pe_mcalL (k := 3) (CalL.cons er.cl_Sun c_Sun_lengths (by decide) (CalL.cons er.cl_Moon c_Moon_lengths (by decide) CalL.nil)) (hr.mono (by decide)) (pv 1) (pa_cons (pe_ix ix_tup (pv 3) pe_int (fun _ _ => rfl)) pa_nil)) (nomark _))))))), ?_⟩
  walk_at "rdc"
  obtain ⟨C, dx, fs, sp, mem, ex, lk, use⟩ := D.dt
  refine ⟨x, C, dx, fs, sp, mem, rfl, ex, lk, ?_⟩
  walk_at "rdc"
  refine use D bn fun p1 y1 m1 r1 H1 s1 t1 i1 e1 b1 => ?_
  clear C dx fs sp mem ex lk use
  have D1 := CalO.same D s1
  have F1 := CalO.same F' s1
  walk_at "rdc"
  obtain ⟨C, dx, fs, sp, mem, ex, lk, use⟩ := F1.dt
  refine ⟨y, C, dx, fs, sp, mem, rfl, ex, lk, ?_⟩
  walk_at "rdc"
  refine use F1 bn fun p2 y2 m2 r2 H2 s2 t2 i2 e2 b2 => ?_
  clear C dx fs sp mem ex lk use
  have D2 := CalO.same D1 s2
  have F2 := CalO.same F1 s2
  have t12 := s2 _ _ t1
  have i1' := K'.isD i1
  have e1' : DayOf e y1 m1 r1 = n := by rw [← K'.day]; exact e1
  obtain ⟨z1, z2, z3⟩ := i2.uniq ge i1' (by rw [e2, e1'])
  walk_at "rdc"
  refine rd_neT (SqT.of t2) (SqT.of t12) rfl rfl ?_
  rw [eq3 z1 z2 z3]
  walk_at "rdc"
  refine iteF ?_
  walk_at "rdc"
  obtain ⟨C, dx, fs, sp, mem, ex, lk, use⟩ := F2.dy
  refine ⟨y, C, dx, fs, sp, mem, rfl, ex, lk, ?_⟩
  walk_at "rdc"
  refine use F2 (SqT.of t12) i1' (b1.mono (by decide)) fun H3 s3 => ?_
  clear C dx fs sp mem ex lk use
  have D3 := CalO.same D2 s3
  have F3 := CalO.same F2 s3
  have t13 := s3 _ _ t12
  rw [e1']
  walk_at "rdc"
  refine iteNS rfl ?_
  walk_at "rdc"
  obtain ⟨C, dx, fs, sp, mem, ex, lk, use⟩ := D3.ys
  refine ⟨x, C, dx, fs, sp, mem, rfl, ex, lk, ?_⟩
  walk_at "rdc"
  refine use D3 (bt_small (by decide) (by decide) (by decide)) fun H4 s4 => ?_
  clear C dx fs sp mem ex lk use
  have D4 := CalO.same D3 s4
  have F4 := CalO.same F3 s4
  walk_at "rdc"
  obtain ⟨C, dx, fs, sp, mem, ex, lk, use⟩ := F4.ys
  refine ⟨y, C, dx, fs, sp, mem, rfl, ex, lk, ?_⟩
  walk_at "rdc"
  refine use F4 (bt_small (by decide) (by decide) (by decide)) fun H5 s5 => ?_
  clear C dx fs sp mem ex lk use
  have D5 := CalO.same D4 s5
  have F5 := CalO.same F4 s5
  rw [K'.Y]
  walk_at "rdc"
  refine iteNS rfl ?_
  walk_at "rdc"
  obtain ⟨C, dx, fs, sp, mem, ex, lk, use⟩ := D5.cyc
  refine ⟨x, C, dx, fs, sp, mem, rfl, ex, lk, ?_⟩
  refine use D5 fun p6 H6 s6 t6 => ?_
  clear C dx fs sp mem ex lk use
  have D6 := CalO.same D5 s6
  have F6 := CalO.same F5 s6
  walk_at "rdc"
  obtain ⟨C, dx, fs, sp, mem, ex, lk, use⟩ := F6.cyc
  refine ⟨y, C, dx, fs, sp, mem, rfl, ex, lk, ?_⟩
  refine use F6 fun p7 H7 s7 t7 => ?_
  clear C dx fs sp mem ex lk use
  have D7 := CalO.same D6 s7
  have F7 := CalO.same F6 s7
  rw [← K'.cy] at t7
  refine rd_neT (SqT.of (s7 _ _ t6)) (SqT.of t7) rfl rfl ?_
  have e2v : eqVs [V.int d.cy.1, V.int d.cy.2] [V.int d.cy.1, V.int d.cy.2] = true := by
    show ((d.cy.1 == d.cy.1) && ((d.cy.2 == d.cy.2) && true)) = true
    simp
  rw [e2v]
  walk_at "rdc"
  refine iteF ?_
  have t17 := s7 _ _ (s6 _ _ (s5 _ _ (s4 _ _ t13)))
  walk_at "rdc"
  obtain ⟨C, dx, fs, sp, mem, ex, lk, use⟩ := D7.le
  refine ⟨x, C, dx, fs, sp, mem, rfl, ex, lk, ?_⟩
  walk_at "rdc"
  refine rd_ixT (SqT.of t17) rfl ?_
  walk_at "rdc"
  refine use D7 (b1.mono (by decide)) fun l8 H8 hl8 s8 t8 => ?_
  clear C dx fs sp mem ex lk use
  have F8 := CalO.same F7 s8
  walk_at "rdc"
  obtain ⟨C, dx, fs, sp, mem, ex, lk, use⟩ := F8.le
  refine ⟨y, C, dx, fs, sp, mem, rfl, ex, lk, ?_⟩
  walk_at "rdc"
  refine rd_ixT (SqT.of (s8 _ _ t17)) rfl ?_
  walk_at "rdc"
  refine use F8 (b1.mono (by decide)) fun l9 H9 hl9 s9 t9 => ?_
  clear C dx fs sp mem ex lk use
  refine rd_eqL (SqL.of (s9 _ _ t8)) (SqL.of t9) ?_
  rw [decide_eq_true (K'.L y1)]
  exact q _ ((((s1.trans s2).trans (s3.trans s4)).trans ((s5.trans s6).trans s7)).trans (s8.trans s9))
theorem sc_law : FnScope ["_law_script", "_law_start", "_law_sunny", "_law_day", "_law_told", "_law_calendar", "_law_text", "_law_shown"] ["_law_script"] (defScope s_law) := ⟨rfl, rfl, rfl, by decide +kernel, rfl, by decide +kernel, by decide +kernel⟩
theorem ok_law {f : Addr} {fd : FuncData} (F : Fun K "law" "law" s_law f fd) (er : Errs K mg c_FeastError c_NoNumber c_NoMeasure c_NoDate c_NoText c_Measure c_Calendar c_Sun c_Moon) (c__law_number : Cal P w K mg base 1 "_law_number" ["_law_cell"] spNumB) (c__law_cell_at : Cal P w K mg base 1 "_law_cell_at" ["_law_script", "_law_k"] (spCell K)) (c__law_sun : Cal P w K mg base 9 "_law_sun" ["_law_script", "_law_start"] (spMade72 K c_Sun c_Moon c_Measure true)) (c__law_moon : Cal P w K mg base 7 "_law_moon" ["_law_script", "_law_start"] (spMade72 K c_Sun c_Moon c_Measure false)) (c_read_calendar : Cal P w K mg base 10 "read_calendar" ["text"] (spReadC K c_Sun c_Moon c_Measure)) (c_Sun_shown : CalM P w K mg base CX0 3 c_Sun "shown" ["self"] (spShowS K c_Sun c_Measure)) (c_Moon_shown : CalM P w K mg base CX0 3 c_Moon "shown" ["self"] (spShowM K c_Moon c_Measure)) (c__law_alike : Cal P w K mg base 6 "_law_alike" ["_law_one", "_law_other", "_law_day"] (spAlike72 K c_Sun c_Moon c_Measure)) (z_isinstance : mg "isinstance" = none) (z_str : mg "str" = none) : FnOk P w K mg base CX0 11 f fd ["_law_script"] (spLaw K) := by
  refine F.ok (k := 10) sc_law (fun vs H Q E h => ?_) (fun cdv A outer s H vs Q E hr h => ?_)
  · obtain ⟨a, ns, rfl, _⟩ := h
    rfl
  obtain ⟨a, ns, rfl, hS, h63, hB, q⟩ := h
  refine ⟨_, (pss_cons (ps_set (i := 1) sc_law.nd rfl (by first | exact Or.inl rfl | exact Or.inr rfl) (pe_cal c__law_number (hr.mono (by decide)) rfl (pa_cons (pe_cal c__law_cell_at (hr.mono (by decide)) rfl (pa_cons (pv 0) (pa_cons pe_int pa_nil))) pa_nil)))
      (pss_cons (ps_set (i := 2) sc_law.nd rfl (by first | exact Or.inl rfl | exact Or.inr rfl) (pe_cmpR op_eq (pe_op op_mod (pe_cal c__law_cell_at (hr.mono (by decide)) rfl (pa_cons (pv 0) (pa_cons pe_int pa_nil))) pe_int) pe_int (nomark _)))
      (pss_cons (ps_cut (ps_if (pt_val (pv 2))
        (pss_one (ps_asg (pe_cal c__law_sun (hr.mono (by decide)) rfl (pa_cons (pv 0) (pa_cons (pv 1) pa_nil))) (pg_tup rfl (pgs_cons (pg_name (i := 5) sc_law.nd rfl (by first | exact Or.inl rfl | exact Or.inr rfl)) (pgs_cons (pg_name (i := 6) sc_law.nd rfl (by first | exact Or.inl rfl | exact Or.inr rfl)) pgs_nil)))))
        (pss_one (ps_asg (pe_cal c__law_moon (hr.mono (by decide)) rfl (pa_cons (pv 0) (pa_cons (pv 1) pa_nil))) (pg_tup rfl (pgs_cons (pg_name (i := 5) sc_law.nd rfl (by first | exact Or.inl rfl | exact Or.inr rfl)) (pgs_cons (pg_name (i := 6) sc_law.nd rfl (by first | exact Or.inl rfl | exact Or.inr rfl)) pgs_nil)))))))
      (pss_cons (ps_set (i := 3) sc_law.nd rfl (by first | exact Or.inl rfl | exact Or.inr rfl) (pe_cal c__law_number (hr.mono (by decide)) rfl (pa_cons (pe_cal c__law_cell_at (hr.mono (by decide)) rfl (pa_cons (pv 0) (pa_cons pe_int pa_nil))) pa_nil)))
      (pss_cons (ps_for PassesOwn.never rfl (pi_list (pe_lst (pa_cons (pv 5) (pa_cons (pe_cal c_read_calendar (hr.mono (by decide)) rfl (pa_cons (pv 6) pa_nil)) (pa_cons (pe_cal c_read_calendar (hr.mono (by decide)) rfl (pa_cons (pe_mcalL0 (k := 3) (CalL.cons er.cl_Sun c_Sun_shown (by decide) (CalL.cons er.cl_Moon c_Moon_shown (by decide) CalL.nil)) (hr.mono (by decide)) (pe_cal c_read_calendar (hr.mono (by decide)) rfl (pa_cons (pv 6) pa_nil))) pa_nil)) pa_nil))))) (pg_name (i := 4) sc_law.nd rfl (by first | exact Or.inl rfl | exact Or.inr rfl))
        (pss_cons (ps_if (PW.pt (pw_or (pt_not (pt_val (pe_callB call_isiO rfl z_isinstance PyProof.Rows.boot_isinstance (pa_cons (pv 4) (pa_cons (pe_glob rfl er.m_Calendar (rel_ref _)) pa_nil))))) (pw_or (pt_cmpR op_ne (pe_callB call_isiO rfl z_isinstance PyProof.Rows.boot_isinstance (pa_cons (pv 4) (pa_cons (pe_glob rfl er.m_Sun (rel_ref _)) pa_nil))) (pv 2) (nomark _)) (pw_or1 (pt_cmpR op_eq (pe_callB call_isiO rfl z_isinstance PyProof.Rows.boot_isinstance (pa_cons (pv 4) (pa_cons (pe_glob rfl er.m_Moon (rel_ref _)) pa_nil))) (pv 2) (nomark _))))))
        (pss_one (ps_ret pe_bl))
        pss_nil)
      (pss_cons (ps_set (i := 7) sc_law.nd rfl (by first | exact Or.inl rfl | exact Or.inr rfl) (pe_mcalL0 (k := 3) (CalL.cons er.cl_Sun c_Sun_shown (by decide) (CalL.cons er.cl_Moon c_Moon_shown (by decide) CalL.nil)) (hr.mono (by decide)) (pv 4)))
      (pss_one (ps_if (PW.pt (pw_or (pt_not (pt_val (pe_callB call_isi rfl z_isinstance PyProof.Rows.boot_isinstance (pa_cons (pv 7) (pa_cons (pe_bltn rfl z_str PyProof.Rows.boot_str (rel_ty _)) pa_nil))))) (pw_or (pt_cmpR op_ne (pv 7) (pv 6) (nomark _)) (pw_or1 (pt_not (pt_val (pe_cal c__law_alike (hr.mono (by decide)) rfl (pa_cons (pv 5) (pa_cons (pv 4) (pa_cons (pv 3) pa_nil))))))))))
        (pss_one (ps_ret pe_bl))
        pss_nil)))))
      (pss_one (ps_ret pe_bl))))))), ?_⟩
  walk_at "rdc"
  refine ⟨_, rfl, fun st H0 s0 st0 st1 => ?_⟩
  have bst : Bt 200 st := bt_of (by omega) (by omega)
  have smst : Sm st := sm_of (by omega) (by omega)
  have hS0 := s0.seq hS
  walk_at "rdc"
  generalize decide (V.int (ns.getD (Int.toNat 0) 0 % 2) = V.int 0) = sunny
  refine rd_cut (fun σ' H' => Same H H' ∧ ∃ (x : Addr) (d : CalD), σ' = [some (.ref a), some (.int st), some (.bl sunny), none, none, some (.ref x), some (.str (txt (calT d))), none] ∧ CalO K c_Sun c_Moon c_Measure H' x d ∧ isSun d = sunny ∧ d.st = st) ?_ ?_
  · walk_at "rdc"
    cases sunny with
    | true =>
      refine iteT ?_
      walk_at "rdc"
      refine ⟨a, ns, st, rfl, hS0, h63, bst, smst, fun p x d H1 s1 hp S e1 e2 => ?_⟩
      refine rd_gtup (SqT.of hp) rfl ?_
      walk_at "rdc"
      exact ⟨s0.trans s1, x, d, rfl, S, e1, e2⟩
    | false =>
      refine iteF ?_
      walk_at "rdc"
      refine ⟨a, ns, st, rfl, hS0, h63, bst, smst, fun p x d H1 s1 hp S e1 e2 => ?_⟩
      refine rd_gtup (SqT.of hp) rfl ?_
      walk_at "rdc"
      exact ⟨s0.trans s1, x, d, rfl, S, e1, e2⟩
  rintro σ' H1 ⟨s1, x, d, rfl, S1, es, est⟩
  subst est
  have g := CalO.good S1
  have hS1 := s1.seq hS
  walk_at "rdc"
  refine ⟨_, rfl, fun n H2 s2 n0 n1 => ?_⟩
  have bn : Bt 200 n := bt_of (by omega) (by omega)
  have S2 := CalO.same S1 s2
  walk_at "rdc"
  refine rd_for (rd_iL ?_)
  walk_at "rdc"
  refine ⟨d, rfl, g, smst, bst.mono (by decide), fun x1 H3 s3 S3 => ?_⟩
  have sm' : Sm (nrm d).st := by rw [st_nrm]; exact smst
  walk_at "rdc"
  refine ⟨d, rfl, g, smst, bst.mono (by decide), fun x2 H4 s4 S4 => ?_⟩
  walk_at "rdc"
  obtain ⟨C, dx, fs, sp, mem, ex, lk, use⟩ := CalO.show S4 sm'
  refine ⟨x2, C, dx, fs, sp, mem, rfl, ex, lk, ?_⟩
  refine use S4 fun H5 s5 => ?_
  clear C dx fs sp mem ex lk use
  rw [calT_nrm]
  refine rd_nil ?_
  refine ⟨d, rfl, g, smst, bst.mono (by decide), fun x3 H6 s6 S6 => ?_⟩
  walk_at "rdc"
  refine ⟨three, fun l hl => ?_⟩
  have s7 := same_new hl (.lst [V.ref x, V.ref x1, V.ref x3])
  have t7 : upd H6 l (.lst [V.ref x, V.ref x1, V.ref x3]) l = some (.lst [V.ref x, V.ref x1, V.ref x3]) := upd_same
  generalize upd H6 l (.lst [V.ref x, V.ref x1, V.ref x3]) = H7 at s7 t7 ⊢
  have s27 := s3.trans (s4.trans (s5.trans (s6.trans s7)))
  have S7 := CalO.same S2 s27
  have K' := nrm_like g
  have tw : ∀ {y : Addr} {H' : Hp}, CalO K c_Sun c_Moon c_Measure H' y (nrm d) → Twin K c_Sun c_Moon c_Measure H' y d := fun h => ⟨nrm d, h, K', calT_nrm d, isSun_nrm d, sm'⟩
  have W1 : Twin K c_Sun c_Moon c_Measure H7 x1 d := (tw S3).same (s4.trans (s5.trans (s6.trans s7)))
  have W3 : Twin K c_Sun c_Moon c_Measure H7 x3 d := (tw S6).same s7
  have W0 : Twin K c_Sun c_Moon c_Measure H7 x d := ⟨d, S7, Like.refl d, rfl, rfl, smst⟩
  refine ⟨l, rfl, ⟨_, SqL.of t7⟩, for_list (xs := [V.ref x, V.ref x1, V.ref x3]) (fun k σ' H' => Same H7 H' ∧ ∃ v w' : Option V, σ' = [some (.ref a), some (.int d.st), some (.bl sunny), some (.int n), v, some (.ref x), some (.str (txt (calT d))), w']) ⟨Same.refl _, none, none, rfl⟩ ?_ ?_ ?_⟩
  · rintro k σ' H' _ ⟨sH, _⟩
    exact SqL.of (sH _ _ t7)
  · rintro k v0 σ' H' hv ⟨sH, v, w', rfl⟩
    obtain ⟨y, rfl, W⟩ : ∃ y, v0 = .ref y ∧ Twin K c_Sun c_Moon c_Measure H7 y d := by
      rcases List.mem_cons.mp (List.mem_of_getElem? hv) with e | e
      · exact ⟨x, e, W0⟩
      rcases List.mem_cons.mp e with e | e
      · exact ⟨x1, e, W1⟩
      · exact ⟨x3, List.mem_singleton.mp e, W3⟩
    obtain ⟨e, Se, Ke, te, ie, me⟩ := (W.same sH).ex
    have S8 := CalO.same S7 sH
    walk_at "rdc"
    obtain ⟨cc, ty, i1, i2, i3⟩ : ∃ t : Value, TyOf K H' (.ref y) t ∧ PySem.W.kitOne K t (.ref c_Calendar) = some true ∧ PySem.W.kitOne K t (.ref c_Sun) = some (isSun e) ∧ PySem.W.kitOne K t (.ref c_Moon) = some (!isSun e) := by
      cases e with
      | sun s ls lp ts =>
        obtain ⟨dx, _, _, hx, _⟩ := SunO.ex Se
        exact ⟨_, .ins hx er.cl_Sun er.kc_Sun er.ksp er.ktk er.ko_Sun, er.is_Sun_Calendar, er.is_Sun_Sun, er.is_Sun_Moon⟩
      | moon s bd td bm tm =>
        obtain ⟨dx, _, _, hx, _⟩ := MoonO.ex Se
        exact ⟨_, .ins hx er.cl_Moon er.kc_Moon er.ksp er.ktk er.ko_Moon, er.is_Moon_Calendar, er.is_Moon_Sun, er.is_Moon_Moon⟩
    rw [ie, es] at i2 i3
    refine rd_isiO ty i1 ?_
    walk_at "rdc"
    refine iteF ?_
    walk_at "rdc"
    refine rd_isiO ty i2 ?_
    walk_at "rdc"
    refine iteNS rfl ?_
    walk_at "rdc"
    refine rd_isiO ty i3 ?_
    walk_at "rdc"
    refine iteN (fun z => by cases sunny <;> cases z) ?_
    walk_at "rdc"
    obtain ⟨C, dx, fs, sp, mem, ex, lk, use⟩ := CalO.show Se me
    refine ⟨y, C, dx, fs, sp, mem, rfl, ex, lk, ?_⟩
    refine use Se fun H8 s8 => ?_
    clear C dx fs sp mem ex lk use
    rw [te]
    walk_at "rdc"
    refine rd_isi (.str _) (kit_ss K) ?_
    walk_at "rdc"
    refine iteF ?_
    walk_at "rdc"
    refine iteNS rfl ?_
    walk_at "rdc"
    refine ⟨x, y, n, d, e, rfl, CalO.same S8 s8, CalO.same Se s8, Ke, bn.mono (by decide), fun H9 s9 => ?_⟩
    walk_at "rdc"
    refine iteF ?_
    walk_at "rdc"
    exact ⟨sH.trans (s8.trans s9), _, _, rfl⟩
  · rintro σ' H' ⟨sH, v, w', rfl⟩
    walk_at "rdc"
    exact q _
end
theorem all_mk {l : PySem.W.OpenLaw} {w : World} {K : PySem.W.Frag} {h : Heap} {mg : Str → Option Value} {fa f0 f1 f2 f3 f4 f5 f6 f7 f8 f9 f10 f11 f12 f13 f14 f15 f16 f17 f18 f19 f20 f21 f22 f23 f24 f25 f26 f27 f28 f29 f30 f31 f32 f33 f34 f35 f36 f37 f38 f39 f40 f41 f42 f43 f44 f45 f46 f47 f48 f49 f50 f51 f52 f53 f54 f55 f56 : Addr} {c_FeastError c_NoNumber c_NoMeasure c_NoDate c_NoText c_Measure c_Calendar c_Sun c_Moon : Addr} (X : K.In h) (G : h.Ns mainGlobals mg) (hfa : mg "law" = some (.ref fa))
    {od0 an0 od1 an1 od2 an2 od3 an3 od4 an4 od5 an5 od6 an6 od7 an7 od8 an8 od9 an9 od10 an10 od11 an11 od12 an12 od13 an13 od14 an14 od15 an15 od16 an16 od17 an17 od18 an18 od19 an19 od20 an20 od21 an21 od22 an22 od23 an23 od24 an24 od25 an25 od26 an26 od27 an27 od28 an28 od29 an29 od30 an30 od31 an31 od32 an32 od33 an33 od34 an34 od35 an35 od36 an36 od37 an37 od38 an38 od39 an39 od40 an40 od41 an41 od42 an42 od43 an43 od44 an44 od45 an45 od46 an46 od47 an47 od48 an48 od49 an49 od50 an50 od51 an51 od52 an52 od53 an53 od54 an54 od55 an55 od56 an56 : Option Addr} {sl0 sl1 sl2 sl3 sl4 sl5 sl6 sl7 sl8 sl9 sl10 sl11 sl12 sl13 sl14 sl15 sl16 sl17 sl18 sl19 sl20 sl21 sl22 sl23 sl24 sl25 sl26 sl27 sl28 sl29 sl30 sl31 sl32 sl33 sl34 sl35 sl36 sl37 sl38 sl39 sl40 sl41 sl42 sl43 sl44 sl45 sl46 sl47 sl48 sl49 sl50 sl51 sl52 sl53 sl54 sl55 sl56 : Array (Option Value)} {oc0 kV0 dc0 pm0 cd0 ct0 oc1 kV1 dc1 pm1 cd1 ct1 oc2 kV2 dc2 pm2 cd2 ct2 oc3 kV3 dc3 pm3 cd3 ct3 oc4 kV4 dc4 pm4 cd4 ct4 oc5 kV5 dc5 pm5 cd5 ct5 oc6 kV6 dc6 pm6 cd6 ct6 oc7 kV7 dc7 pm7 cd7 ct7 oc8 kV8 dc8 pm8 cd8 ct8 oc9 kV9 dc9 pm9 cd9 ct9 oc10 kV10 dc10 pm10 cd10 ct10 oc11 kV11 dc11 pm11 cd11 ct11 oc12 kV12 dc12 pm12 cd12 ct12 oc13 kV13 dc13 pm13 cd13 ct13 oc14 kV14 dc14 pm14 cd14 ct14 oc15 kV15 dc15 pm15 cd15 ct15 oc16 kV16 dc16 pm16 cd16 ct16 oc17 kV17 dc17 pm17 cd17 ct17 oc18 kV18 dc18 pm18 cd18 ct18 oc19 kV19 dc19 pm19 cd19 ct19 oc20 kV20 dc20 pm20 cd20 ct20 oc21 kV21 dc21 pm21 cd21 ct21 oc22 kV22 dc22 pm22 cd22 ct22 oc23 kV23 dc23 pm23 cd23 ct23 oc24 kV24 dc24 pm24 cd24 ct24 oc25 kV25 dc25 pm25 cd25 ct25 oc26 kV26 dc26 pm26 cd26 ct26 oc27 kV27 dc27 pm27 cd27 ct27 oc28 kV28 dc28 pm28 cd28 ct28 oc29 kV29 dc29 pm29 cd29 ct29 oc30 kV30 dc30 pm30 cd30 ct30 oc31 kV31 dc31 pm31 cd31 ct31 oc32 kV32 dc32 pm32 cd32 ct32 oc33 kV33 dc33 pm33 cd33 ct33 oc34 kV34 dc34 pm34 cd34 ct34 oc35 kV35 dc35 pm35 cd35 ct35 oc36 kV36 dc36 pm36 cd36 ct36 oc37 kV37 dc37 pm37 cd37 ct37 oc38 kV38 dc38 pm38 cd38 ct38 oc39 kV39 dc39 pm39 cd39 ct39 oc40 kV40 dc40 pm40 cd40 ct40 oc41 kV41 dc41 pm41 cd41 ct41 oc42 kV42 dc42 pm42 cd42 ct42 oc43 kV43 dc43 pm43 cd43 ct43 oc44 kV44 dc44 pm44 cd44 ct44 oc45 kV45 dc45 pm45 cd45 ct45 oc46 kV46 dc46 pm46 cd46 ct46 oc47 kV47 dc47 pm47 cd47 ct47 oc48 kV48 dc48 pm48 cd48 ct48 oc49 kV49 dc49 pm49 cd49 ct49 oc50 kV50 dc50 pm50 cd50 ct50 oc51 kV51 dc51 pm51 cd51 ct51 oc52 kV52 dc52 pm52 cd52 ct52 oc53 kV53 dc53 pm53 cd53 ct53 oc54 kV54 dc54 pm54 cd54 ct54 oc55 kV55 dc55 pm55 cd55 ct55 oc56 kV56 dc56 pm56 cd56 ct56 : Value} {tk_GREATEST_N : Tok} {tk_GREATEST_BASE : Tok} {tk_MOST_TERMS : Tok} {tk_MOST_MONTHS : Tok} {tk_LONGEST_MONTH : Tok} {tk_MOST_FIGURES : Tok} {tk_FIGURES : Tok} {tk_MOST_SIGNS : Tok}
    {T11 : Addr} {to11 : Value} {td11 : Option Addr} {tn11 : Nat} {ts11 : Array (Option Value)}
    {T16 : Addr} {to16 : Value} {td16 : Option Addr} {tn16 : Nat} {ts16 : Array (Option Value)} {tkd_Sun___init___0 : Tok}
    (n_FeastError : PySem.W.nsIn K mainGlobals "FeastError" = some (some (.ref c_FeastError)))
    (n_NoNumber : PySem.W.nsIn K mainGlobals "NoNumber" = some (some (.ref c_NoNumber)))
    (n_NoMeasure : PySem.W.nsIn K mainGlobals "NoMeasure" = some (some (.ref c_NoMeasure)))
    (n_NoDate : PySem.W.nsIn K mainGlobals "NoDate" = some (some (.ref c_NoDate)))
    (n_NoText : PySem.W.nsIn K mainGlobals "NoText" = some (some (.ref c_NoText)))
    (n_Measure : PySem.W.nsIn K mainGlobals "Measure" = some (some (.ref c_Measure)))
    (pg_Measure : PySem.W.plainGet K c_Measure Str.empty = true)
    (k_Measure : PySem.W.hasDictIn K c_Measure = true)
    (po_Measure : PySem.W.plainOver K c_Measure = true)
    (sa_Measure : PySem.W.findIn K (.ref c_Measure) "__setattr__" = some (some (.builtin "object.__setattr__")))
    (mk_Measure : PySem.W.makesIn K c_Measure = true)
    (kp_Measure : PySem.W.keepIn K (.ref c_Measure) = true)
    (na_Measure_base : PySem.W.findIn K (.ref c_Measure) "base" = some none)
    (na_Measure_terms : PySem.W.findIn K (.ref c_Measure) "terms" = some none)
    (na_Measure_full_count : PySem.W.findIn K (.ref c_Measure) "full_count" = some none)
    (na_Measure_full_sum : PySem.W.findIn K (.ref c_Measure) "full_sum" = some none)
    (n_Sun : PySem.W.nsIn K mainGlobals "Sun" = some (some (.ref c_Sun)))
    (pg_Sun : PySem.W.plainGet K c_Sun Str.empty = true)
    (k_Sun : PySem.W.hasDictIn K c_Sun = true)
    (po_Sun : PySem.W.plainOver K c_Sun = true)
    (sa_Sun : PySem.W.findIn K (.ref c_Sun) "__setattr__" = some (some (.builtin "object.__setattr__")))
    (mk_Sun : PySem.W.makesIn K c_Sun = true)
    (kp_Sun : PySem.W.keepIn K (.ref c_Sun) = true)
    (na_Sun_start : PySem.W.findIn K (.ref c_Sun) "start" = some none)
    (na_Sun_months : PySem.W.findIn K (.ref c_Sun) "months" = some none)
    (na_Sun_leap : PySem.W.findIn K (.ref c_Sun) "leap" = some none)
    (na_Sun_years : PySem.W.findIn K (.ref c_Sun) "years" = some none)
    (n_Moon : PySem.W.nsIn K mainGlobals "Moon" = some (some (.ref c_Moon)))
    (pg_Moon : PySem.W.plainGet K c_Moon Str.empty = true)
    (k_Moon : PySem.W.hasDictIn K c_Moon = true)
    (po_Moon : PySem.W.plainOver K c_Moon = true)
    (sa_Moon : PySem.W.findIn K (.ref c_Moon) "__setattr__" = some (some (.builtin "object.__setattr__")))
    (mk_Moon : PySem.W.makesIn K c_Moon = true)
    (kp_Moon : PySem.W.keepIn K (.ref c_Moon) = true)
    (na_Moon_start : PySem.W.findIn K (.ref c_Moon) "start" = some none)
    (na_Moon_days : PySem.W.findIn K (.ref c_Moon) "days" = some none)
    (na_Moon_many : PySem.W.findIn K (.ref c_Moon) "many" = some none)
    (n_Calendar : PySem.W.nsIn K mainGlobals "Calendar" = some (some (.ref c_Calendar)))
    (ii_Sun_Calendar : PySem.W.kitOne K (.ref c_Sun) (.ref c_Calendar) = some true)
    (ca_Sun : PySem.W.findIn K (.ref c_Sun) "__class__" = some (some (.builtin "object.__class__")))
    (ob_Sun : PySem.W.mroIn K c_Sun (.type "object") = some true)
    (ii_Sun_Sun : PySem.W.kitOne K (.ref c_Sun) (.ref c_Sun) = some true)
    (ii_Sun_Moon : PySem.W.kitOne K (.ref c_Sun) (.ref c_Moon) = some false)
    (ii_Moon_Calendar : PySem.W.kitOne K (.ref c_Moon) (.ref c_Calendar) = some true)
    (ca_Moon : PySem.W.findIn K (.ref c_Moon) "__class__" = some (some (.builtin "object.__class__")))
    (ob_Moon : PySem.W.mroIn K c_Moon (.type "object") = some true)
    (ii_Moon_Sun : PySem.W.kitOne K (.ref c_Moon) (.ref c_Sun) = some false)
    (ii_Moon_Moon : PySem.W.kitOne K (.ref c_Moon) (.ref c_Moon) = some true)
    (xsp : PySem.W.specialIn K (.builtin "object.__class__") "__get__" = some (some (.builtin "getset_descriptor.__get__")))
    (xtk : PySem.W.takesIn K (.builtin "object.__class__") = some true)
    (a0 : PySem.W.nsIn K mainGlobals "refuse_below_one" = some (some (.ref f0))) (l0 : K.lookup f0 = some ⟨oc0, od0, .func (PySem.W.fnOf "refuse_below_one" "refuse_below_one" (defArgs s_refuse_below_one) (defBody s_refuse_below_one) (defScope s_refuse_below_one) .none kV0 dc0 pm0 an0 cd0 ct0), sl0⟩) (c0 : PySem.W.codeIn K cd0 "refuse_below_one" = true) (k0 : PySem.W.keepIn K (.ref f0) = true)
    (a1 : PySem.W.nsIn K mainGlobals "equation" = some (some (.ref f1))) (l1 : K.lookup f1 = some ⟨oc1, od1, .func (PySem.W.fnOf "equation" "equation" (defArgs s_equation) (defBody s_equation) (defScope s_equation) .none kV1 dc1 pm1 an1 cd1 ct1), sl1⟩) (c1 : PySem.W.codeIn K cd1 "equation" = true) (k1 : PySem.W.keepIn K (.ref f1) = true)
    (a2 : PySem.W.nsIn K mainGlobals "divisor" = some (some (.ref f2))) (l2 : K.lookup f2 = some ⟨oc2, od2, .func (PySem.W.fnOf "divisor" "divisor" (defArgs s_divisor) (defBody s_divisor) (defScope s_divisor) .none kV2 dc2 pm2 an2 cd2 ct2), sl2⟩) (c2 : PySem.W.codeIn K cd2 "divisor" = true) (k2 : PySem.W.keepIn K (.ref f2) = true)
    (a3 : PySem.W.nsIn K mainGlobals "common" = some (some (.ref f3))) (l3 : K.lookup f3 = some ⟨oc3, od3, .func (PySem.W.fnOf "common" "common" (defArgs s_common) (defBody s_common) (defScope s_common) .none kV3 dc3 pm3 an3 cd3 ct3), sl3⟩) (c3 : PySem.W.codeIn K cd3 "common" = true) (k3 : PySem.W.keepIn K (.ref f3) = true)
    (a4 : PySem.W.nsIn K mainGlobals "term_on" = some (some (.ref f4))) (l4 : K.lookup f4 = some ⟨oc4, od4, .func (PySem.W.fnOf "term_on" "term_on" (defArgs s_term_on) (defBody s_term_on) (defScope s_term_on) .none kV4 dc4 pm4 an4 cd4 ct4), sl4⟩) (c4 : PySem.W.codeIn K cd4 "term_on" = true) (k4 : PySem.W.keepIn K (.ref f4) = true)
    (a5 : PySem.W.nsIn K mainGlobals "signs_upto" = some (some (.ref f5))) (l5 : K.lookup f5 = some ⟨oc5, od5, .func (PySem.W.fnOf "signs_upto" "signs_upto" (defArgs s_signs_upto) (defBody s_signs_upto) (defScope s_signs_upto) .none kV5 dc5 pm5 an5 cd5 ct5), sl5⟩) (c5 : PySem.W.codeIn K cd5 "signs_upto" = true) (k5 : PySem.W.keepIn K (.ref f5) = true)
    (a6 : PySem.W.nsIn K mainGlobals "is_term" = some (some (.ref f6))) (l6 : K.lookup f6 = some ⟨oc6, od6, .func (PySem.W.fnOf "is_term" "is_term" (defArgs s_is_term) (defBody s_is_term) (defScope s_is_term) .none kV6 dc6 pm6 an6 cd6 ct6), sl6⟩) (c6 : PySem.W.codeIn K cd6 "is_term" = true) (k6 : PySem.W.keepIn K (.ref f6) = true)
    (a7 : PySem.W.nsIn K mainGlobals "least_length" = some (some (.ref f7))) (l7 : K.lookup f7 = some ⟨oc7, od7, .func (PySem.W.fnOf "least_length" "least_length" (defArgs s_least_length) (defBody s_least_length) (defScope s_least_length) .none kV7 dc7 pm7 an7 cd7 ct7), sl7⟩) (c7 : PySem.W.codeIn K cd7 "least_length" = true) (k7 : PySem.W.keepIn K (.ref f7) = true)
    (a8 : PySem.W.nsIn K mainGlobals "refuse_measure" = some (some (.ref f8))) (l8 : K.lookup f8 = some ⟨oc8, od8, .func (PySem.W.fnOf "refuse_measure" "refuse_measure" (defArgs s_refuse_measure) (defBody s_refuse_measure) (defScope s_refuse_measure) .none kV8 dc8 pm8 an8 cd8 ct8), sl8⟩) (c8 : PySem.W.codeIn K cd8 "refuse_measure" = true) (k8 : PySem.W.keepIn K (.ref f8) = true)
    (a9 : PySem.W.nsIn K mainGlobals "period_of" = some (some (.ref f9))) (l9 : K.lookup f9 = some ⟨oc9, od9, .func (PySem.W.fnOf "period_of" "period_of" (defArgs s_period_of) (defBody s_period_of) (defScope s_period_of) .none kV9 dc9 pm9 an9 cd9 ct9), sl9⟩) (c9 : PySem.W.codeIn K cd9 "period_of" = true) (k9 : PySem.W.keepIn K (.ref f9) = true)
    (a10 : PySem.W.findIn K (.ref c_Measure) "upto" = some (some (.ref f10))) (l10 : K.lookup f10 = some ⟨oc10, od10, .func (PySem.W.fnOf "upto" "Measure.upto" (defArgs s_Measure_upto) (defBody s_Measure_upto) (defScope s_Measure_upto) .none kV10 dc10 pm10 an10 cd10 ct10), sl10⟩) (c10 : PySem.W.codeIn K cd10 "Measure.upto" = true) (k10 : PySem.W.keepIn K (.ref f10) = true)
    (u10 : PySem.W.typeIn K (.ref f10) = some (.type "function"))
    (a11 : PySem.W.findIn K (.ref c_Measure) "__init__" = some (some (.ref f11))) (l11 : K.lookup f11 = some ⟨oc11, od11, .func (PySem.W.fnOf "__init__" "Measure.__init__" (defArgs s_Measure___init__) (defBody s_Measure___init__) (defScope s_Measure___init__) (.ref T11) kV11 dc11 pm11 an11 cd11 ct11), sl11⟩) (c11 : PySem.W.codeIn K cd11 "Measure.__init__" = true) (k11 : PySem.W.keepIn K (.ref f11) = true)
    (t11 : K.lookup T11 = some ⟨to11, td11, .seq #[.none] tn11, ts11⟩)
    (u11 : PySem.W.typeIn K (.ref f11) = some (.type "function"))
    (a12 : PySem.W.findIn K (.ref c_Measure) "at" = some (some (.ref f12))) (l12 : K.lookup f12 = some ⟨oc12, od12, .func (PySem.W.fnOf "at" "Measure.at" (defArgs s_Measure_at) (defBody s_Measure_at) (defScope s_Measure_at) .none kV12 dc12 pm12 an12 cd12 ct12), sl12⟩) (c12 : PySem.W.codeIn K cd12 "Measure.at" = true) (k12 : PySem.W.keepIn K (.ref f12) = true)
    (u12 : PySem.W.typeIn K (.ref f12) = some (.type "function"))
    (a13 : PySem.W.findIn K (.ref c_Measure) "period" = some (some (.ref f13))) (l13 : K.lookup f13 = some ⟨oc13, od13, .func (PySem.W.fnOf "period" "Measure.period" (defArgs s_Measure_period) (defBody s_Measure_period) (defScope s_Measure_period) .none kV13 dc13 pm13 an13 cd13 ct13), sl13⟩) (c13 : PySem.W.codeIn K cd13 "Measure.period" = true) (k13 : PySem.W.keepIn K (.ref f13) = true)
    (u13 : PySem.W.typeIn K (.ref f13) = some (.type "function"))
    (a14 : PySem.W.findIn K (.ref c_Measure) "seek" = some (some (.ref f14))) (l14 : K.lookup f14 = some ⟨oc14, od14, .func (PySem.W.fnOf "seek" "Measure.seek" (defArgs s_Measure_seek) (defBody s_Measure_seek) (defScope s_Measure_seek) .none kV14 dc14 pm14 an14 cd14 ct14), sl14⟩) (c14 : PySem.W.codeIn K cd14 "Measure.seek" = true) (k14 : PySem.W.keepIn K (.ref f14) = true)
    (u14 : PySem.W.typeIn K (.ref f14) = some (.type "function"))
    (a15 : PySem.W.nsIn K mainGlobals "refuse_months" = some (some (.ref f15))) (l15 : K.lookup f15 = some ⟨oc15, od15, .func (PySem.W.fnOf "refuse_months" "refuse_months" (defArgs s_refuse_months) (defBody s_refuse_months) (defScope s_refuse_months) .none kV15 dc15 pm15 an15 cd15 ct15), sl15⟩) (c15 : PySem.W.codeIn K cd15 "refuse_months" = true) (k15 : PySem.W.keepIn K (.ref f15) = true)
    (a16 : PySem.W.findIn K (.ref c_Sun) "__init__" = some (some (.ref f16))) (l16 : K.lookup f16 = some ⟨oc16, od16, .func (PySem.W.fnOf "__init__" "Sun.__init__" (defArgs s_Sun___init__) (defBody s_Sun___init__) (defScope s_Sun___init__) (.ref T16) kV16 dc16 pm16 an16 cd16 ct16), sl16⟩) (c16 : PySem.W.codeIn K cd16 "Sun.__init__" = true) (k16 : PySem.W.keepIn K (.ref f16) = true)
    (t16 : K.lookup T16 = some ⟨to16, td16, .seq #[(.int 1 tkd_Sun___init___0), .none] tn16, ts16⟩)
    (u16 : PySem.W.typeIn K (.ref f16) = some (.type "function"))
    (a17 : PySem.W.findIn K (.ref c_Sun) "year_start" = some (some (.ref f17))) (l17 : K.lookup f17 = some ⟨oc17, od17, .func (PySem.W.fnOf "year_start" "Sun.year_start" (defArgs s_Sun_year_start) (defBody s_Sun_year_start) (defScope s_Sun_year_start) .none kV17 dc17 pm17 an17 cd17 ct17), sl17⟩) (c17 : PySem.W.codeIn K cd17 "Sun.year_start" = true) (k17 : PySem.W.keepIn K (.ref f17) = true)
    (u17 : PySem.W.typeIn K (.ref f17) = some (.type "function"))
    (a18 : PySem.W.findIn K (.ref c_Sun) "year_at" = some (some (.ref f18))) (l18 : K.lookup f18 = some ⟨oc18, od18, .func (PySem.W.fnOf "year_at" "Sun.year_at" (defArgs s_Sun_year_at) (defBody s_Sun_year_at) (defScope s_Sun_year_at) .none kV18 dc18 pm18 an18 cd18 ct18), sl18⟩) (c18 : PySem.W.codeIn K cd18 "Sun.year_at" = true) (k18 : PySem.W.keepIn K (.ref f18) = true)
    (u18 : PySem.W.typeIn K (.ref f18) = some (.type "function"))
    (a19 : PySem.W.findIn K (.ref c_Sun) "lengths" = some (some (.ref f19))) (l19 : K.lookup f19 = some ⟨oc19, od19, .func (PySem.W.fnOf "lengths" "Sun.lengths" (defArgs s_Sun_lengths) (defBody s_Sun_lengths) (defScope s_Sun_lengths) .none kV19 dc19 pm19 an19 cd19 ct19), sl19⟩) (c19 : PySem.W.codeIn K cd19 "Sun.lengths" = true) (k19 : PySem.W.keepIn K (.ref f19) = true)
    (u19 : PySem.W.typeIn K (.ref f19) = some (.type "function"))
    (a20 : PySem.W.findIn K (.ref c_Sun) "cycle" = some (some (.ref f20))) (l20 : K.lookup f20 = some ⟨oc20, od20, .func (PySem.W.fnOf "cycle" "Sun.cycle" (defArgs s_Sun_cycle) (defBody s_Sun_cycle) (defScope s_Sun_cycle) .none kV20 dc20 pm20 an20 cd20 ct20), sl20⟩) (c20 : PySem.W.codeIn K cd20 "Sun.cycle" = true) (k20 : PySem.W.keepIn K (.ref f20) = true)
    (u20 : PySem.W.typeIn K (.ref f20) = some (.type "function"))
    (a21 : PySem.W.nsIn K mainGlobals "refuse_part" = some (some (.ref f21))) (l21 : K.lookup f21 = some ⟨oc21, od21, .func (PySem.W.fnOf "refuse_part" "refuse_part" (defArgs s_refuse_part) (defBody s_refuse_part) (defScope s_refuse_part) .none kV21 dc21 pm21 an21 cd21 ct21), sl21⟩) (c21 : PySem.W.codeIn K cd21 "refuse_part" = true) (k21 : PySem.W.keepIn K (.ref f21) = true)
    (a22 : PySem.W.findIn K (.ref c_Moon) "__init__" = some (some (.ref f22))) (l22 : K.lookup f22 = some ⟨oc22, od22, .func (PySem.W.fnOf "__init__" "Moon.__init__" (defArgs s_Moon___init__) (defBody s_Moon___init__) (defScope s_Moon___init__) .none kV22 dc22 pm22 an22 cd22 ct22), sl22⟩) (c22 : PySem.W.codeIn K cd22 "Moon.__init__" = true) (k22 : PySem.W.keepIn K (.ref f22) = true)
    (u22 : PySem.W.typeIn K (.ref f22) = some (.type "function"))
    (a23 : PySem.W.findIn K (.ref c_Moon) "year_start" = some (some (.ref f23))) (l23 : K.lookup f23 = some ⟨oc23, od23, .func (PySem.W.fnOf "year_start" "Moon.year_start" (defArgs s_Moon_year_start) (defBody s_Moon_year_start) (defScope s_Moon_year_start) .none kV23 dc23 pm23 an23 cd23 ct23), sl23⟩) (c23 : PySem.W.codeIn K cd23 "Moon.year_start" = true) (k23 : PySem.W.keepIn K (.ref f23) = true)
    (u23 : PySem.W.typeIn K (.ref f23) = some (.type "function"))
    (a24 : PySem.W.findIn K (.ref c_Moon) "year_at" = some (some (.ref f24))) (l24 : K.lookup f24 = some ⟨oc24, od24, .func (PySem.W.fnOf "year_at" "Moon.year_at" (defArgs s_Moon_year_at) (defBody s_Moon_year_at) (defScope s_Moon_year_at) .none kV24 dc24 pm24 an24 cd24 ct24), sl24⟩) (c24 : PySem.W.codeIn K cd24 "Moon.year_at" = true) (k24 : PySem.W.keepIn K (.ref f24) = true)
    (u24 : PySem.W.typeIn K (.ref f24) = some (.type "function"))
    (a25 : PySem.W.findIn K (.ref c_Moon) "lengths" = some (some (.ref f25))) (l25 : K.lookup f25 = some ⟨oc25, od25, .func (PySem.W.fnOf "lengths" "Moon.lengths" (defArgs s_Moon_lengths) (defBody s_Moon_lengths) (defScope s_Moon_lengths) .none kV25 dc25 pm25 an25 cd25 ct25), sl25⟩) (c25 : PySem.W.codeIn K cd25 "Moon.lengths" = true) (k25 : PySem.W.keepIn K (.ref f25) = true)
    (u25 : PySem.W.typeIn K (.ref f25) = some (.type "function"))
    (a26 : PySem.W.findIn K (.ref c_Sun) "date_of" = some (some (.ref f26))) (l26 : K.lookup f26 = some ⟨oc26, od26, .func (PySem.W.fnOf "date_of" "Calendar.date_of" (defArgs s_Sun_date_of) (defBody s_Sun_date_of) (defScope s_Sun_date_of) .none kV26 dc26 pm26 an26 cd26 ct26), sl26⟩) (c26 : PySem.W.codeIn K cd26 "Calendar.date_of" = true) (k26 : PySem.W.keepIn K (.ref f26) = true)
    (u26 : PySem.W.typeIn K (.ref f26) = some (.type "function"))
    (a27 : PySem.W.findIn K (.ref c_Moon) "date_of" = some (some (.ref f27))) (l27 : K.lookup f27 = some ⟨oc27, od27, .func (PySem.W.fnOf "date_of" "Calendar.date_of" (defArgs s_Moon_date_of) (defBody s_Moon_date_of) (defScope s_Moon_date_of) .none kV27 dc27 pm27 an27 cd27 ct27), sl27⟩) (c27 : PySem.W.codeIn K cd27 "Calendar.date_of" = true) (k27 : PySem.W.keepIn K (.ref f27) = true)
    (u27 : PySem.W.typeIn K (.ref f27) = some (.type "function"))
    (a28 : PySem.W.findIn K (.ref c_Sun) "day_of" = some (some (.ref f28))) (l28 : K.lookup f28 = some ⟨oc28, od28, .func (PySem.W.fnOf "day_of" "Calendar.day_of" (defArgs s_Sun_day_of) (defBody s_Sun_day_of) (defScope s_Sun_day_of) .none kV28 dc28 pm28 an28 cd28 ct28), sl28⟩) (c28 : PySem.W.codeIn K cd28 "Calendar.day_of" = true) (k28 : PySem.W.keepIn K (.ref f28) = true)
    (u28 : PySem.W.typeIn K (.ref f28) = some (.type "function"))
    (a29 : PySem.W.findIn K (.ref c_Moon) "day_of" = some (some (.ref f29))) (l29 : K.lookup f29 = some ⟨oc29, od29, .func (PySem.W.fnOf "day_of" "Calendar.day_of" (defArgs s_Moon_day_of) (defBody s_Moon_day_of) (defScope s_Moon_day_of) .none kV29 dc29 pm29 an29 cd29 ct29), sl29⟩) (c29 : PySem.W.codeIn K cd29 "Calendar.day_of" = true) (k29 : PySem.W.keepIn K (.ref f29) = true)
    (u29 : PySem.W.typeIn K (.ref f29) = some (.type "function"))
    (a30 : PySem.W.findIn K (.ref c_Moon) "cycle" = some (some (.ref f30))) (l30 : K.lookup f30 = some ⟨oc30, od30, .func (PySem.W.fnOf "cycle" "Moon.cycle" (defArgs s_Moon_cycle) (defBody s_Moon_cycle) (defScope s_Moon_cycle) .none kV30 dc30 pm30 an30 cd30 ct30), sl30⟩) (c30 : PySem.W.codeIn K cd30 "Moon.cycle" = true) (k30 : PySem.W.keepIn K (.ref f30) = true)
    (u30 : PySem.W.typeIn K (.ref f30) = some (.type "function"))
    (a31 : PySem.W.nsIn K mainGlobals "is_number" = some (some (.ref f31))) (l31 : K.lookup f31 = some ⟨oc31, od31, .func (PySem.W.fnOf "is_number" "is_number" (defArgs s_is_number) (defBody s_is_number) (defScope s_is_number) .none kV31 dc31 pm31 an31 cd31 ct31), sl31⟩) (c31 : PySem.W.codeIn K cd31 "is_number" = true) (k31 : PySem.W.keepIn K (.ref f31) = true)
    (a32 : PySem.W.nsIn K mainGlobals "read_number" = some (some (.ref f32))) (l32 : K.lookup f32 = some ⟨oc32, od32, .func (PySem.W.fnOf "read_number" "read_number" (defArgs s_read_number) (defBody s_read_number) (defScope s_read_number) .none kV32 dc32 pm32 an32 cd32 ct32), sl32⟩) (c32 : PySem.W.codeIn K cd32 "read_number" = true) (k32 : PySem.W.keepIn K (.ref f32) = true)
    (a33 : PySem.W.nsIn K mainGlobals "term_text" = some (some (.ref f33))) (l33 : K.lookup f33 = some ⟨oc33, od33, .func (PySem.W.fnOf "term_text" "term_text" (defArgs s_term_text) (defBody s_term_text) (defScope s_term_text) .none kV33 dc33 pm33 an33 cd33 ct33), sl33⟩) (c33 : PySem.W.codeIn K cd33 "term_text" = true) (k33 : PySem.W.keepIn K (.ref f33) = true)
    (a34 : PySem.W.nsIn K mainGlobals "term_words" = some (some (.ref f34))) (l34 : K.lookup f34 = some ⟨oc34, od34, .func (PySem.W.fnOf "term_words" "term_words" (defArgs s_term_words) (defBody s_term_words) (defScope s_term_words) .none kV34 dc34 pm34 an34 cd34 ct34), sl34⟩) (c34 : PySem.W.codeIn K cd34 "term_words" = true) (k34 : PySem.W.keepIn K (.ref f34) = true)
    (a35 : PySem.W.findIn K (.ref c_Sun) "shown" = some (some (.ref f35))) (l35 : K.lookup f35 = some ⟨oc35, od35, .func (PySem.W.fnOf "shown" "Sun.shown" (defArgs s_Sun_shown) (defBody s_Sun_shown) (defScope s_Sun_shown) .none kV35 dc35 pm35 an35 cd35 ct35), sl35⟩) (c35 : PySem.W.codeIn K cd35 "Sun.shown" = true) (k35 : PySem.W.keepIn K (.ref f35) = true)
    (u35 : PySem.W.typeIn K (.ref f35) = some (.type "function"))
    (a36 : PySem.W.findIn K (.ref c_Moon) "shown" = some (some (.ref f36))) (l36 : K.lookup f36 = some ⟨oc36, od36, .func (PySem.W.fnOf "shown" "Moon.shown" (defArgs s_Moon_shown) (defBody s_Moon_shown) (defScope s_Moon_shown) .none kV36 dc36 pm36 an36 cd36 ct36), sl36⟩) (c36 : PySem.W.codeIn K cd36 "Moon.shown" = true) (k36 : PySem.W.keepIn K (.ref f36) = true)
    (u36 : PySem.W.typeIn K (.ref f36) = some (.type "function"))
    (a37 : PySem.W.nsIn K mainGlobals "is_readable" = some (some (.ref f37))) (l37 : K.lookup f37 = some ⟨oc37, od37, .func (PySem.W.fnOf "is_readable" "is_readable" (defArgs s_is_readable) (defBody s_is_readable) (defScope s_is_readable) .none kV37 dc37 pm37 an37 cd37 ct37), sl37⟩) (c37 : PySem.W.codeIn K cd37 "is_readable" = true) (k37 : PySem.W.keepIn K (.ref f37) = true)
    (a38 : PySem.W.nsIn K mainGlobals "read_numbers" = some (some (.ref f38))) (l38 : K.lookup f38 = some ⟨oc38, od38, .func (PySem.W.fnOf "read_numbers" "read_numbers" (defArgs s_read_numbers) (defBody s_read_numbers) (defScope s_read_numbers) .none kV38 dc38 pm38 an38 cd38 ct38), sl38⟩) (c38 : PySem.W.codeIn K cd38 "read_numbers" = true) (k38 : PySem.W.keepIn K (.ref f38) = true)
    (a39 : PySem.W.nsIn K mainGlobals "read_term" = some (some (.ref f39))) (l39 : K.lookup f39 = some ⟨oc39, od39, .func (PySem.W.fnOf "read_term" "read_term" (defArgs s_read_term) (defBody s_read_term) (defScope s_read_term) .none kV39 dc39 pm39 an39 cd39 ct39), sl39⟩) (c39 : PySem.W.codeIn K cd39 "read_term" = true) (k39 : PySem.W.keepIn K (.ref f39) = true)
    (a40 : PySem.W.nsIn K mainGlobals "read_terms" = some (some (.ref f40))) (l40 : K.lookup f40 = some ⟨oc40, od40, .func (PySem.W.fnOf "read_terms" "read_terms" (defArgs s_read_terms) (defBody s_read_terms) (defScope s_read_terms) .none kV40 dc40 pm40 an40 cd40 ct40), sl40⟩) (c40 : PySem.W.codeIn K cd40 "read_terms" = true) (k40 : PySem.W.keepIn K (.ref f40) = true)
    (a41 : PySem.W.nsIn K mainGlobals "read_sun" = some (some (.ref f41))) (l41 : K.lookup f41 = some ⟨oc41, od41, .func (PySem.W.fnOf "read_sun" "read_sun" (defArgs s_read_sun) (defBody s_read_sun) (defScope s_read_sun) .none kV41 dc41 pm41 an41 cd41 ct41), sl41⟩) (c41 : PySem.W.codeIn K cd41 "read_sun" = true) (k41 : PySem.W.keepIn K (.ref f41) = true)
    (a42 : PySem.W.nsIn K mainGlobals "read_moon" = some (some (.ref f42))) (l42 : K.lookup f42 = some ⟨oc42, od42, .func (PySem.W.fnOf "read_moon" "read_moon" (defArgs s_read_moon) (defBody s_read_moon) (defScope s_read_moon) .none kV42 dc42 pm42 an42 cd42 ct42), sl42⟩) (c42 : PySem.W.codeIn K cd42 "read_moon" = true) (k42 : PySem.W.keepIn K (.ref f42) = true)
    (a43 : PySem.W.nsIn K mainGlobals "read_calendar" = some (some (.ref f43))) (l43 : K.lookup f43 = some ⟨oc43, od43, .func (PySem.W.fnOf "read_calendar" "read_calendar" (defArgs s_read_calendar) (defBody s_read_calendar) (defScope s_read_calendar) .none kV43 dc43 pm43 an43 cd43 ct43), sl43⟩) (c43 : PySem.W.codeIn K cd43 "read_calendar" = true) (k43 : PySem.W.keepIn K (.ref f43) = true)
    (a44 : PySem.W.nsIn K mainGlobals "_law_cell_at" = some (some (.ref f44))) (l44 : K.lookup f44 = some ⟨oc44, od44, .func (PySem.W.fnOf "_law_cell_at" "_law_cell_at" (defArgs s_law_cell_at) (defBody s_law_cell_at) (defScope s_law_cell_at) .none kV44 dc44 pm44 an44 cd44 ct44), sl44⟩) (c44 : PySem.W.codeIn K cd44 "_law_cell_at" = true) (k44 : PySem.W.keepIn K (.ref f44) = true)
    (a45 : PySem.W.nsIn K mainGlobals "_law_number" = some (some (.ref f45))) (l45 : K.lookup f45 = some ⟨oc45, od45, .func (PySem.W.fnOf "_law_number" "_law_number" (defArgs s_law_number) (defBody s_law_number) (defScope s_law_number) .none kV45 dc45 pm45 an45 cd45 ct45), sl45⟩) (c45 : PySem.W.codeIn K cd45 "_law_number" = true) (k45 : PySem.W.keepIn K (.ref f45) = true)
    (a46 : PySem.W.nsIn K mainGlobals "_law_mixed" = some (some (.ref f46))) (l46 : K.lookup f46 = some ⟨oc46, od46, .func (PySem.W.fnOf "_law_mixed" "_law_mixed" (defArgs s_law_mixed) (defBody s_law_mixed) (defScope s_law_mixed) .none kV46 dc46 pm46 an46 cd46 ct46), sl46⟩) (c46 : PySem.W.codeIn K cd46 "_law_mixed" = true) (k46 : PySem.W.keepIn K (.ref f46) = true)
    (a47 : PySem.W.nsIn K mainGlobals "_law_term" = some (some (.ref f47))) (l47 : K.lookup f47 = some ⟨oc47, od47, .func (PySem.W.fnOf "_law_term" "_law_term" (defArgs s_law_term) (defBody s_law_term) (defScope s_law_term) .none kV47 dc47 pm47 an47 cd47 ct47), sl47⟩) (c47 : PySem.W.codeIn K cd47 "_law_term" = true) (k47 : PySem.W.keepIn K (.ref f47) = true)
    (a48 : PySem.W.nsIn K mainGlobals "_law_terms" = some (some (.ref f48))) (l48 : K.lookup f48 = some ⟨oc48, od48, .func (PySem.W.fnOf "_law_terms" "_law_terms" (defArgs s_law_terms) (defBody s_law_terms) (defScope s_law_terms) .none kV48 dc48 pm48 an48 cd48 ct48), sl48⟩) (c48 : PySem.W.codeIn K cd48 "_law_terms" = true) (k48 : PySem.W.keepIn K (.ref f48) = true)
    (a49 : PySem.W.nsIn K mainGlobals "_law_fallen" = some (some (.ref f49))) (l49 : K.lookup f49 = some ⟨oc49, od49, .func (PySem.W.fnOf "_law_fallen" "_law_fallen" (defArgs s_law_fallen) (defBody s_law_fallen) (defScope s_law_fallen) .none kV49 dc49 pm49 an49 cd49 ct49), sl49⟩) (c49 : PySem.W.codeIn K cd49 "_law_fallen" = true) (k49 : PySem.W.keepIn K (.ref f49) = true)
    (a50 : PySem.W.nsIn K mainGlobals "_law_term_text" = some (some (.ref f50))) (l50 : K.lookup f50 = some ⟨oc50, od50, .func (PySem.W.fnOf "_law_term_text" "_law_term_text" (defArgs s_law_term_text) (defBody s_law_term_text) (defScope s_law_term_text) .none kV50 dc50 pm50 an50 cd50 ct50), sl50⟩) (c50 : PySem.W.codeIn K cd50 "_law_term_text" = true) (k50 : PySem.W.keepIn K (.ref f50) = true)
    (a51 : PySem.W.nsIn K mainGlobals "_law_terms_text" = some (some (.ref f51))) (l51 : K.lookup f51 = some ⟨oc51, od51, .func (PySem.W.fnOf "_law_terms_text" "_law_terms_text" (defArgs s_law_terms_text) (defBody s_law_terms_text) (defScope s_law_terms_text) .none kV51 dc51 pm51 an51 cd51 ct51), sl51⟩) (c51 : PySem.W.codeIn K cd51 "_law_terms_text" = true) (k51 : PySem.W.keepIn K (.ref f51) = true)
    (a52 : PySem.W.nsIn K mainGlobals "_law_sun" = some (some (.ref f52))) (l52 : K.lookup f52 = some ⟨oc52, od52, .func (PySem.W.fnOf "_law_sun" "_law_sun" (defArgs s_law_sun) (defBody s_law_sun) (defScope s_law_sun) .none kV52 dc52 pm52 an52 cd52 ct52), sl52⟩) (c52 : PySem.W.codeIn K cd52 "_law_sun" = true) (k52 : PySem.W.keepIn K (.ref f52) = true)
    (a53 : PySem.W.nsIn K mainGlobals "_law_base" = some (some (.ref f53))) (l53 : K.lookup f53 = some ⟨oc53, od53, .func (PySem.W.fnOf "_law_base" "_law_base" (defArgs s_law_base) (defBody s_law_base) (defScope s_law_base) .none kV53 dc53 pm53 an53 cd53 ct53), sl53⟩) (c53 : PySem.W.codeIn K cd53 "_law_base" = true) (k53 : PySem.W.keepIn K (.ref f53) = true)
    (a54 : PySem.W.nsIn K mainGlobals "_law_moon" = some (some (.ref f54))) (l54 : K.lookup f54 = some ⟨oc54, od54, .func (PySem.W.fnOf "_law_moon" "_law_moon" (defArgs s_law_moon) (defBody s_law_moon) (defScope s_law_moon) .none kV54 dc54 pm54 an54 cd54 ct54), sl54⟩) (c54 : PySem.W.codeIn K cd54 "_law_moon" = true) (k54 : PySem.W.keepIn K (.ref f54) = true)
    (a55 : PySem.W.nsIn K mainGlobals "_law_alike" = some (some (.ref f55))) (l55 : K.lookup f55 = some ⟨oc55, od55, .func (PySem.W.fnOf "_law_alike" "_law_alike" (defArgs s_law_alike) (defBody s_law_alike) (defScope s_law_alike) .none kV55 dc55 pm55 an55 cd55 ct55), sl55⟩) (c55 : PySem.W.codeIn K cd55 "_law_alike" = true) (k55 : PySem.W.keepIn K (.ref f55) = true)
    (a56 : PySem.W.nsIn K mainGlobals "law" = some (some (.ref f56))) (l56 : K.lookup f56 = some ⟨oc56, od56, .func (PySem.W.fnOf "law" "law" (defArgs s_law) (defBody s_law) (defScope s_law) .none kV56 dc56 pm56 an56 cd56 ct56), sl56⟩) (c56 : PySem.W.codeIn K cd56 "law" = true) (k56 : PySem.W.keepIn K (.ref f56) = true)
    (z_sum : PySem.W.nsIn K mainGlobals "sum" = some none)
    (z_len : PySem.W.nsIn K mainGlobals "len" = some none)
    (z_all : PySem.W.nsIn K mainGlobals "all" = some none)
    (z_tuple : PySem.W.nsIn K mainGlobals "tuple" = some none)
    (z_min : PySem.W.nsIn K mainGlobals "min" = some none)
    (z_max : PySem.W.nsIn K mainGlobals "max" = some none)
    (z_list : PySem.W.nsIn K mainGlobals "list" = some none)
    (z_range : PySem.W.nsIn K mainGlobals "range" = some none)
    (z_isinstance : PySem.W.nsIn K mainGlobals "isinstance" = some none)
    (z_str : PySem.W.nsIn K mainGlobals "str" = some none)
    (z_int : PySem.W.nsIn K mainGlobals "int" = some none)
    (m_GREATEST_N : PySem.W.nsIn K mainGlobals "GREATEST_N" = some (some (.int 1000 tk_GREATEST_N)))
    (m_GREATEST_BASE : PySem.W.nsIn K mainGlobals "GREATEST_BASE" = some (some (.int 20000 tk_GREATEST_BASE)))
    (m_MOST_TERMS : PySem.W.nsIn K mainGlobals "MOST_TERMS" = some (some (.int 6 tk_MOST_TERMS)))
    (m_MOST_MONTHS : PySem.W.nsIn K mainGlobals "MOST_MONTHS" = some (some (.int 20 tk_MOST_MONTHS)))
    (m_LONGEST_MONTH : PySem.W.nsIn K mainGlobals "LONGEST_MONTH" = some (some (.int 1000 tk_LONGEST_MONTH)))
    (m_MOST_FIGURES : PySem.W.nsIn K mainGlobals "MOST_FIGURES" = some (some (.int 60 tk_MOST_FIGURES)))
    (m_FIGURES : PySem.W.nsIn K mainGlobals "FIGURES" = some (some (.str "0123456789" tk_FIGURES)))
    (m_MOST_SIGNS : PySem.W.nsIn K mainGlobals "MOST_SIGNS" = some (some (.int 4000 tk_MOST_SIGNS)))
    : ∃ fd : FuncData, (∀ (s : Shared) (v : Value), BindsTo s fd ⟨[v], []⟩ [("_law_script", v)]) ∧ ∀ base : Heap, K.In base → base.Ns mainGlobals mg → FnOk l.prog w K mg base CX0 11 fa fd ["_law_script"] (spLaw K) := by
  have e := hfa.symm.trans (PySem.W.mg_of X G a56)
  cases e
  have F0 := fun_mk (st := s_refuse_below_one) l0 c0 k0
  have b0 := F0.binds (ps := ["number"]) fun _ _ _ _ _ _ us hl => by obtain ⟨_, rfl⟩ := len1 hl; rfl
  have F1 := fun_mk (st := s_equation) l1 c1 k1
  have b1 := F1.binds (ps := ["one", "other"]) fun _ _ _ _ _ _ us hl => by obtain ⟨_, _, rfl⟩ := len2 hl; rfl
  have F2 := fun_mk (st := s_divisor) l2 c2 k2
  have b2 := F2.binds (ps := ["one", "other"]) fun _ _ _ _ _ _ us hl => by obtain ⟨_, _, rfl⟩ := len2 hl; rfl
  have F3 := fun_mk (st := s_common) l3 c3 k3
  have b3 := F3.binds (ps := ["one", "other"]) fun _ _ _ _ _ _ us hl => by obtain ⟨_, _, rfl⟩ := len2 hl; rfl
  have F4 := fun_mk (st := s_term_on) l4 c4 k4
  have b4 := F4.binds (ps := ["term", "k"]) fun _ _ _ _ _ _ us hl => by obtain ⟨_, _, rfl⟩ := len2 hl; rfl
  have F5 := fun_mk (st := s_signs_upto) l5 c5 k5
  have b5 := F5.binds (ps := ["terms", "k"]) fun _ _ _ _ _ _ us hl => by obtain ⟨_, _, rfl⟩ := len2 hl; rfl
  have F6 := fun_mk (st := s_is_term) l6 c6 k6
  have b6 := F6.binds (ps := ["term"]) fun _ _ _ _ _ _ us hl => by obtain ⟨_, rfl⟩ := len1 hl; rfl
  have F7 := fun_mk (st := s_least_length) l7 c7 k7
  have b7 := F7.binds (ps := ["base", "terms"]) fun _ _ _ _ _ _ us hl => by obtain ⟨_, _, rfl⟩ := len2 hl; rfl
  have F8 := fun_mk (st := s_refuse_measure) l8 c8 k8
  have b8 := F8.binds (ps := ["base", "terms"]) fun _ _ _ _ _ _ us hl => by obtain ⟨_, _, rfl⟩ := len2 hl; rfl
  have F9 := fun_mk (st := s_period_of) l9 c9 k9
  have b9 := F9.binds (ps := ["terms"]) fun _ _ _ _ _ _ us hl => by obtain ⟨_, rfl⟩ := len1 hl; rfl
  have F10 := fun_mk (st := s_Measure_upto) l10 c10 k10
  have b10 := F10.binds (ps := ["self", "k"]) fun _ _ _ _ _ _ us hl => by obtain ⟨_, _, rfl⟩ := len2 hl; rfl
  have F11 := fun_mkD (st := s_Measure___init__) l11 c11 k11 t11 rfl
  have b11 := FunD.bindsD (ps := ["self", "base", "terms"]) (dv := []) 3 rfl F11 fun _ _ _ _ _ _ _ us hl => by obtain ⟨_, _, _, rfl⟩ := len3 hl; exact ⟨_, rfl, rfl⟩
  have F12 := fun_mk (st := s_Measure_at) l12 c12 k12
  have b12 := F12.binds (ps := ["self", "k"]) fun _ _ _ _ _ _ us hl => by obtain ⟨_, _, rfl⟩ := len2 hl; rfl
  have F13 := fun_mk (st := s_Measure_period) l13 c13 k13
  have b13 := F13.binds (ps := ["self"]) fun _ _ _ _ _ _ us hl => by obtain ⟨_, rfl⟩ := len1 hl; rfl
  have F14 := fun_mk (st := s_Measure_seek) l14 c14 k14
  have b14 := F14.binds (ps := ["self", "total"]) fun _ _ _ _ _ _ us hl => by obtain ⟨_, _, rfl⟩ := len2 hl; rfl
  have F15 := fun_mk (st := s_refuse_months) l15 c15 k15
  have b15 := F15.binds (ps := ["lengths", "leap"]) fun _ _ _ _ _ _ us hl => by obtain ⟨_, _, rfl⟩ := len2 hl; rfl
  have F16 := fun_mkD (st := s_Sun___init__) l16 c16 k16 t16 rfl
  have b16 := FunD.bindsD (ps := ["self", "start", "lengths", "leap", "terms"]) (dv := []) 5 rfl F16 fun _ _ _ _ _ _ _ us hl => by obtain ⟨_, _, _, _, _, rfl⟩ := len5 hl; exact ⟨_, rfl, rfl⟩
  have b16_2 := FunD.bindsD (ps := ["self", "start", "lengths", "leap", "terms"]) (dv := [(.int 1 tkd_Sun___init___0), .none]) 3 rfl F16 fun _ _ _ _ _ _ _ us hl => by obtain ⟨_, _, _, rfl⟩ := len3 hl; exact ⟨_, rfl, rfl⟩
  have F17 := fun_mk (st := s_Sun_year_start) l17 c17 k17
  have b17 := F17.binds (ps := ["self", "year"]) fun _ _ _ _ _ _ us hl => by obtain ⟨_, _, rfl⟩ := len2 hl; rfl
  have F18 := fun_mk (st := s_Sun_year_at) l18 c18 k18
  have b18 := F18.binds (ps := ["self", "day"]) fun _ _ _ _ _ _ us hl => by obtain ⟨_, _, rfl⟩ := len2 hl; rfl
  have F19 := fun_mk (st := s_Sun_lengths) l19 c19 k19
  have b19 := F19.binds (ps := ["self", "year"]) fun _ _ _ _ _ _ us hl => by obtain ⟨_, _, rfl⟩ := len2 hl; rfl
  have F20 := fun_mk (st := s_Sun_cycle) l20 c20 k20
  have b20 := F20.binds (ps := ["self"]) fun _ _ _ _ _ _ us hl => by obtain ⟨_, rfl⟩ := len1 hl; rfl
  have F21 := fun_mk (st := s_refuse_part) l21 c21 k21
  have b21 := F21.binds (ps := ["measure", "greatest"]) fun _ _ _ _ _ _ us hl => by obtain ⟨_, _, rfl⟩ := len2 hl; rfl
  have F22 := fun_mk (st := s_Moon___init__) l22 c22 k22
  have b22 := F22.binds (ps := ["self", "start", "days", "many"]) fun _ _ _ _ _ _ us hl => by obtain ⟨_, _, _, _, rfl⟩ := len4 hl; rfl
  have F23 := fun_mk (st := s_Moon_year_start) l23 c23 k23
  have b23 := F23.binds (ps := ["self", "year"]) fun _ _ _ _ _ _ us hl => by obtain ⟨_, _, rfl⟩ := len2 hl; rfl
  have F24 := fun_mk (st := s_Moon_year_at) l24 c24 k24
  have b24 := F24.binds (ps := ["self", "day"]) fun _ _ _ _ _ _ us hl => by obtain ⟨_, _, rfl⟩ := len2 hl; rfl
  have F25 := fun_mk (st := s_Moon_lengths) l25 c25 k25
  have b25 := F25.binds (ps := ["self", "year"]) fun _ _ _ _ _ _ us hl => by obtain ⟨_, _, rfl⟩ := len2 hl; rfl
  have F26 := fun_mk (st := s_Sun_date_of) l26 c26 k26
  have b26 := F26.binds (ps := ["self", "day"]) fun _ _ _ _ _ _ us hl => by obtain ⟨_, _, rfl⟩ := len2 hl; rfl
  have F27 := fun_mk (st := s_Moon_date_of) l27 c27 k27
  have b27 := F27.binds (ps := ["self", "day"]) fun _ _ _ _ _ _ us hl => by obtain ⟨_, _, rfl⟩ := len2 hl; rfl
  have F28 := fun_mk (st := s_Sun_day_of) l28 c28 k28
  have b28 := F28.binds (ps := ["self", "date"]) fun _ _ _ _ _ _ us hl => by obtain ⟨_, _, rfl⟩ := len2 hl; rfl
  have F29 := fun_mk (st := s_Moon_day_of) l29 c29 k29
  have b29 := F29.binds (ps := ["self", "date"]) fun _ _ _ _ _ _ us hl => by obtain ⟨_, _, rfl⟩ := len2 hl; rfl
  have F30 := fun_mk (st := s_Moon_cycle) l30 c30 k30
  have b30 := F30.binds (ps := ["self"]) fun _ _ _ _ _ _ us hl => by obtain ⟨_, rfl⟩ := len1 hl; rfl
  have F31 := fun_mk (st := s_is_number) l31 c31 k31
  have b31 := F31.binds (ps := ["text"]) fun _ _ _ _ _ _ us hl => by obtain ⟨_, rfl⟩ := len1 hl; rfl
  have F32 := fun_mk (st := s_read_number) l32 c32 k32
  have b32 := F32.binds (ps := ["text"]) fun _ _ _ _ _ _ us hl => by obtain ⟨_, rfl⟩ := len1 hl; rfl
  have F33 := fun_mk (st := s_term_text) l33 c33 k33
  have b33 := F33.binds (ps := ["term"]) fun _ _ _ _ _ _ us hl => by obtain ⟨_, rfl⟩ := len1 hl; rfl
  have F34 := fun_mk (st := s_term_words) l34 c34 k34
  have b34 := F34.binds (ps := ["terms"]) fun _ _ _ _ _ _ us hl => by obtain ⟨_, rfl⟩ := len1 hl; rfl
  have F35 := fun_mk (st := s_Sun_shown) l35 c35 k35
  have b35 := F35.binds (ps := ["self"]) fun _ _ _ _ _ _ us hl => by obtain ⟨_, rfl⟩ := len1 hl; rfl
  have F36 := fun_mk (st := s_Moon_shown) l36 c36 k36
  have b36 := F36.binds (ps := ["self"]) fun _ _ _ _ _ _ us hl => by obtain ⟨_, rfl⟩ := len1 hl; rfl
  have F37 := fun_mk (st := s_is_readable) l37 c37 k37
  have b37 := F37.binds (ps := ["text"]) fun _ _ _ _ _ _ us hl => by obtain ⟨_, rfl⟩ := len1 hl; rfl
  have F38 := fun_mk (st := s_read_numbers) l38 c38 k38
  have b38 := F38.binds (ps := ["word"]) fun _ _ _ _ _ _ us hl => by obtain ⟨_, rfl⟩ := len1 hl; rfl
  have F39 := fun_mk (st := s_read_term) l39 c39 k39
  have b39 := F39.binds (ps := ["word"]) fun _ _ _ _ _ _ us hl => by obtain ⟨_, rfl⟩ := len1 hl; rfl
  have F40 := fun_mk (st := s_read_terms) l40 c40 k40
  have b40 := F40.binds (ps := ["words"]) fun _ _ _ _ _ _ us hl => by obtain ⟨_, rfl⟩ := len1 hl; rfl
  have F41 := fun_mk (st := s_read_sun) l41 c41 k41
  have b41 := F41.binds (ps := ["words"]) fun _ _ _ _ _ _ us hl => by obtain ⟨_, rfl⟩ := len1 hl; rfl
  have F42 := fun_mk (st := s_read_moon) l42 c42 k42
  have b42 := F42.binds (ps := ["words"]) fun _ _ _ _ _ _ us hl => by obtain ⟨_, rfl⟩ := len1 hl; rfl
  have F43 := fun_mk (st := s_read_calendar) l43 c43 k43
  have b43 := F43.binds (ps := ["text"]) fun _ _ _ _ _ _ us hl => by obtain ⟨_, rfl⟩ := len1 hl; rfl
  have F44 := fun_mk (st := s_law_cell_at) l44 c44 k44
  have b44 := F44.binds (ps := ["_law_script", "_law_k"]) fun _ _ _ _ _ _ us hl => by obtain ⟨_, _, rfl⟩ := len2 hl; rfl
  have F45 := fun_mk (st := s_law_number) l45 c45 k45
  have b45 := F45.binds (ps := ["_law_cell"]) fun _ _ _ _ _ _ us hl => by obtain ⟨_, rfl⟩ := len1 hl; rfl
  have F46 := fun_mk (st := s_law_mixed) l46 c46 k46
  have b46 := F46.binds (ps := ["_law_cell", "_law_k"]) fun _ _ _ _ _ _ us hl => by obtain ⟨_, _, rfl⟩ := len2 hl; rfl
  have F47 := fun_mk (st := s_law_term) l47 c47 k47
  have b47 := F47.binds (ps := ["_law_cell", "_law_k", "_law_most"]) fun _ _ _ _ _ _ us hl => by obtain ⟨_, _, _, rfl⟩ := len3 hl; rfl
  have F48 := fun_mk (st := s_law_terms) l48 c48 k48
  have b48 := F48.binds (ps := ["_law_cell"]) fun _ _ _ _ _ _ us hl => by obtain ⟨_, rfl⟩ := len1 hl; rfl
  have F49 := fun_mk (st := s_law_fallen) l49 c49 k49
  have b49 := F49.binds (ps := ["_law_terms_here"]) fun _ _ _ _ _ _ us hl => by obtain ⟨_, rfl⟩ := len1 hl; rfl
  have F50 := fun_mk (st := s_law_term_text) l50 c50 k50
  have b50 := F50.binds (ps := ["_law_term_here"]) fun _ _ _ _ _ _ us hl => by obtain ⟨_, rfl⟩ := len1 hl; rfl
  have F51 := fun_mk (st := s_law_terms_text) l51 c51 k51
  have b51 := F51.binds (ps := ["_law_terms_here"]) fun _ _ _ _ _ _ us hl => by obtain ⟨_, rfl⟩ := len1 hl; rfl
  have F52 := fun_mk (st := s_law_sun) l52 c52 k52
  have b52 := F52.binds (ps := ["_law_script", "_law_start"]) fun _ _ _ _ _ _ us hl => by obtain ⟨_, _, rfl⟩ := len2 hl; rfl
  have F53 := fun_mk (st := s_law_base) l53 c53 k53
  have b53 := F53.binds (ps := ["_law_cell", "_law_terms_here", "_law_most"]) fun _ _ _ _ _ _ us hl => by obtain ⟨_, _, _, rfl⟩ := len3 hl; rfl
  have F54 := fun_mk (st := s_law_moon) l54 c54 k54
  have b54 := F54.binds (ps := ["_law_script", "_law_start"]) fun _ _ _ _ _ _ us hl => by obtain ⟨_, _, rfl⟩ := len2 hl; rfl
  have F55 := fun_mk (st := s_law_alike) l55 c55 k55
  have b55 := F55.binds (ps := ["_law_one", "_law_other", "_law_day"]) fun _ _ _ _ _ _ us hl => by obtain ⟨_, _, _, rfl⟩ := len3 hl; rfl
  have F56 := fun_mk (st := s_law) l56 c56 k56
  have y_sum := PySem.W.mg_none_of X G z_sum
  have y_len := PySem.W.mg_none_of X G z_len
  have y_all := PySem.W.mg_none_of X G z_all
  have y_tuple := PySem.W.mg_none_of X G z_tuple
  have y_min := PySem.W.mg_none_of X G z_min
  have y_max := PySem.W.mg_none_of X G z_max
  have y_list := PySem.W.mg_none_of X G z_list
  have y_range := PySem.W.mg_none_of X G z_range
  have y_isinstance := PySem.W.mg_none_of X G z_isinstance
  have y_str := PySem.W.mg_none_of X G z_str
  have y_int := PySem.W.mg_none_of X G z_int
  have y_GREATEST_N := PySem.W.mg_of X G m_GREATEST_N
  have y_GREATEST_BASE := PySem.W.mg_of X G m_GREATEST_BASE
  have y_MOST_TERMS := PySem.W.mg_of X G m_MOST_TERMS
  have y_MOST_MONTHS := PySem.W.mg_of X G m_MOST_MONTHS
  have y_LONGEST_MONTH := PySem.W.mg_of X G m_LONGEST_MONTH
  have y_MOST_FIGURES := PySem.W.mg_of X G m_MOST_FIGURES
  have y_FIGURES := PySem.W.mg_of X G m_FIGURES
  have y_MOST_SIGNS := PySem.W.mg_of X G m_MOST_SIGNS
  refine ⟨PySem.W.fnOf "law" "law" (defArgs s_law) (defBody s_law) (defScope s_law) .none kV56 dc56 pm56 an56 cd56 ct56, fun s v => .of_eq rfl, fun base _ _ => ?_⟩
  have er : Errs K mg c_FeastError c_NoNumber c_NoMeasure c_NoDate c_NoText c_Measure c_Calendar c_Sun c_Moon := ⟨⟨pg_Measure, k_Measure, po_Measure, sa_Measure⟩, na_Measure_base, na_Measure_terms, na_Measure_full_count, na_Measure_full_sum, PySem.W.mg_of X G n_Sun, ⟨pg_Sun, k_Sun, po_Sun, sa_Sun⟩, na_Sun_start, na_Sun_months, na_Sun_leap, na_Sun_years, PySem.W.mg_of X G n_Moon, ⟨pg_Moon, k_Moon, po_Moon, sa_Moon⟩, na_Moon_start, na_Moon_days, na_Moon_many, PySem.W.mg_of X G n_Calendar, ii_Sun_Calendar, ca_Sun, ob_Sun, xsp, xtk, ii_Sun_Sun, ii_Sun_Moon, ii_Moon_Calendar, ca_Moon, ob_Moon, ii_Moon_Sun, ii_Moon_Moon⟩
  have C_refuse_below_one : Cal l.prog w K mg base 1 "refuse_below_one" ["number"] spRefuse := ⟨⟨f0, _, ok_refuse_below_one F0, b0, k0, PySem.W.mg_of X G a0⟩⟩
  have C_equation : Cal l.prog w K mg base 1 "equation" ["one", "other"] spEq := ⟨⟨f1, _, ok_equation F1, b1, k1, PySem.W.mg_of X G a1⟩⟩
  have C_divisor : Cal l.prog w K mg base 2 "divisor" ["one", "other"] spDivisor := ⟨⟨f2, _, ok_divisor F2 C_equation, b2, k2, PySem.W.mg_of X G a2⟩⟩
  have C_common : Cal l.prog w K mg base 3 "common" ["one", "other"] spCommon := ⟨⟨f3, _, ok_common F3 C_refuse_below_one C_divisor, b3, k3, PySem.W.mg_of X G a3⟩⟩
  have C_term_on : Cal l.prog w K mg base 1 "term_on" ["term", "k"] spTermOn := ⟨⟨f4, _, ok_term_on F4, b4, k4, PySem.W.mg_of X G a4⟩⟩
  have C_signs_upto : Cal l.prog w K mg base 1 "signs_upto" ["terms", "k"] (spSigns K) := ⟨⟨f5, _, ok_signs_upto F5 y_sum, b5, k5, PySem.W.mg_of X G a5⟩⟩
  have C_is_term : Cal l.prog w K mg base 1 "is_term" ["term"] spIsTerm := ⟨⟨f6, _, ok_is_term F6 y_GREATEST_N, b6, k6, PySem.W.mg_of X G a6⟩⟩
  have C_least_length : Cal l.prog w K mg base 1 "least_length" ["base", "terms"] (spLeast K) := ⟨⟨f7, _, ok_least_length F7 y_len, b7, k7, PySem.W.mg_of X G a7⟩⟩
  have C_refuse_measure : Cal l.prog w K mg base 2 "refuse_measure" ["base", "terms"] (spRefuseM K) := ⟨⟨f8, _, ok_refuse_measure F8 C_is_term C_least_length y_len y_all y_GREATEST_BASE y_MOST_TERMS, b8, k8, PySem.W.mg_of X G a8⟩⟩
  have C_period_of : Cal l.prog w K mg base 4 "period_of" ["terms"] (spPeriod K) := ⟨⟨f9, _, ok_period_of F9 C_common, b9, k9, PySem.W.mg_of X G a9⟩⟩
  have C_Measure_upto : CalM l.prog w K mg base CX0 2 c_Measure "upto" ["self", "k"] (spUpto K c_Measure) := ⟨⟨f10, _, ok_Measure_upto F10 er C_signs_upto, b10, ⟨a10, beq_iff_eq.mpr u10, k10⟩⟩⟩
  have C_Measure___init__ : CalI l.prog w K mg base CX0 5 "Measure" c_Measure ["self", "base", "terms"] (spInitM K c_Measure) := ⟨⟨f11, _, ok_Measure___init__ F11 er C_refuse_measure C_period_of C_Measure_upto y_tuple, b11, ⟨mk_Measure, a11, beq_iff_eq.mpr u11, kp_Measure⟩, PySem.W.mg_of X G n_Measure⟩⟩
  have C_Measure_at : CalM l.prog w K mg base CX0 2 c_Measure "at" ["self", "k"] (spAt K c_Measure) := ⟨⟨f12, _, ok_Measure_at F12 er C_term_on y_sum, b12, ⟨a12, beq_iff_eq.mpr u12, k12⟩⟩⟩
  have C_Measure_period : CalM l.prog w K mg base CX0 1 c_Measure "period" ["self"] (spPer K c_Measure) := ⟨⟨f13, _, ok_Measure_period F13 er, b13, ⟨a13, beq_iff_eq.mpr u13, k13⟩⟩⟩
  have C_Measure_seek : CalM l.prog w K mg base CX0 3 c_Measure "seek" ["self", "total"] (spSeek K c_Measure) := ⟨⟨f14, _, ok_Measure_seek F14 er C_Measure_upto, b14, ⟨a14, beq_iff_eq.mpr u14, k14⟩⟩⟩
  have C_refuse_months : Cal l.prog w K mg base 1 "refuse_months" ["lengths", "leap"] (spRefMo K) := ⟨⟨f15, _, ok_refuse_months F15 y_len y_min y_max y_MOST_MONTHS y_LONGEST_MONTH, b15, k15, PySem.W.mg_of X G a15⟩⟩
  have C_Sun___init__ : CalI l.prog w K mg base CX0 7 "Sun" c_Sun ["self", "start", "lengths", "leap", "terms"] (spInitS K c_Sun c_Measure) := ⟨⟨f16, _, ok_Sun___init__ F16 er C_refuse_months C_Measure___init__ C_least_length y_tuple y_sum, b16, ⟨mk_Sun, a16, beq_iff_eq.mpr u16, kp_Sun⟩, PySem.W.mg_of X G n_Sun⟩⟩
  have C_Sun___init___d2 : CalID l.prog w K mg base CX0 7 "Sun" c_Sun ["self", "start", "lengths", "leap", "terms"] [(.int 1), .non] (spInitS K c_Sun c_Measure) := ⟨⟨f16, _, _, ok_Sun___init__ F16 er C_refuse_months C_Measure___init__ C_least_length y_tuple y_sum, b16_2, (.cons (by first | exact rfl | exact rel_int _ _ | trivial) (.cons (by first | exact rfl | exact rel_int _ _ | trivial) .nil)), ⟨mk_Sun, a16, beq_iff_eq.mpr u16, kp_Sun⟩, PySem.W.mg_of X G n_Sun⟩⟩
  have C_Sun_year_start : CalM l.prog w K mg base CX0 3 c_Sun "year_start" ["self", "year"] (spYS K c_Sun c_Measure) := ⟨⟨f17, _, ok_Sun_year_start F17 er C_Measure_upto, b17, ⟨a17, beq_iff_eq.mpr u17, k17⟩⟩⟩
  have C_Sun_year_at : CalM l.prog w K mg base CX0 4 c_Sun "year_at" ["self", "day"] (spYA K c_Sun c_Measure) := ⟨⟨f18, _, ok_Sun_year_at F18 er C_Measure_seek, b18, ⟨a18, beq_iff_eq.mpr u18, k18⟩⟩⟩
  have C_Sun_lengths : CalM l.prog w K mg base CX0 3 c_Sun "lengths" ["self", "year"] (spLens K c_Sun c_Measure) := ⟨⟨f19, _, ok_Sun_lengths F19 er C_Measure_at y_list, b19, ⟨a19, beq_iff_eq.mpr u19, k19⟩⟩⟩
  have C_Sun_cycle : CalM l.prog w K mg base CX0 3 c_Sun "cycle" ["self"] (spCyc K c_Sun c_Measure) := ⟨⟨f20, _, ok_Sun_cycle F20 er C_Measure_period C_Measure_upto, b20, ⟨a20, beq_iff_eq.mpr u20, k20⟩⟩⟩
  have C_refuse_part : Cal l.prog w K mg base 2 "refuse_part" ["measure", "greatest"] (spRefPt K c_Measure) := ⟨⟨f21, _, ok_refuse_part F21 er C_least_length, b21, k21, PySem.W.mg_of X G a21⟩⟩
  have C_Moon___init__ : CalI l.prog w K mg base CX0 3 "Moon" c_Moon ["self", "start", "days", "many"] (spInitMo K c_Moon c_Measure) := ⟨⟨f22, _, ok_Moon___init__ F22 er C_refuse_part y_LONGEST_MONTH y_MOST_MONTHS, b22, ⟨mk_Moon, a22, beq_iff_eq.mpr u22, kp_Moon⟩, PySem.W.mg_of X G n_Moon⟩⟩
  have C_Moon_year_start : CalM l.prog w K mg base CX0 3 c_Moon "year_start" ["self", "year"] (spMYS K c_Moon c_Measure) := ⟨⟨f23, _, ok_Moon_year_start F23 er C_Measure_upto, b23, ⟨a23, beq_iff_eq.mpr u23, k23⟩⟩⟩
  have C_Moon_year_at : CalM l.prog w K mg base CX0 4 c_Moon "year_at" ["self", "day"] (spMYA K c_Moon c_Measure) := ⟨⟨f24, _, ok_Moon_year_at F24 er C_Measure_seek, b24, ⟨a24, beq_iff_eq.mpr u24, k24⟩⟩⟩
  have C_Moon_lengths : CalM l.prog w K mg base CX0 3 c_Moon "lengths" ["self", "year"] (spMLens K c_Moon c_Measure) := ⟨⟨f25, _, ok_Moon_lengths F25 er C_Measure_upto C_Measure_at y_range, b25, ⟨a25, beq_iff_eq.mpr u25, k25⟩⟩⟩
  have C_Sun_date_of : CalM l.prog w K mg base CX0 5 c_Sun "date_of" ["self", "day"] (spDate K c_Sun c_Moon c_Measure true) := ⟨⟨f26, _, ok_Sun_date_of F26 er C_Sun_year_at C_Sun_year_start C_Sun_lengths, b26, ⟨a26, beq_iff_eq.mpr u26, k26⟩⟩⟩
  have C_Moon_date_of : CalM l.prog w K mg base CX0 5 c_Moon "date_of" ["self", "day"] (spDate K c_Sun c_Moon c_Measure false) := ⟨⟨f27, _, ok_Moon_date_of F27 er C_Moon_year_at C_Moon_year_start C_Moon_lengths, b27, ⟨a27, beq_iff_eq.mpr u27, k27⟩⟩⟩
  have C_Sun_day_of : CalM l.prog w K mg base CX0 4 c_Sun "day_of" ["self", "date"] (spDay K c_Sun c_Moon c_Measure true) := ⟨⟨f28, _, ok_Sun_day_of F28 er C_Sun_lengths C_Sun_year_start y_len y_sum, b28, ⟨a28, beq_iff_eq.mpr u28, k28⟩⟩⟩
  have C_Moon_day_of : CalM l.prog w K mg base CX0 4 c_Moon "day_of" ["self", "date"] (spDay K c_Sun c_Moon c_Measure false) := ⟨⟨f29, _, ok_Moon_day_of F29 er C_Moon_lengths C_Moon_year_start y_len y_sum, b29, ⟨a29, beq_iff_eq.mpr u29, k29⟩⟩⟩
  have C_Moon_cycle : CalM l.prog w K mg base CX0 3 c_Moon "cycle" ["self"] (spMCyc K c_Moon c_Measure) := ⟨⟨f30, _, ok_Moon_cycle F30 er C_Measure_period C_Measure_upto C_divisor, b30, ⟨a30, beq_iff_eq.mpr u30, k30⟩⟩⟩
  have C_is_number : Cal l.prog w K mg base 1 "is_number" ["text"] spIsNum := ⟨⟨f31, _, ok_is_number F31 y_len y_all y_MOST_FIGURES y_FIGURES, b31, k31, PySem.W.mg_of X G a31⟩⟩
  have C_read_number : Cal l.prog w K mg base 2 "read_number" ["text"] spReadN0 := ⟨⟨f32, _, ok_read_number F32 C_is_number y_isinstance y_str y_int, b32, k32, PySem.W.mg_of X G a32⟩⟩
  have C_term_text : Cal l.prog w K mg base 1 "term_text" ["term"] (spTermText K) := ⟨⟨f33, _, ok_term_text F33 y_str, b33, k33, PySem.W.mg_of X G a33⟩⟩
  have C_term_words : Cal l.prog w K mg base 2 "term_words" ["terms"] (spTermWords K) := ⟨⟨f34, _, ok_term_words F34 C_term_text, b34, k34, PySem.W.mg_of X G a34⟩⟩
  have C_Sun_shown : CalM l.prog w K mg base CX0 3 c_Sun "shown" ["self"] (spShowS K c_Sun c_Measure) := ⟨⟨f35, _, ok_Sun_shown F35 er C_term_words y_str y_len, b35, ⟨a35, beq_iff_eq.mpr u35, k35⟩⟩⟩
  have C_Moon_shown : CalM l.prog w K mg base CX0 3 c_Moon "shown" ["self"] (spShowM K c_Moon c_Measure) := ⟨⟨f36, _, ok_Moon_shown F36 er C_term_words y_str, b36, ⟨a36, beq_iff_eq.mpr u36, k36⟩⟩⟩
  have C_is_readable : Cal l.prog w K mg base 1 "is_readable" ["text"] spReadable := ⟨⟨f37, _, ok_is_readable F37 y_isinstance y_str y_len y_MOST_SIGNS, b37, k37, PySem.W.mg_of X G a37⟩⟩
  have C_read_numbers : Cal l.prog w K mg base 3 "read_numbers" ["word"] (spReadNs K) := ⟨⟨f38, _, ok_read_numbers F38 C_read_number, b38, k38, PySem.W.mg_of X G a38⟩⟩
  have C_read_term : Cal l.prog w K mg base 4 "read_term" ["word"] (spReadT K) := ⟨⟨f39, _, ok_read_term F39 C_read_numbers y_len, b39, k39, PySem.W.mg_of X G a39⟩⟩
  have C_read_terms : Cal l.prog w K mg base 5 "read_terms" ["words"] (spReadTs K) := ⟨⟨f40, _, ok_read_terms F40 C_read_term, b40, k40, PySem.W.mg_of X G a40⟩⟩
  have C_read_sun : Cal l.prog w K mg base 9 "read_sun" ["words"] (spReadS K c_Sun c_Measure) := ⟨⟨f41, _, ok_read_sun F41 er C_read_number C_read_numbers C_Sun___init___d2 C_Sun___init__ C_read_terms y_len, b41, k41, PySem.W.mg_of X G a41⟩⟩
  have C_read_moon : Cal l.prog w K mg base 7 "read_moon" ["words"] (spReadM K c_Moon c_Measure) := ⟨⟨f42, _, ok_read_moon F42 er C_read_number C_read_terms C_Moon___init__ C_Measure___init__ y_len, b42, k42, PySem.W.mg_of X G a42⟩⟩
  have C_read_calendar : Cal l.prog w K mg base 10 "read_calendar" ["text"] (spReadC K c_Sun c_Moon c_Measure) := ⟨⟨f43, _, ok_read_calendar F43 C_is_readable C_read_sun C_read_moon, b43, k43, PySem.W.mg_of X G a43⟩⟩
  have C_law_cell_at : Cal l.prog w K mg base 1 "_law_cell_at" ["_law_script", "_law_k"] (spCell K) := ⟨⟨f44, _, ok_law_cell_at F44 y_len, b44, k44, PySem.W.mg_of X G a44⟩⟩
  have C_law_number : Cal l.prog w K mg base 1 "_law_number" ["_law_cell"] spNumB := ⟨⟨f45, _, ok_law_number F45, b45, k45, PySem.W.mg_of X G a45⟩⟩
  have C_law_mixed : Cal l.prog w K mg base 1 "_law_mixed" ["_law_cell", "_law_k"] spMixed := ⟨⟨f46, _, ok_law_mixed F46, b46, k46, PySem.W.mg_of X G a46⟩⟩
  have C_law_term : Cal l.prog w K mg base 2 "_law_term" ["_law_cell", "_law_k", "_law_most"] spTermL := ⟨⟨f47, _, ok_law_term F47 C_law_mixed, b47, k47, PySem.W.mg_of X G a47⟩⟩
  have C_law_terms : Cal l.prog w K mg base 3 "_law_terms" ["_law_cell"] (spTermsL K) := ⟨⟨f48, _, ok_law_terms F48 C_law_term y_range, b48, k48, PySem.W.mg_of X G a48⟩⟩
  have C_law_fallen : Cal l.prog w K mg base 1 "_law_fallen" ["_law_terms_here"] (spFallsL K) := ⟨⟨f49, _, ok_law_fallen F49 y_len, b49, k49, PySem.W.mg_of X G a49⟩⟩
  have C_law_term_text : Cal l.prog w K mg base 1 "_law_term_text" ["_law_term_here"] (spTermTextL K) := ⟨⟨f50, _, ok_law_term_text F50 y_str, b50, k50, PySem.W.mg_of X G a50⟩⟩
  have C_law_terms_text : Cal l.prog w K mg base 2 "_law_terms_text" ["_law_terms_here"] (spTermsTextL K) := ⟨⟨f51, _, ok_law_terms_text F51 C_law_term_text, b51, k51, PySem.W.mg_of X G a51⟩⟩
  have C_law_sun : Cal l.prog w K mg base 9 "_law_sun" ["_law_script", "_law_start"] (spMade72 K c_Sun c_Moon c_Measure true) := ⟨⟨f52, _, ok_law_sun F52 er C_law_terms C_law_cell_at C_law_mixed C_law_fallen C_law_terms_text C_Sun___init__ y_range y_max y_str, b52, k52, PySem.W.mg_of X G a52⟩⟩
  have C_law_base : Cal l.prog w K mg base 2 "_law_base" ["_law_cell", "_law_terms_here", "_law_most"] (spBaseB K) := ⟨⟨f53, _, ok_law_base F53 C_law_fallen y_min, b53, k53, PySem.W.mg_of X G a53⟩⟩
  have C_law_moon : Cal l.prog w K mg base 7 "_law_moon" ["_law_script", "_law_start"] (spMade72 K c_Sun c_Moon c_Measure false) := ⟨⟨f54, _, ok_law_moon F54 er C_law_terms C_law_cell_at C_law_base C_law_terms_text C_Measure___init__ C_Moon___init__ y_str, b54, k54, PySem.W.mg_of X G a54⟩⟩
  have C_law_alike : Cal l.prog w K mg base 6 "_law_alike" ["_law_one", "_law_other", "_law_day"] (spAlike72 K c_Sun c_Moon c_Measure) := ⟨⟨f55, _, ok_law_alike F55 er C_Sun_date_of C_Moon_date_of C_Sun_day_of C_Moon_day_of C_Sun_year_start C_Moon_year_start C_Sun_cycle C_Moon_cycle C_Sun_lengths C_Moon_lengths, b55, k55, PySem.W.mg_of X G a55⟩⟩
  exact ok_law F56 er C_law_number C_law_cell_at C_law_sun C_law_moon C_read_calendar C_Sun_shown C_Moon_shown C_law_alike y_isinstance y_str
end Fw
def PySem.W.Fast.tw13932392259856810627 : Unit := ()
def PySem.W.Fast.tw13657297333352602291 : Unit := ()
def PySem.W.Fast.tw14674513136449975635 : Unit := ()
def PySem.W.Fast.tw5998473308501578151 : Unit := ()
def PySem.W.Fast.tw562288038205218544 : Unit := ()
def PySem.W.Fast.tw12316169287533347885 : Unit := ()
def PySem.W.Fast.tw17702688400866496609 : Unit := ()
def PySem.W.Fast.tw15732858558409816706 : Unit := ()
def PySem.W.Fast.tw10037024328727655247 : Unit := ()
def PySem.W.Fast.tw11725518464950322605 : Unit := ()
def PySem.W.Fast.tw7565269797132282028 : Unit := ()
def PySem.W.Fast.tw6870850273222877390 : Unit := ()
def PySem.W.Fast.tw17325647000090993491 : Unit := ()
open PySem PySem.W PyProof.Rows
set_option maxRecDepth 100000 in
set_option maxHeartbeats 0 in
theorem PySem.Challenge.cw_feastwheel_k72_calendars_as_texts_holds : PySem.Challenge.rw_feastwheel_k72_calendars_as_texts.Holds := by
  w_on; o_law; k_head; (case hw => w_witness2)
  k_fill
  refine L2.walk_ofB (l := PySem.Challenge.rw_feastwheel_k72_calendars_as_texts) (k := 11) rfl rfl ⟨rfl, by decide, by decide, rfl⟩ (fun w h Y => PySem.W.kIn_of Y) ?F
  case F =>
    intro w mg fa h KX G hmg
    refine' Fw.all_mk KX G hmg ?n_FeastError ?n_NoNumber ?n_NoMeasure ?n_NoDate ?n_NoText ?n_Measure ?pg_Measure ?k_Measure ?po_Measure ?sa_Measure ?mk_Measure ?kp_Measure ?na_Measure_base ?na_Measure_terms ?na_Measure_full_count ?na_Measure_full_sum ?n_Sun ?pg_Sun ?k_Sun ?po_Sun ?sa_Sun ?mk_Sun ?kp_Sun ?na_Sun_start ?na_Sun_months ?na_Sun_leap ?na_Sun_years ?n_Moon ?pg_Moon ?k_Moon ?po_Moon ?sa_Moon ?mk_Moon ?kp_Moon ?na_Moon_start ?na_Moon_days ?na_Moon_many ?n_Calendar ?ii_Sun_Calendar ?ca_Sun ?ob_Sun ?ii_Sun_Sun ?ii_Sun_Moon ?ii_Moon_Calendar ?ca_Moon ?ob_Moon ?ii_Moon_Sun ?ii_Moon_Moon ?xsp ?xtk ?a0 ?l0 ?c0 ?k0 ?a1 ?l1 ?c1 ?k1 ?a2 ?l2 ?c2 ?k2 ?a3 ?l3 ?c3 ?k3 ?a4 ?l4 ?c4 ?k4 ?a5 ?l5 ?c5 ?k5 ?a6 ?l6 ?c6 ?k6 ?a7 ?l7 ?c7 ?k7 ?a8 ?l8 ?c8 ?k8 ?a9 ?l9 ?c9 ?k9 ?a10 ?l10 ?c10 ?k10 ?u10 ?a11 ?l11 ?c11 ?k11 ?t11 ?u11 ?a12 ?l12 ?c12 ?k12 ?u12 ?a13 ?l13 ?c13 ?k13 ?u13 ?a14 ?l14 ?c14 ?k14 ?u14 ?a15 ?l15 ?c15 ?k15 ?a16 ?l16 ?c16 ?k16 ?t16 ?u16 ?a17 ?l17 ?c17 ?k17 ?u17 ?a18 ?l18 ?c18 ?k18 ?u18 ?a19 ?l19 ?c19 ?k19 ?u19 ?a20 ?l20 ?c20 ?k20 ?u20 ?a21 ?l21 ?c21 ?k21 ?a22 ?l22 ?c22 ?k22 ?u22 ?a23 ?l23 ?c23 ?k23 ?u23 ?a24 ?l24 ?c24 ?k24 ?u24 ?a25 ?l25 ?c25 ?k25 ?u25 ?a26 ?l26 ?c26 ?k26 ?u26 ?a27 ?l27 ?c27 ?k27 ?u27 ?a28 ?l28 ?c28 ?k28 ?u28 ?a29 ?l29 ?c29 ?k29 ?u29 ?a30 ?l30 ?c30 ?k30 ?u30 ?a31 ?l31 ?c31 ?k31 ?a32 ?l32 ?c32 ?k32 ?a33 ?l33 ?c33 ?k33 ?a34 ?l34 ?c34 ?k34 ?a35 ?l35 ?c35 ?k35 ?u35 ?a36 ?l36 ?c36 ?k36 ?u36 ?a37 ?l37 ?c37 ?k37 ?a38 ?l38 ?c38 ?k38 ?a39 ?l39 ?c39 ?k39 ?a40 ?l40 ?c40 ?k40 ?a41 ?l41 ?c41 ?k41 ?a42 ?l42 ?c42 ?k42 ?a43 ?l43 ?c43 ?k43 ?a44 ?l44 ?c44 ?k44 ?a45 ?l45 ?c45 ?k45 ?a46 ?l46 ?c46 ?k46 ?a47 ?l47 ?c47 ?k47 ?a48 ?l48 ?c48 ?k48 ?a49 ?l49 ?c49 ?k49 ?a50 ?l50 ?c50 ?k50 ?a51 ?l51 ?c51 ?k51 ?a52 ?l52 ?c52 ?k52 ?a53 ?l53 ?c53 ?k53 ?a54 ?l54 ?c54 ?k54 ?a55 ?l55 ?c55 ?k55 ?a56 ?l56 ?c56 ?k56 ?z_sum ?z_len ?z_all ?z_tuple ?z_min ?z_max ?z_list ?z_range ?z_isinstance ?z_str ?z_int ?m_GREATEST_N ?m_GREATEST_BASE ?m_MOST_TERMS ?m_MOST_MONTHS ?m_LONGEST_MONTH ?m_MOST_FIGURES ?m_FIGURES ?m_MOST_SIGNS
    (case n_FeastError => k_is)
    (case n_NoNumber => k_is)
    (case n_NoMeasure => k_is)
    (case n_NoDate => k_is)
    (case n_NoText => k_is)
    (case n_Measure => k_is)
    (case pg_Measure => k_is)
    (case k_Measure => k_is)
    (case po_Measure => k_is)
    (case sa_Measure => k_is)
    (case mk_Measure => k_is)
    (case kp_Measure => k_is)
    (case na_Measure_base => k_is)
    (case na_Measure_terms => k_is)
    (case na_Measure_full_count => k_is)
    (case na_Measure_full_sum => k_is)
    (case n_Sun => k_is)
    (case pg_Sun => k_is)
    (case k_Sun => k_is)
    (case po_Sun => k_is)
    (case sa_Sun => k_is)
    (case mk_Sun => k_is)
    (case kp_Sun => k_is)
    (case na_Sun_start => k_is)
    (case na_Sun_months => k_is)
    (case na_Sun_leap => k_is)
    (case na_Sun_years => k_is)
    (case n_Moon => k_is)
    (case pg_Moon => k_is)
    (case k_Moon => k_is)
    (case po_Moon => k_is)
    (case sa_Moon => k_is)
    (case mk_Moon => k_is)
    (case kp_Moon => k_is)
    (case na_Moon_start => k_is)
    (case na_Moon_days => k_is)
    (case na_Moon_many => k_is)
    (case n_Calendar => k_is)
    (case ii_Sun_Calendar => kit_is)
    (case ca_Sun => k_is)
    (case ob_Sun => k_is)
    (case ii_Sun_Sun => kit_is)
    (case ii_Sun_Moon => kit_is)
    (case ii_Moon_Calendar => kit_is)
    (case ca_Moon => k_is)
    (case ob_Moon => k_is)
    (case ii_Moon_Sun => kit_is)
    (case ii_Moon_Moon => kit_is)
    (case xsp => k_is)
    (case xtk => k_is)
    (case a0 => k_is)
    (case l0 => k_is)
    (case c0 => k_is)
    (case k0 => k_is)
    (case a1 => k_is)
    (case l1 => k_is)
    (case c1 => k_is)
    (case k1 => k_is)
    (case a2 => k_is)
    (case l2 => k_is)
    (case c2 => k_is)
    (case k2 => k_is)
    (case a3 => k_is)
    (case l3 => k_is)
    (case c3 => k_is)
    (case k3 => k_is)
    (case a4 => k_is)
    (case l4 => k_is)
    (case c4 => k_is)
    (case k4 => k_is)
    (case a5 => k_is)
    (case l5 => k_is)
    (case c5 => k_is)
    (case k5 => k_is)
    (case a6 => k_is)
    (case l6 => k_is)
    (case c6 => k_is)
    (case k6 => k_is)
    (case a7 => k_is)
    (case l7 => k_is)
    (case c7 => k_is)
    (case k7 => k_is)
    (case a8 => k_is)
    (case l8 => k_is)
    (case c8 => k_is)
    (case k8 => k_is)
    (case a9 => k_is)
    (case l9 => k_is)
    (case c9 => k_is)
    (case k9 => k_is)
    (case a10 => k_is)
    (case l10 => k_is)
    (case c10 => k_is)
    (case k10 => k_is)
    (case u10 => k_is)
    (case a11 => k_is)
    (case l11 => k_is)
    (case c11 => k_is)
    (case k11 => k_is)
    (case t11 => k_is)
    (case u11 => k_is)
    (case a12 => k_is)
    (case l12 => k_is)
    (case c12 => k_is)
    (case k12 => k_is)
    (case u12 => k_is)
    (case a13 => k_is)
    (case l13 => k_is)
    (case c13 => k_is)
    (case k13 => k_is)
    (case u13 => k_is)
    (case a14 => k_is)
    (case l14 => k_is)
    (case c14 => k_is)
    (case k14 => k_is)
    (case u14 => k_is)
    (case a15 => k_is)
    (case l15 => k_is)
    (case c15 => k_is)
    (case k15 => k_is)
    (case a16 => k_is)
    (case l16 => k_is)
    (case c16 => k_is)
    (case k16 => k_is)
    (case t16 => k_is)
    (case u16 => k_is)
    (case a17 => k_is)
    (case l17 => k_is)
    (case c17 => k_is)
    (case k17 => k_is)
    (case u17 => k_is)
    (case a18 => k_is)
    (case l18 => k_is)
    (case c18 => k_is)
    (case k18 => k_is)
    (case u18 => k_is)
    (case a19 => k_is)
    (case l19 => k_is)
    (case c19 => k_is)
    (case k19 => k_is)
    (case u19 => k_is)
    (case a20 => k_is)
    (case l20 => k_is)
    (case c20 => k_is)
    (case k20 => k_is)
    (case u20 => k_is)
    (case a21 => k_is)
    (case l21 => k_is)
    (case c21 => k_is)
    (case k21 => k_is)
    (case a22 => k_is)
    (case l22 => k_is)
    (case c22 => k_is)
    (case k22 => k_is)
    (case u22 => k_is)
    (case a23 => k_is)
    (case l23 => k_is)
    (case c23 => k_is)
    (case k23 => k_is)
    (case u23 => k_is)
    (case a24 => k_is)
    (case l24 => k_is)
    (case c24 => k_is)
    (case k24 => k_is)
    (case u24 => k_is)
    (case a25 => k_is)
    (case l25 => k_is)
    (case c25 => k_is)
    (case k25 => k_is)
    (case u25 => k_is)
    (case a26 => k_is)
    (case l26 => k_is)
    (case c26 => k_is)
    (case k26 => k_is)
    (case u26 => k_is)
    (case a27 => k_is)
    (case l27 => k_is)
    (case c27 => k_is)
    (case k27 => k_is)
    (case u27 => k_is)
    (case a28 => k_is)
    (case l28 => k_is)
    (case c28 => k_is)
    (case k28 => k_is)
    (case u28 => k_is)
    (case a29 => k_is)
    (case l29 => k_is)
    (case c29 => k_is)
    (case k29 => k_is)
    (case u29 => k_is)
    (case a30 => k_is)
    (case l30 => k_is)
    (case c30 => k_is)
    (case k30 => k_is)
    (case u30 => k_is)
    (case a31 => k_is)
    (case l31 => k_is)
    (case c31 => k_is)
    (case k31 => k_is)
    (case a32 => k_is)
    (case l32 => k_is)
    (case c32 => k_is)
    (case k32 => k_is)
    (case a33 => k_is)
    (case l33 => k_is)
    (case c33 => k_is)
    (case k33 => k_is)
    (case a34 => k_is)
    (case l34 => k_is)
    (case c34 => k_is)
    (case k34 => k_is)
    (case a35 => k_is)
    (case l35 => k_is)
    (case c35 => k_is)
    (case k35 => k_is)
    (case u35 => k_is)
    (case a36 => k_is)
    (case l36 => k_is)
    (case c36 => k_is)
    (case k36 => k_is)
    (case u36 => k_is)
    (case a37 => k_is)
    (case l37 => k_is)
    (case c37 => k_is)
    (case k37 => k_is)
    (case a38 => k_is)
    (case l38 => k_is)
    (case c38 => k_is)
    (case k38 => k_is)
    (case a39 => k_is)
    (case l39 => k_is)
    (case c39 => k_is)
    (case k39 => k_is)
    (case a40 => k_is)
    (case l40 => k_is)
    (case c40 => k_is)
    (case k40 => k_is)
    (case a41 => k_is)
    (case l41 => k_is)
    (case c41 => k_is)
    (case k41 => k_is)
    (case a42 => k_is)
    (case l42 => k_is)
    (case c42 => k_is)
    (case k42 => k_is)
    (case a43 => k_is)
    (case l43 => k_is)
    (case c43 => k_is)
    (case k43 => k_is)
    (case a44 => k_is)
    (case l44 => k_is)
    (case c44 => k_is)
    (case k44 => k_is)
    (case a45 => k_is)
    (case l45 => k_is)
    (case c45 => k_is)
    (case k45 => k_is)
    (case a46 => k_is)
    (case l46 => k_is)
    (case c46 => k_is)
    (case k46 => k_is)
    (case a47 => k_is)
    (case l47 => k_is)
    (case c47 => k_is)
    (case k47 => k_is)
    (case a48 => k_is)
    (case l48 => k_is)
    (case c48 => k_is)
    (case k48 => k_is)
    (case a49 => k_is)
    (case l49 => k_is)
    (case c49 => k_is)
    (case k49 => k_is)
    (case a50 => k_is)
    (case l50 => k_is)
    (case c50 => k_is)
    (case k50 => k_is)
    (case a51 => k_is)
    (case l51 => k_is)
    (case c51 => k_is)
    (case k51 => k_is)
    (case a52 => k_is)
    (case l52 => k_is)
    (case c52 => k_is)
    (case k52 => k_is)
    (case a53 => k_is)
    (case l53 => k_is)
    (case c53 => k_is)
    (case k53 => k_is)
    (case a54 => k_is)
    (case l54 => k_is)
    (case c54 => k_is)
    (case k54 => k_is)
    (case a55 => k_is)
    (case l55 => k_is)
    (case c55 => k_is)
    (case k55 => k_is)
    (case a56 => k_is)
    (case l56 => k_is)
    (case c56 => k_is)
    (case k56 => k_is)
    (case z_sum => k_is)
    (case z_len => k_is)
    (case z_all => k_is)
    (case z_tuple => k_is)
    (case z_min => k_is)
    (case z_max => k_is)
    (case z_list => k_is)
    (case z_range => k_is)
    (case z_isinstance => k_is)
    (case z_str => k_is)
    (case z_int => k_is)
    (case m_GREATEST_N => k_is)
    (case m_GREATEST_BASE => k_is)
    (case m_MOST_TERMS => k_is)
    (case m_MOST_MONTHS => k_is)
    (case m_LONGEST_MONTH => k_is)
    (case m_MOST_FIGURES => k_is)
    (case m_FIGURES => k_is)
    (case m_MOST_SIGNS => k_is)
#print axioms PySem.Challenge.cw_feastwheel_k72_calendars_as_texts_holds


