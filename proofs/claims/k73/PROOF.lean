import PyProof.Rows.All
import Wide.All
import OpenK.AllK
import Wide.FinOn
import Lean
import PyProof.EqAt
import PyProof.EqKinds
import PyProof.TupleCall
import PySem.Challenge.RW_feastwheel_k73_calendar_texts_refused
set_option Elab.async false
set_option linter.all false
set_option maxRecDepth 100000
namespace L2
open PySem PySem.Spec PyProof.Rows

/-- a key: an int or a str -/
abbrev Key := Sum Int Str
def keyIs : Key → Value → Bool
  | .inl k, v => Value.isInt k v
  | .inr x, v => Value.isStrOf x v
def keyH (w : World) : Key → Int
  | .inl k => hashInt k
  | .inr x => hashStr w x
theorem keyIs_shape : ∀ {k : Key} {v : Value}, keyIs k v = true → (∃ i t, k = Sum.inl i ∧ v = Value.int i t) ∨ (∃ x t, k = Sum.inr x ∧ v = Value.str x t)
  | .inl i, v, h => by
    obtain ⟨t, e⟩ := Value.isInt_shape (k := i) (v := v) h
    exact .inl ⟨i, t, rfl, e⟩
  | .inr x, v, h => by
    obtain ⟨t, e⟩ := Value.isStrOf_shape (x := x) (v := v) h
    exact .inr ⟨x, t, rfl, e⟩
theorem key_ll (a b : Int) : decide ((Sum.inl a : Key) = Sum.inl b) = (a == b) := by
  by_cases e : a = b
  · subst e; simp
  · have h : ¬ (Sum.inl a : Key) = Sum.inl b := fun q => e (Sum.inl.inj q)
    rw [decide_eq_false h]
    exact (beq_eq_false_iff_ne.mpr e).symm
theorem key_rr (a b : Str) : decide ((Sum.inr a : Key) = Sum.inr b) = decide (a = b) := by
  by_cases e : a = b
  · subst e; simp
  · have h : ¬ (Sum.inr a : Key) = Sum.inr b := fun q => e (Sum.inr.inj q)
    rw [decide_eq_false h, decide_eq_false e]
theorem key_lr (a : Int) (b : Str) : decide ((Sum.inl a : Key) = Sum.inr b) = false := decide_eq_false (fun q => nomatch q)
theorem key_rl (a : Str) (b : Int) : decide ((Sum.inr a : Key) = Sum.inl b) = false := decide_eq_false (fun q => nomatch q)

def mixKind (prog : Program) (w : World) : PySem.KeyKind prog w Key where
  is := keyIs
  hash := keyH w
  inj := fun v a b ha hb => by
    rcases keyIs_shape ha with ⟨i, t, rfl, rfl⟩ | ⟨x, t, rfl, rfl⟩
    · rcases keyIs_shape hb with ⟨j, u, rfl, e⟩ | ⟨y, u, rfl, e⟩
      · injection e with e1 _; rw [e1]
      · exact nomatch e
    · rcases keyIs_shape hb with ⟨j, u, rfl, e⟩ | ⟨y, u, rfl, e⟩
      · exact nomatch e
      · injection e with e1 _; rw [e1]
  byValue := fun k v h => by
    rcases keyIs_shape h with ⟨i, t, rfl, rfl⟩ | ⟨x, t, rfl, rfl⟩ <;> rfl
  pyHash := fun hv h => by
    rcases keyIs_shape hv with ⟨i, t, rfl, rfl⟩ | ⟨x, t, rfl, rfl⟩
    · exact wpAny_pyHash_int h
    · exact wpAny_pyHash_str h
  eqBool := fun hu hv h => by
    rcases keyIs_shape hu with ⟨i, t, rfl, rfl⟩ | ⟨x, t, rfl, rfl⟩
    · rcases keyIs_shape hv with ⟨j, u, rfl, rfl⟩ | ⟨y, u, rfl, rfl⟩
      · rw [key_ll] at h; exact wpAny_eqBool_int h
      · rw [key_lr] at h; exact SeqAt.EqAt.int_str i t y u _ _ _ _ h
    · rcases keyIs_shape hv with ⟨j, u, rfl, rfl⟩ | ⟨y, u, rfl, rfl⟩
      · rw [key_rl] at h; exact SeqAt.EqAt.str_int x t j u _ _ _ _ h
      · rw [key_rr] at h; exact wpAny_eqBool_str h
  «strs» := fun k x t v h => by
    rcases keyIs_shape h with ⟨i, u, rfl, e⟩ | ⟨y, u, rfl, e⟩
    · exact nomatch e
    · injection e with e1 _
      subst e1
      cases v <;> rfl

end L2

namespace L2
open PySem PySem.Spec PyProof.Rows

/-- a value, without the heap -/
inductive V where
  | non | bl (b : Bool) | int (i : Int) | str (x : Str) | byt (b : Array UInt8) | flt (b : UInt64) | ref (a : Addr) | ty (n : String)
  deriving DecidableEq

def RelV : V → Value → Prop
  | .non, u => u = Value.none
  | .bl b, u => u = Value.bool b
  | .int i, u => ∃ t, u = Value.int i t
  | .str x, u => ∃ t, u = Value.str x t
  | .byt b, u => ∃ t, u = Value.bytes b t
  | .flt b, u => ∃ t, u = Value.float b t
  | .ref a, u => u = Value.ref a
  | .ty n, u => u = Value.type n

abbrev Vals : List V → List Value → Prop := Paired RelV
theorem Vals.length {xs : List V} {us : List Value} (r : Vals xs us) : xs.length = us.length := Paired.length r
theorem Vals.get : ∀ {xs : List V} {us : List Value} {i : Nat} {x : V}, Vals xs us → xs[i]? = some x → ∃ u, us[i]? = some u ∧ RelV x u
  | _, _, _, _, .nil, e => by simp at e
  | _, _, 0, _, .cons r _, e => by simp at e; subst e; exact ⟨_, rfl, r⟩
  | _, _, i + 1, x, .cons _ t, e => by
    obtain ⟨u, h1, h2⟩ := Vals.get (i := i) (x := x) t (by simpa using e)
    exact ⟨u, by simpa using h1, h2⟩
theorem Vals.set {x : V} {u : Value} (r : RelV x u) : ∀ {xs : List V} {us : List Value} (i : Nat), Vals xs us → Vals (xs.set i x) (us.set i u)
  | _, _, _, .nil => .nil
  | _, _, 0, .cons _ t => .cons r t
  | _, _, i + 1, .cons q t => .cons q (Vals.set r i t)
theorem Vals.append : ∀ {xs ys : List V} {us ws : List Value}, Vals xs us → Vals ys ws → Vals (xs ++ ys) (us ++ ws)
  | _, _, _, _, .nil, s => s
  | _, _, _, _, .cons r t, s => .cons r (Vals.append t s)
theorem Vals.take : ∀ {xs : List V} {us : List Value} (n : Nat), Vals xs us → Vals (xs.take n) (us.take n)
  | _, _, 0, _ => .nil
  | _, _, _ + 1, .nil => .nil
  | _, _, n + 1, .cons r t => .cons r (Vals.take n t)
theorem Vals.drop : ∀ {xs : List V} {us : List Value} (n : Nat), Vals xs us → Vals (xs.drop n) (us.drop n)
  | _, _, 0, r => r
  | _, _, _ + 1, .nil => .nil
  | _, _, n + 1, .cons _ t => Vals.drop n t
theorem Vals.none_of : ∀ {xs : List V} {us : List Value} {i : Nat}, Vals xs us → xs[i]? = none → us[i]? = none := fun {xs us i} r e => by
  have h1 := r.length
  have h2 : xs.length ≤ i := List.getElem?_eq_none_iff.mp e
  exact List.getElem?_eq_none_iff.mpr (by omega)

def RelO : Option V → Option Value → Prop
  | some v, some u => RelV v u
  | none, none => True
  | _, _ => False
def KV {κ : Type} : List (κ × V) → List (κ × Value) → Prop := Paired fun (p : κ × V) (q : κ × Value) => p.1 = q.1 ∧ RelV p.2 q.2

/-- a key of a dict (00_mix): an int or a text -/
def kV : Key → V
  | .inl i => .int i
  | .inr x => .str x

/-- what stands at a tracked address -/
inductive HO where
  /-- a list -/
  | lst (xs : List V)
  /-- a tuple (never changes) -/
  | tup (xs : List V)
  /-- a dict whose keys are ints and texts; one whose keys are tuples of ints and texts (the empty one is both) -/
  | dK (kvs : List (Key × V)) | dT (kvs : List (List Key × V))
  /-- a set of ints: its members, its size -/
  | set (S : Int → Bool) (n : Nat)
  /-- an instance of the class at C, its dict at dx, its attributes -/
  | ins (C dx : Addr) (fs : List (Str × V))
  /-- the dict of the instance at x -/
  | own (x : Addr)
  /-- the dict of an exception -/
  | xd (fs : List (Str × V))
  /-- a bound method, f of x -/
  | met (f x : Addr)
  /-- a range object lo, lo + 1, .. below hi -/
  | rng (lo hi : Int)
  /-- a thing that is known to the object (the script; a dict while a loop walks it): read, never written while it is so -/
  | frz (o : Obj) (u : HO)
  /-- a code object's table -/
  | tbl (ps : Array Value)
  /-- any other thing, by what is true of its one object (a def of one's own: SetO a S n := HO.ext fun h => ..) -/
  | ext (φ : Heap → Prop)

abbrev Hp := Addr → Option HO
def upd (H : Hp) (a : Addr) (o : HO) : Hp := fun b => if b = a then some o else H b
theorem upd_same {H : Hp} {a : Addr} {o : HO} : upd H a o a = some o := by unfold upd; rw [if_pos rfl]
theorem upd_ne {H : Hp} {a b : Addr} {o : HO} (h : b ≠ a) : upd H a o b = H b := by unfold upd; rw [if_neg h]
theorem upd_upd {H : Hp} {a : Addr} {o u : HO} : upd (upd H a o) a u = upd H a u := by
  funext b; unfold upd; split <;> rfl
/-- two objects of different content stand apart -/
theorem ne_of {H : Hp} {a b : Addr} {o u : HO} (h : H a = some o) (h' : H b = some u) (d : o ≠ u) : a ≠ b := by
  intro e; subst e; rw [h] at h'; exact d (Option.some.inj h')
theorem ne_of_none {H : Hp} {a b : Addr} {o : HO} (h : H a = some o) (h' : H b = none) : a ≠ b := by
  intro e; subst e; rw [h] at h'; cases h'

section
variable (P : Program) (w : World)
def ObjOk (H : Hp) (h : Heap) (a : Addr) : HO → Prop
  | .lst xs => xs.length ≤ sizeLine ∧ ∃ (its : List Value) (n : Nat), Vals xs its ∧ h.get? a = some { cls := .type "list", data := .seq its.toArray n }
  | .tup xs => xs.length ≤ sizeLine ∧ ∃ its : List Value, Vals xs its ∧ IsTup h a its.toArray
  | .dK kvs => kvs.length ≤ sizeLine ∧ (a == sysModules) = false ∧ ∃ vs, KV kvs vs ∧ h.DictOf (mixKind P w) a vs
  | .dT kvs => kvs.length ≤ sizeLine ∧ (a == sysModules) = false ∧ ∃ xs : List (List Key × Addr × Value),
      Paired (fun (p : List Key × V) (q : List Key × Addr × Value) => p.1 = q.1 ∧ H q.2.1 = some (.tup (p.1.map kV)) ∧ RelV p.2 q.2.2) kvs xs ∧
      ∃ o es ep, h.get? a = some o ∧ o.ExactDict ∧ o.data = .dict es ep ∧ es.toList = xs.map (entryOfKey (tupleKind (mixKind P w))) ∧ (xs.map (·.1)).Nodup
  | .set S n => h.SetOf (intKind P w) a S n
  | .ins C dx fs => H dx = some (.own a) ∧ fs.length ≤ 1000 ∧ dx ≠ a ∧ h.get? a = some (PySem.W.instObj C dx) ∧
      ∃ mA, h.Ns1 dx mA ∧ (∀ f, RelO (fs.lookup f) (mA f)) ∧ PySem.Within mA (fs.map (·.1))
  | .own _ => ∃ o, h.get? a = some o
  | .xd fs => ∃ mA, h.Ns1 a mA ∧ ∀ f, RelO (fs.lookup f) (mA f)
  | .rng lo hi => ∃ t u v, h.get? a = some { cls := .type "range", data := .fields #[.int lo t, .int hi u, .int 1 v] }
  | .frz o u => h.get? a = some o ∧ ObjOk H h a u
  | .tbl ps => h.get? a = some { cls := .none, data := .fields ps }
  | .met f x => h.get? a = some (PySem.W.methodObj (.ref f) (.ref x))
  | .ext φ => φ h ∧ (∃ o, h.get? a = some o) ∧ ∀ h1 h2 : Heap, φ h1 → (∀ o, h1.get? a = some o → h2.get? a = some o) → φ h2
/-- the abstract heap is held -/
def HOk (H : Hp) (h : Heap) : Prop := ∀ a o, H a = some o → ObjOk P w H h a o
end

section
variable {P : Program} {w : World} {H H' : Hp} {h h' : Heap} {a : Addr} {o : HO}
theorem ObjOk.lt (x : ObjOk P w H h a o) : a < h.objs.size := by
  cases o with
  | lst xs => obtain ⟨_, _, _, _, e⟩ := x; exact Heap.lt_size e
  | tup xs => obtain ⟨_, _, _, p⟩ := x; exact p.lt
  | dK kvs => obtain ⟨_, _, _, _, o, _, _, e, _⟩ := x; exact Heap.lt_size e
  | dT kvs => obtain ⟨_, _, _, _, o, _, _, e, _⟩ := x; exact Heap.lt_size e
  | set S n => obtain ⟨o, _, _, _, e, _⟩ := x; exact Heap.lt_size e
  | ins C dx fs => obtain ⟨_, _, _, e, _⟩ := x; exact Heap.lt_size e
  | own y => obtain ⟨_, e⟩ := x; exact Heap.lt_size e
  | xd fs => obtain ⟨_, ⟨_, _, _, e, _⟩, _⟩ := x; exact Heap.lt_size e
  | rng lo hi => obtain ⟨_, _, _, e⟩ := x; exact Heap.lt_size e
  | frz ob u => obtain ⟨e, _⟩ := x; exact Heap.lt_size e
  | tbl ps => exact Heap.lt_size (show h.get? a = some _ from x)
  | met f y => exact Heap.lt_size (show h.get? a = some _ from x)
  | ext φ => obtain ⟨_, ⟨_, e⟩, _⟩ := x; exact Heap.lt_size e
theorem Paired.mapP {α β : Type} {F G : α → β → Prop} : ∀ {l₁ : List α} {l₂ : List β}, Paired F l₁ l₂ → (∀ a b, F a b → G a b) → Paired G l₁ l₂
  | _, _, .nil, _ => .nil
  | _, _, .cons r t, f => .cons (f _ _ r) (Paired.mapP t f)
/-- what an object's description leans on: its own object, its own dict, the tuples -/
theorem ObjOk.stay (x : ObjOk P w H h a o) (k : ∀ b u, (b = a ∨ H b = some (.own a)) → h.get? b = some u → h'.get? b = some u)
    (ho : ∀ b, H b = some (.own a) → H' b = some (.own a)) (ht : ∀ b xs, H b = some (.tup xs) → H' b = some (.tup xs)) : ObjOk P w H' h' a o := by
  induction o with
  | lst xs => obtain ⟨z, its, n, r, e⟩ := x; exact ⟨z, its, n, r, k _ _ (.inl rfl) e⟩
  | tup xs => obtain ⟨z, its, r, ob, e, c⟩ := x; exact ⟨z, its, r, ob, k _ _ (.inl rfl) e, c⟩
  | dK kvs => obtain ⟨z, y, vs, r, ob, es, ep, e, c⟩ := x; exact ⟨z, y, vs, r, ob, es, ep, k _ _ (.inl rfl) e, c⟩
  | dT kvs =>
    obtain ⟨z, y, xs, r, ob, es, ep, e, c⟩ := x
    exact ⟨z, y, xs, Paired.mapP r fun p q z => ⟨z.1, ht _ _ z.2.1, z.2.2⟩, ob, es, ep, k _ _ (.inl rfl) e, c⟩
  | set S n => obtain ⟨ob, es, ep, t, e, c⟩ := x; exact ⟨ob, es, ep, t, k _ _ (.inl rfl) e, c⟩
  | ins C dx fs =>
    obtain ⟨d, z, ne, e, mA, ⟨od, es, ep, e2, c⟩, r⟩ := x
    exact ⟨ho _ d, z, ne, k _ _ (.inl rfl) e, mA, ⟨od, es, ep, k _ _ (.inr d) e2, c⟩, r⟩
  | own y => obtain ⟨ob, e⟩ := x; exact ⟨ob, k _ _ (.inl rfl) e⟩
  | xd fs => obtain ⟨mA, ⟨od, es, ep, e, c⟩, r⟩ := x; exact ⟨mA, ⟨od, es, ep, k _ _ (.inl rfl) e, c⟩, r⟩
  | rng lo hi => obtain ⟨t, u, v, e⟩ := x; exact ⟨t, u, v, k _ _ (.inl rfl) e⟩
  | frz ob u ih => obtain ⟨e, q⟩ := x; exact ⟨k _ _ (.inl rfl) e, ih q⟩
  | tbl ps =>
    have e : h.get? a = some { cls := .none, data := .fields ps } := x
    show h'.get? a = some { cls := .none, data := .fields ps }
    exact k a _ (.inl rfl) e
  | met f y =>
    have e : h.get? a = some (PySem.W.methodObj (.ref f) (.ref y)) := x
    show h'.get? a = some (PySem.W.methodObj (.ref f) (.ref y))
    exact k a _ (.inl rfl) e
  | ext φ => obtain ⟨p, ⟨o, e⟩, st⟩ := x; exact ⟨st _ _ p fun o q => k _ _ (.inl rfl) q, ⟨o, k _ _ (.inl rfl) e⟩, st⟩
theorem HOk.lt (x : HOk P w H h) (e : H a = some o) : a < h.objs.size := (x a o e).lt
theorem HOk.fresh (x : HOk P w H h) (e : h.objs.size ≤ a) : H a = none := by
  cases q : H a with
  | none => rfl
  | some u => exact absurd (Nat.lt_of_lt_of_le (x.lt q) e) (Nat.lt_irrefl _)
/-- every object of the heap is kept -/
theorem HOk.kept (x : HOk P w H h) (k : ∀ b u, h.get? b = some u → h'.get? b = some u) : HOk P w H h' := fun a o e =>
  (x a o e).stay (fun b u _ q => k b u q) (fun _ q => q) fun _ _ q => q
/-- a new object is laid and tracked -/
theorem HOk.laid (x : HOk P w H h) (k : ∀ b u, h.get? b = some u → h'.get? b = some u) (hp : h.objs.size ≤ a) (new : ObjOk P w (upd H a o) h' a o) : HOk P w (upd H a o) h' := fun b u e => by
  have hn := x.fresh hp
  by_cases hb : b = a
  · subst hb; rw [upd_same] at e; cases e; exact new
  · rw [upd_ne hb] at e
    exact (x b u e).stay (fun c v _ q => k c v q) (fun c q => by rw [upd_ne (ne_of_none q hn)]; exact q) fun c xs q => by rw [upd_ne (ne_of_none q hn)]; exact q
end

/-- what may be read as u: it is u, or a known u -/
def Rd (H : Hp) (a : Addr) (u : HO) : Prop := H a = some u ∨ ∃ o, H a = some (.frz o u)
theorem Rd.of {H : Hp} {a : Addr} {u : HO} (h : H a = some u) : Rd H a u := .inl h
theorem Rd.ok {P : Program} {w : World} {H : Hp} {h : Heap} {a : Addr} {u : HO} (r : Rd H a u) (x : HOk P w H h) : ObjOk P w H h a u := by
  rcases r with r | ⟨o, r⟩
  · exact x a u r
  · obtain ⟨_, q⟩ := x a _ r
    exact q
/-- what may be written -/
def Mut : Option HO → Prop
  | some (.lst _) => True
  | some (.dK _) => True
  | some (.dT _) => True
  | some (.set _ _) => True
  | some (.ins _ _ _) => True
  | some (.ext _) => True
  | _ => False
section
variable {P : Program} {w : World} {H : Hp} {h h' : Heap} {x e : Addr} {o' : HO}
/-- the object at e is changed: x itself, or the dict of the instance x -/
theorem HOk.write (ok : HOk P w H h) (mu : Mut (H x)) (he : e = x ∨ H e = some (.own x)) (k : ∀ b u, b ≠ e → h.get? b = some u → h'.get? b = some u) (heo : ∃ u, h'.get? e = some u)
    (new : ObjOk P w (upd H x o') h' x o') : HOk P w (upd H x o') h' := fun b u q => by
  have nown : ∀ c y, H c = some (.own y) → c ≠ x := fun c y r z => by subst z; rw [r] at mu; exact mu
  have ntup : ∀ c xs, H c = some (.tup xs) → c ≠ x := fun c xs r z => by subst z; rw [r] at mu; exact mu
  by_cases hb : b = x
  · subst hb; rw [upd_same] at q; cases q; exact new
  · rw [upd_ne hb] at q
    by_cases hbe : b = e
    · have q' : H b = some (.own x) := by
        rcases he with z | z
        · exact absurd (hbe.trans z) hb
        · rw [hbe]; exact z
      rw [q] at q'; cases q'
      obtain ⟨v, hv⟩ := heo
      exact ⟨v, by rw [hbe]; exact hv⟩
    · refine (ok b u q).stay (fun c v hc r => k c v ?_ r) (fun c r => by rw [upd_ne (nown c b r)]; exact r) fun c xs r => by rw [upd_ne (ntup c xs r)]; exact r
      rcases hc with rfl | hc
      · exact hbe
      · rintro rfl
        rcases he with z | z
        · exact nown c b hc z
        · rw [hc] at z; cases z; exact hb rfl
end

structure Un (fs ex : List Addr) (H H' : Hp) (h h' : Heap) : Prop where
  keep : ∀ b o, h.get? b = some o → H b = none → b ∉ fs → b ∉ ex → h'.get? b = some o
  slot : ∀ b o, h.get? b = some o → H b = none → b ∈ fs → b ∉ ex → ∃ sl, h'.get? b = some { o with slots := sl }
  free : ∀ b o, h.get? b = some o → H b = none → b ∉ ex → H' b = none
  there : ∀ b o, h.get? b = some o → b ∉ ex → ∃ o', h'.get? b = some o'
  tups : ∀ b xs, H b = some (.tup xs) → H' b = some (.tup xs)
  frzs : ∀ b o u, H b = some (.frz o u) → H' b = some (.frz o u)
  tbls : ∀ b ps, H b = some (.tbl ps) → ∃ more, H' b = some (.tbl (ps ++ more))
section
variable {fs fs' ex ex' : List Addr} {H H1 H2 : Hp} {h h1 h2 h' : Heap} {a x e : Addr} {o : HO}
theorem Un.any (u : Un fs ex H H1 h h1) {b : Addr} {ob : Obj} (q : h.get? b = some ob) (n : H b = none) (hx : b ∉ ex) : ∃ sl, h1.get? b = some { ob with slots := sl } := by
  by_cases hb : b ∈ fs
  · exact u.slot b ob q n hb hx
  · exact ⟨ob.slots, u.keep b ob q n hb hx⟩
theorem Un.trans (a : Un fs ex H H1 h h1) (b : Un fs ex H1 H2 h1 h2) : Un fs ex H H2 h h2 where
  keep := fun c ob q n hc hx => b.keep c ob (a.keep c ob q n hc hx) (a.free c ob q n hx) hc hx
  slot := fun c ob q n hc hx => by
    obtain ⟨sl, e1⟩ := a.slot c ob q n hc hx
    obtain ⟨sl', e2⟩ := b.slot c _ e1 (a.free c ob q n hx) hc hx
    exact ⟨sl', e2⟩
  free := fun c ob q n hx => by
    obtain ⟨o', e1⟩ := a.there c ob q hx
    exact b.free c o' e1 (a.free c ob q n hx) hx
  there := fun c ob q hx => by
    obtain ⟨o', e1⟩ := a.there c ob q hx
    exact b.there c o' e1 hx
  tups := fun c xs q => b.tups c xs (a.tups c xs q)
  frzs := fun c ob xs q => b.frzs c ob xs (a.frzs c ob xs q)
  tbls := fun c ps q => by
    obtain ⟨m1, e1⟩ := a.tbls c ps q
    obtain ⟨m2, e2⟩ := b.tbls c _ e1
    exact ⟨m1 ++ m2, by rw [e2, Array.append_assoc]⟩
theorem Un.kept (k : ∀ b u, h.get? b = some u → h'.get? b = some u) : Un fs ex H H h h' :=
  ⟨fun b ob q _ _ _ => k b ob q, fun b ob q _ _ _ => ⟨ob.slots, k b ob q⟩, fun _ _ _ n _ => n, fun b ob q _ => ⟨ob, k b ob q⟩, fun _ _ q => q, fun _ _ _ q => q, fun _ ps q => ⟨#[], by rw [q]; simp⟩⟩
theorem Un.refl : Un fs ex H H h h := Un.kept fun _ _ q => q
theorem Un.laid (k : ∀ b u, h.get? b = some u → h'.get? b = some u) (hp : h.objs.size ≤ a) (hn : H a = none) : Un fs ex H (upd H a o) h h' where
  keep := fun b u q _ _ _ => k b u q
  slot := fun b u q _ _ _ => ⟨u.slots, k b u q⟩
  free := fun b u q n _ => by rw [upd_ne (Nat.ne_of_lt (Nat.lt_of_lt_of_le (Heap.lt_size q) hp))]; exact n
  there := fun b u q _ => ⟨u, k b u q⟩
  tups := fun b xs q => by rw [upd_ne (ne_of_none q hn)]; exact q
  frzs := fun b u xs q => by rw [upd_ne (ne_of_none q hn)]; exact q
  tbls := fun b ps q => ⟨#[], by rw [upd_ne (ne_of_none q hn), q]; simp⟩
theorem Un.write (mu : Mut (H x)) (he : e = x ∨ H e = some (.own x)) (k : ∀ b u, b ≠ e → h.get? b = some u → h'.get? b = some u) (heo : ∃ u, h'.get? e = some u) : Un fs ex H (upd H x o) h h' := by
  have hx : ∀ b, H b = none → b ≠ x := fun b n z => by subst z; rw [n] at mu; exact mu
  have hb : ∀ b, H b = none → b ≠ e := fun b n z => by
    subst z
    rcases he with r | r
    · exact hx b n r
    · rw [n] at r; cases r
  have hm : ∀ b u, H b = some u → ¬ Mut (some u) → b ≠ x := fun b u q nm z => by subst z; rw [q] at mu; exact nm mu
  refine ⟨fun b u q n _ _ => k b u (hb b n) q, fun b u q n _ _ => ⟨u.slots, k b u (hb b n) q⟩, fun b u q n _ => by rw [upd_ne (hx b n)]; exact n, fun b u q _ => ?_,
    fun b xs q => by rw [upd_ne (hm b _ q fun z => z)]; exact q, fun b u xs q => by rw [upd_ne (hm b _ q fun z => z)]; exact q, fun b ps q => ⟨#[], by rw [upd_ne (hm b _ q fun z => z), q]; simp⟩⟩
  by_cases hbe : b = e
  · subst hbe; exact heo
  · exact ⟨u, k b u hbe q⟩
theorem Un.mono (u : Un fs ex H H1 h h1) (hs : ∀ b ∈ fs, b ∈ fs') (hx : ∀ b ∈ ex, b ∈ ex') : Un fs' ex' H H1 h h1 :=
  ⟨fun b ob q n hb he => u.keep b ob q n (fun z => hb (hs b z)) fun z => he (hx b z), fun _ _ q n _ he => u.any q n fun z => he (hx _ z), fun b ob q n he => u.free b ob q n fun z => he (hx b z), fun b ob q he => u.there b ob q fun z => he (hx b z), u.tups, u.frzs, u.tbls⟩
end

def trk (h : Heap) (H : Hp) : List Addr := (List.range h.objs.size).filter fun a => (H a).isSome
def hidT (h : Heap) (H : Hp) : Heap := PySem.W.hideAll h (trk h H)
theorem hidT_size (h : Heap) (H : Hp) : (hidT h H).objs.size = h.objs.size := PySem.W.hideAll_size _ _
theorem hidT_get {h : Heap} {H : Hp} {b : Addr} {o : Obj} (e : h.get? b = some o) (n : H b = none) : (hidT h H).get? b = some o :=
  PySem.W.hideAll_get _ e fun hm => by
    have q : (H b).isSome = true := (List.mem_filter.mp hm).2
    rw [n] at q; simp at q
theorem of_hidT {h : Heap} {H : Hp} {b : Addr} {o : Obj} (e : (hidT h H).get? b = some o) : h.get? b = some o ∧ H b = none := by
  have e' : h.get? b = some o := PySem.W.of_hideAll (trk h H) e
  refine ⟨e', ?_⟩
  cases q : H b with
  | none => rfl
  | some x =>
    have hm : b ∈ trk h H := List.mem_filter.mpr ⟨List.mem_range.mpr (Heap.lt_size e'), by simp [q]⟩
    have z : (hidT h H).get? b = none := PySem.W.hideAll_none (trk h H) hm
    rw [z] at e; cases e

def allNews (g h : Heap) (L : Addr) : List (Addr × Obj) := (List.range h.objs.size).filterMap fun a => if a = L ∨ (g.get? a).isSome = true then none else (h.get? a).map fun o => (a, o)
def rest (g h : Heap) (L d : Addr) : List (Addr × Obj) := (allNews g h L).filter fun p => decide (p.1 ≠ d)
end L2

namespace L2
open PySem PySem.Spec PyProof.Rows

/-- the module's facts, over the base: the heap at the law's entry without what is tracked there -/
structure Mod (K : PySem.W.Frag) (mg : Str → Option Value) (base : Heap) : Prop where
  kin : K.In base
  glob : base.Ns mainGlobals mg
  blt : ∃ mb, base.Ns builtinsNs mb ∧ ∀ x : Str, x ≠ "__name__" → mb x = bootBuiltins x
  nolimit : base.NoLimit

/-- the context: a def's body (or a comprehension's block) running. base: fixed through the whole law; s₀, H₀: the entry; outer: the frames whose slots others may change (a def's callers); stack: all frames that run;
   ex: iterators that were made ahead of the entry and are walked here (a comprehension's); fn: the names whose cells were made at the entry (a def: all; a comprehension's block: its own); calm: not within an except suite; pn: pins that every state bears; xe: what is wanted of an exception that leaves the code -/
structure Cx where
  prog : Program
  w : World
  K : PySem.W.Frag
  mg : Str → Option Value
  base : Heap
  A : Around
  N : List Str
  s₀ : Shared
  H₀ : Hp
  env : Env
  outer : List Env
  stack : List Env
  ex : List Addr
  fn : Str → Bool
  calm : Bool
  pn : List (Addr × Obj)
  xe : Value → Shared → Prop
/-- the callers' frames -/
def frs (l : List Env) : List Addr := l.filterMap (·.frame)
abbrev Cx.fs (X : Cx) : List Addr := frs X.outer

def Vis (sc : Scope) (x : Str) : Prop := sc.names.lookup x = some .local ∨ sc.names.lookup x = some .cell ∨ sc.names.lookup x = some .free
def Loc (sc : Scope) (x : Str) : Prop := sc.names.lookup x = some .local ∨ sc.names.lookup x = some .cell
def Look (env : Env) (h : Heap) (m : Str → Option Value) (x : Str) (u : Value) : Prop :=
  (env.kindOf x = some .local ∧ m x = some u) ∨ ((env.kindOf x = some .cell ∨ env.kindOf x = some .free) ∧ ∃ c, env.cells.lookup x = some c ∧ h.IsCell c (some u))

structure Cx.Ok (X : Cx) : Prop where
  mod : Mod X.K X.mg X.base
  kind : X.env.scope.kind = .function
  glob : X.env.globals = mainGlobals
  blt : X.env.builtins = builtinsNs
  above : X.s₀.heap.objs.size ≤ X.env.locals
  inj : ∀ x y c, X.env.cells.lookup x = some c → X.env.cells.lookup y = some c → x = y
  has : ∀ x, (X.env.kindOf x = some .cell ∨ X.env.kindOf x = some .free) → ∃ c, X.env.cells.lookup x = some c
  cab : ∀ x c, X.fn x = true → X.env.cells.lookup x = some c → X.s₀.heap.objs.size ≤ c
  hd : X.calm = true → X.A.handled = none
  frames : X.A.frames = some X.stack
  stk : X.stack = X.outer ∨ (X.stack = X.env :: X.outer ∧ X.env.frame = some X.env.locals)
  exf : ∀ b ∈ X.ex, b ≠ X.env.locals ∧ ∀ x c, X.env.cells.lookup x = some c → c ≠ b
  bs : ∀ b o, X.base.get? b = some o → X.s₀.heap.get? b = some o ∧ X.H₀ b = none
  bsz : X.base.objs.size ≤ X.s₀.heap.objs.size
  noex : ∀ b o, X.base.get? b = some o → b ∉ X.ex
  exfs : ∀ b ∈ X.ex, b ∉ X.fs
  funs : X.s₀.heap.FunFrames X.base X.outer
  frf : ∀ b ∈ X.fs, X.H₀ b = none

structure Inv (X : Cx) (pins : List (Addr × Obj)) (σ : List (Option V)) (H : Hp) (s : Shared) : Prop where
  ok : X.Ok
  os : s.os = X.s₀.os
  bare : AllBare s.gens
  base : Un X.fs X.ex X.H₀ H X.s₀.heap s.heap
  loc : ∃ m, s.heap.Ns X.env.locals m ∧ ∀ (i : Nat) (x : Str) (v : V), X.N[i]? = some x → σ[i]? = some (some v) → Vis X.env.scope x → ∃ u, RelV v u ∧ Look X.env s.heap m x u
  cell : ∀ x c, X.env.cells.lookup x = some c → ∃ v, s.heap.IsCell c v
  free : H X.env.locals = none
  freeC : ∀ x c, X.env.cells.lookup x = some c → H c = none
  pin : ∀ p ∈ X.pn ++ pins, s.heap.get? p.1 = some p.2 ∧ H p.1 = none ∧ p.1 ≠ X.env.locals ∧ p.1 ∉ X.fs ∧ ∀ v, p.2.data ≠ .cell v
  hok : HOk X.prog X.w H s.heap
  len : σ.length = X.N.length

section
variable {X : Cx} {pins : List (Addr × Obj)} {σ : List (Option V)} {H H' : Hp} {s : Shared} {h' : Heap}

theorem Cx.Ok.nofr (ok : X.Ok) {b : Addr} {o : Obj} (e : X.base.get? b = some o) : b ∉ X.fs := fun hb => by
  have := (ok.funs.mem hb).1
  rw [e] at this; cases this
theorem Inv.bs (I : Inv X pins σ H s) : ∀ b o, X.base.get? b = some o → s.heap.get? b = some o ∧ H b = none := fun b o e =>
  ⟨I.base.keep b o (I.ok.bs b o e).1 (I.ok.bs b o e).2 (I.ok.nofr e) (I.ok.noex b o e), I.base.free b o (I.ok.bs b o e).1 (I.ok.bs b o e).2 (I.ok.noex b o e)⟩
theorem Inv.bk (I : Inv X pins σ H s) : ∀ b o, X.base.get? b = some o → s.heap.get? b = some o := fun b o e => (I.bs b o e).1
theorem Inv.mod (I : Inv X pins σ H s) : Mod X.K X.mg X.base := I.ok.mod
theorem Inv.kIn (I : Inv X pins σ H s) : X.K.In s.heap := I.ok.mod.kin.keeps I.bk
theorem Inv.nolimit (I : Inv X pins σ H s) : s.heap.NoLimit := I.ok.mod.nolimit.keeps I.bk
/-- the frame over the base: for OpenK's rules (K.In X.base is I.mod.kin) -/
theorem Inv.fr (I : Inv X pins σ H s) : ∃ m, Fr X.base X.env.locals s.heap m :=
  let ⟨m, hn, _⟩ := I.loc
  ⟨m, hn, I.bk, Nat.le_trans I.ok.bsz I.ok.above⟩
theorem Inv.lt (I : Inv X pins σ H s) : X.env.locals < s.heap.objs.size := let ⟨_, hn, _⟩ := I.loc; hn.lt
theorem Inv.sz (I : Inv X pins σ H s) : X.s₀.heap.objs.size ≤ s.heap.objs.size := Nat.le_trans I.ok.above (Nat.le_of_lt I.lt)
theorem Inv.nofs (I : Inv X pins σ H s) {a : Addr} (h : s.heap.objs.size ≤ a) : a ∉ X.fs := fun hb => by
  obtain ⟨_, o, ho, _⟩ := I.ok.funs.mem hb
  exact absurd (Nat.lt_of_lt_of_le (Heap.lt_size ho) (Nat.le_trans I.sz h)) (Nat.lt_irrefl _)
theorem Inv.cne (I : Inv X pins σ H s) : ∀ x c, X.env.cells.lookup x = some c → c ≠ X.env.locals := fun x c e z => by
  obtain ⟨v, o, ho, hd⟩ := I.cell x c e
  obtain ⟨m, ⟨o', es, ep, ho', hd', _⟩, _⟩ := I.loc
  rw [z, ho'] at ho; cases ho; rw [hd'] at hd; cases hd
theorem Inv.funs (I : Inv X pins σ H s) : s.heap.FunFrames X.base X.outer := by
  have all : ∀ (l : List Env), (∀ b ∈ frs l, b ∈ X.fs) → X.s₀.heap.FunFrames X.base l → s.heap.FunFrames X.base l := by
    intro l
    induction l with
    | nil => intro _ _; trivial
    | cons env r ih =>
      intro hs hl
      obtain ⟨hk, ⟨L, o, hf, hn, ho, hd⟩, hr⟩ := hl
      have hL : L ∈ X.fs := hs L (by unfold frs; rw [List.filterMap_cons, hf]; exact List.mem_cons_self)
      obtain ⟨sl, e⟩ := I.base.slot L o ho (I.ok.frf L hL) hL fun z => I.ok.exfs L z hL
      exact ⟨hk, ⟨L, _, hf, hn, e, hd⟩, ih (fun b hb => hs b (by unfold frs; rw [List.filterMap_cons, hf]; exact List.mem_cons_of_mem _ hb)) hr⟩
  exact all X.outer (fun _ hb => hb) I.ok.funs

/-- the frames that run, for a call -/
theorem Inv.stack (I : Inv X pins σ H s) : s.heap.FunFrames X.base X.stack := by
  rcases I.ok.stk with e | ⟨e, hf⟩
  · rw [e]; exact I.funs
  · rw [e]
    obtain ⟨m, hn, _⟩ := I.loc
    refine .cons (by rw [I.ok.kind]; decide) hf hn ?_ I.funs
    exact Heap.get?_none_of_le (Nat.le_trans I.ok.bsz I.ok.above)
theorem Inv.stkSub (I : Inv X pins σ H s) : ∀ b ∈ frs X.stack, b ∈ X.env.locals :: X.fs := fun b hb => by
  rcases I.ok.stk with e | ⟨e, hf⟩
  · rw [e] at hb; exact List.mem_cons_of_mem _ hb
  · rw [e] at hb
    unfold frs at hb
    rw [List.filterMap_cons, hf] at hb
    exact hb
theorem Inv.stkFree (I : Inv X pins σ H s) : ∀ b ∈ frs X.stack, H b = none := fun b hb => by
  rcases List.mem_cons.mp (I.stkSub b hb) with e | hb
  · rw [e]; exact I.free
  · obtain ⟨_, o, ho, _⟩ := I.ok.funs.mem hb
    exact I.base.free b o ho (I.ok.frf b hb) fun z => I.ok.exfs b z hb

/-- THE STEP: the untracked objects but the frame and the records at ch are kept (the callers' frames up to slots), the frame's map is kept, the new abstract heap is held -/
theorem Inv.step {g' : Array GenState} {t' : Nat} {d' : Drawn} {ch : List Addr} (I : Inv X pins σ H s)
    (hch : ∀ b ∈ ch, (b ∈ X.ex ∨ X.s₀.heap.objs.size ≤ b) ∧ b ≠ X.env.locals ∧ (∀ x c, X.env.cells.lookup x = some c → c ≠ b) ∧ ∀ p ∈ X.pn ++ pins, p.1 ≠ b)
    (keep : ∀ b o, b ≠ X.env.locals → b ∉ X.fs → b ∉ ch → s.heap.get? b = some o → H b = none → h'.get? b = some o)
    (slot : ∀ b o, b ≠ X.env.locals → b ∈ X.fs → b ∉ ch → s.heap.get? b = some o → H b = none → ∃ sl, h'.get? b = some { o with slots := sl }) (free : ∀ b o, b ∉ ch → s.heap.get? b = some o → H b = none → H' b = none)
    (there : ∀ b o, b ∉ ch → s.heap.get? b = some o → ∃ o', h'.get? b = some o')
    (tups : ∀ b xs, H b = some (.tup xs) → H' b = some (.tup xs)) (frzs : ∀ b o u, H b = some (.frz o u) → H' b = some (.frz o u)) (tbls : ∀ b ps, H b = some (.tbl ps) → ∃ more, H' b = some (.tbl (ps ++ more)))
    (ns : ∀ m, s.heap.Ns X.env.locals m → h'.Ns X.env.locals m) (hok : HOk X.prog X.w H' h') (hg : AllBare g') :
    Inv X pins σ H' { s with heap := h', gens := g', drawn := d', toks := t' } := by
  have neL : ∀ b o, X.s₀.heap.get? b = some o → b ≠ X.env.locals := fun b o e => Nat.ne_of_lt (Nat.lt_of_lt_of_le (Heap.lt_size e) I.ok.above)
  have neC : ∀ b o, X.s₀.heap.get? b = some o → b ∉ X.ex → b ∉ ch := fun b o e hx hb => by
    rcases (hch b hb).1 with z | z
    · exact hx z
    · exact absurd (Nat.lt_of_lt_of_le (Heap.lt_size e) z) (Nat.lt_irrefl _)
  have cellK : ∀ x c, X.env.cells.lookup x = some c → ∀ v, s.heap.IsCell c v → h'.IsCell c v := fun x c e v ⟨o, ho, hd⟩ => by
    have nch : c ∉ ch := fun z => (hch c z).2.2.1 x c e rfl
    by_cases hc : c ∈ X.fs
    · obtain ⟨sl, q⟩ := slot c o (I.cne x c e) hc nch ho (I.freeC x c e)
      exact ⟨_, q, hd⟩
    · exact ⟨o, keep c o (I.cne x c e) hc nch ho (I.freeC x c e), hd⟩
  refine ⟨I.ok, I.os, hg, ⟨fun b o e n hb hx => ?_, fun b o e n hb hx => ?_, fun b o e n hx => ?_, fun b o e hx => ?_, fun b xs e => tups b xs (I.base.tups b xs e), fun b o xs e => frzs b o xs (I.base.frzs b o xs e), fun b ps e => ?_⟩, ?_, fun x c e => ?_, ?_, fun x c e => ?_, fun p hp => ?_, hok, I.len⟩
  · exact keep b o (neL b o e) hb (neC b o e hx) (I.base.keep b o e n hb hx) (I.base.free b o e n hx)
  · obtain ⟨sl, e1⟩ := I.base.slot b o e n hb hx
    obtain ⟨sl', e2⟩ := slot b _ (neL b o e) hb (neC b o e hx) e1 (I.base.free b o e n hx)
    exact ⟨sl', e2⟩
  · obtain ⟨o', e1⟩ := I.base.there b o e hx
    exact free b o' (neC b o e hx) e1 (I.base.free b o e n hx)
  · obtain ⟨o', e1⟩ := I.base.there b o e hx
    exact there b o' (neC b o e hx) e1
  · obtain ⟨m1, e1⟩ := I.base.tbls b ps e
    obtain ⟨m2, e2⟩ := tbls b _ e1
    exact ⟨m1 ++ m2, by rw [e2, Array.append_assoc]⟩
  · obtain ⟨m, hn, hl⟩ := I.loc
    refine ⟨m, ns m hn, fun i x v e1 e2 e3 => ?_⟩
    obtain ⟨u, r, l⟩ := hl i x v e1 e2 e3
    refine ⟨u, r, ?_⟩
    rcases l with l | ⟨k, c, e, z⟩
    · exact .inl l
    · exact .inr ⟨k, c, e, cellK x c e _ z⟩
  · obtain ⟨v, z⟩ := I.cell x c e
    exact ⟨v, cellK x c e v z⟩
  · obtain ⟨m, ⟨o, _, _, ho, _⟩, _⟩ := I.loc
    exact free _ o (fun z => (hch _ z).2.1 rfl) ho I.free
  · obtain ⟨v, o, ho, hd⟩ := I.cell x c e
    exact free c o (fun z => (hch c z).2.2.1 x c e rfl) ho (I.freeC x c e)
  · obtain ⟨e, n, ne, nf, d⟩ := I.pin p hp
    have nch : p.1 ∉ ch := fun z => (hch p.1 z).2.2.2 p hp rfl
    exact ⟨keep p.1 p.2 ne nf nch e n, free p.1 p.2 nch e n, ne, nf, d⟩
/-- .. where the frame's own object is kept too -/
theorem Inv.un {t' : Nat} (I : Inv X pins σ H s) (u : Un X.fs [] H H' s.heap h') (hok : HOk X.prog X.w H' h') : Inv X pins σ H' { s with heap := h', toks := t' } := by
  obtain ⟨m, ⟨o, es, ep, ho, r⟩, _⟩ := id I.loc
  obtain ⟨sl, hL⟩ := u.any ho I.free (by simp)
  exact I.step (g' := s.gens) (d' := s.drawn) (ch := []) (fun _ z => nomatch z) (fun b o _ hb _ e n => u.keep b o e n hb (by simp)) (fun b o _ hb _ e n => u.slot b o e n hb (by simp)) (fun b o _ e n => u.free b o e n (by simp)) (fun b o _ e => u.there b o e (by simp)) u.tups u.frzs u.tbls (fun m' hm => by
    obtain ⟨o', es', ep', ho', r'⟩ := hm
    rw [ho] at ho'; cases ho'
    exact ⟨_, es', ep', hL, r'⟩) hok I.bare
/-- behind a call (or a comprehension's block): the slots of this frame may have changed too, the records at ch may have turned -/
theorem Inv.call {g' : Array GenState} {t' : Nat} {d' : Drawn} {ch : List Addr} (I : Inv X pins σ H s) (u : Un (frs X.stack) ch H H' s.heap h') (hok : HOk X.prog X.w H' h') (hg : AllBare g')
    (hch : ∀ b ∈ ch, (b ∈ X.ex ∨ X.s₀.heap.objs.size ≤ b) ∧ b ≠ X.env.locals ∧ (∀ x c, X.env.cells.lookup x = some c → c ≠ b) ∧ ∀ p ∈ X.pn ++ pins, p.1 ≠ b) :
    Inv X pins σ H' { s with heap := h', gens := g', drawn := d', toks := t' } := by
  obtain ⟨m, ⟨o, es, ep, ho, r⟩, _⟩ := id I.loc
  obtain ⟨sl, hL⟩ := u.any ho I.free fun z => (hch _ z).2.1 rfl
  exact I.step (ch := ch) hch (fun b o hL hb hc e n => u.keep b o e n (fun z => (List.mem_cons.mp (I.stkSub b z)).elim hL hb) hc) (fun b o _ _ hc e n => u.any e n hc) (fun b o hc e n => u.free b o e n hc) (fun b o hc e => u.there b o e hc) u.tups u.frzs u.tbls (fun m' hm => by
    obtain ⟨o', es', ep', ho', r'⟩ := hm
    rw [ho] at ho'; cases ho'
    exact ⟨_, es', ep', hL, r'⟩) hok hg
/-- an untracked record of ours (an iterator) has turned -/
theorem Inv.turned {t' : Nat} {it : Addr} (I : Inv X pins σ H s) (k : ∀ b o, b ≠ it → s.heap.get? b = some o → h'.get? b = some o) (hn : H it = none) (hL : it ≠ X.env.locals)
    (h1 : it ∈ X.ex ∨ X.s₀.heap.objs.size ≤ it) (h2 : ∀ x c, X.env.cells.lookup x = some c → c ≠ it) (h3 : ∀ p ∈ X.pn ++ pins, p.1 ≠ it) : Inv X pins σ H { s with heap := h', toks := t' } := by
  have nit : ∀ b u, H b = some u → b ≠ it := fun b u e z => by rw [z, hn] at e; cases e
  refine I.step (g' := s.gens) (d' := s.drawn) (ch := [it]) (fun b hb => ?_) (fun b o _ _ hc e _ => k b o (fun z => hc (by simp [z])) e) (fun b o _ _ hc e _ => ⟨o.slots, k b o (fun z => hc (by simp [z])) e⟩) (fun _ _ _ _ n => n)
    (fun b o hc e => ⟨o, k b o (fun z => hc (by simp [z])) e⟩) (fun _ _ e => e) (fun _ _ _ e => e) (fun b ps e => ⟨#[], by rw [e]; simp⟩) (fun m hm => ?_) (fun b u e => ?_) I.bare
  · have e : b = it := by simpa using hb
    subst e
    exact ⟨h1, hL, h2, h3⟩
  · obtain ⟨o, es, ep, ho, r⟩ := hm
    exact ⟨o, es, ep, k _ o (Ne.symm hL) ho, r⟩
  · refine (I.hok b u e).stay (fun c v hc q => k c v ?_ q) (fun _ q => q) fun _ _ q => q
    rcases hc with z | z
    · rw [z]; exact nit b u e
    · exact nit c _ z
theorem Inv.tok (I : Inv X pins σ H s) (t : Nat) : Inv X pins σ H { s with toks := t } := I.un (h' := s.heap) (t' := t) Un.refl I.hok
/-- all objects kept -/
theorem Inv.kept {t' : Nat} (I : Inv X pins σ H s) (k : ∀ b u, s.heap.get? b = some u → h'.get? b = some u) : Inv X pins σ H { s with heap := h', toks := t' } := I.un (Un.kept k) (I.hok.kept k)
/-- a new object laid and tracked -/
theorem Inv.laid {a : Addr} {o : HO} {t' : Nat} (I : Inv X pins σ H s) (k : ∀ b u, s.heap.get? b = some u → h'.get? b = some u) (hp : s.heap.objs.size ≤ a) (new : ObjOk X.prog X.w (upd H a o) h' a o) :
    Inv X pins σ (upd H a o) { s with heap := h', toks := t' } := I.un (Un.laid k hp (I.hok.fresh hp)) (I.hok.laid k hp new)
/-- an object written -/
theorem Inv.write {x e : Addr} {o : HO} {t' : Nat} (I : Inv X pins σ H s) (mu : Mut (H x)) (he : e = x ∨ H e = some (.own x)) (k : ∀ b u, b ≠ e → s.heap.get? b = some u → h'.get? b = some u) (heo : ∃ u, h'.get? e = some u)
    (new : ObjOk X.prog X.w (upd H x o) h' x o) : Inv X pins σ (upd H x o) { s with heap := h', toks := t' } := I.un (Un.write mu he k heo) (I.hok.write mu he k heo new)
theorem Inv.pins_of {pins' : List (Addr × Obj)} (I : Inv X pins σ H s) (h : ∀ p ∈ pins', s.heap.get? p.1 = some p.2 ∧ H p.1 = none ∧ p.1 ≠ X.env.locals ∧ p.1 ∉ X.fs ∧ ∀ v, p.2.data ≠ .cell v) : Inv X pins' σ H s :=
  ⟨I.ok, I.os, I.bare, I.base, I.loc, I.cell, I.free, I.freeC, fun p hp => (List.mem_append.mp hp).elim (fun z => I.pin p (List.mem_append_left _ z)) (h p), I.hok, I.len⟩

theorem nodup_ix {N : List Str} (hN : N.Nodup) {i j : Nat} {x : Str} (a : N[i]? = some x) (b : N[j]? = some x) : i = j := by
  obtain ⟨h1, e1⟩ := List.getElem?_eq_some_iff.mp a
  obtain ⟨h2, e2⟩ := List.getElem?_eq_some_iff.mp b
  exact (List.getElem_inj hN).mp (e1.trans e2.symm)

/-- a name is stored; what changed -/
theorem store_ok2 {M : Model} {A : Around} {E : Value → Shared → Prop} {i : Nat} {x : Str} {v : V} {u : Value} {Q : Unit → Shared → Prop} (I : Inv X pins σ H s) (hN : X.N.Nodup) (hi : X.N[i]? = some x) (hx : Loc X.env.scope x) (r : RelV v u)
    (h : ∀ s', Inv X pins (σ.set i (some v)) H s' → (∃ a, Heap.SameBut a s.heap s'.heap ∧ (a = X.env.locals ∨ X.env.cells.lookup x = some a)) → Q () s') (hf : X.fn x = true ∨ X.env.scope.names.lookup x = some .local := by first | exact .inl rfl | exact .inr rfl | assumption) : wpAny M A (storeName X.env x u) Q E s := by
  obtain ⟨m, hn, hl⟩ := id I.loc
  have hcls : (X.env.scope.kind == .class || (X.env.scope.kind == .module && X.env.locals != X.env.globals)) = false := by rw [I.ok.kind]; rfl
  have hiσ : i < σ.length := by rw [I.len]; exact (List.getElem?_eq_some_iff.mp hi).1
  have cne := I.cne
  have tracked : ∀ {a : Addr} {h' : Heap}, (∃ o, s.heap.get? a = some o ∧ H a = none) → Heap.SameBut a s.heap h' → HOk X.prog X.w H h' := fun {a h'} ha hs b ob e => by
    obtain ⟨_, _, hfree⟩ := ha
    refine (I.hok b ob e).stay (fun c w' hc q => (hs.2 c ?_).trans q) (fun _ q => q) fun _ _ q => q
    rintro rfl
    rcases hc with rfl | hc
    · rw [hfree] at e; cases e
    · rw [hfree] at hc; cases hc
  rcases hx with hk | hk
  · refine wpAny_storeName_local hk hn (fun h' hn' hs => ?_) hcls
    obtain ⟨oL, _, _, hoL, _⟩ := id hn
    refine h _ ⟨I.ok, I.os, I.bare, ⟨fun b o e n hb hx => ?_, fun b o e n hb hx => ?_, I.base.free, fun b o e hx => ?_, I.base.tups, I.base.frzs, I.base.tbls⟩, ⟨_, hn', fun j y v' e1 e2 e3 => ?_⟩, fun y c e => ?_, I.free, I.freeC, fun p hp => ?_, tracked ⟨oL, hoL, I.free⟩ hs, by simpa using I.len⟩ ⟨_, hs, .inl rfl⟩
    · exact (hs.2 b (Nat.ne_of_lt (Nat.lt_of_lt_of_le (Heap.lt_size e) I.ok.above))).trans (I.base.keep b o e n hb hx)
    · obtain ⟨sl, e1⟩ := I.base.slot b o e n hb hx
      exact ⟨sl, (hs.2 b (Nat.ne_of_lt (Nat.lt_of_lt_of_le (Heap.lt_size e) I.ok.above))).trans e1⟩
    · obtain ⟨o', e1⟩ := I.base.there b o e hx
      exact ⟨o', (hs.2 b (Nat.ne_of_lt (Nat.lt_of_lt_of_le (Heap.lt_size e) I.ok.above))).trans e1⟩
    · by_cases hj : j = i
      · subst hj
        rw [hi] at e1; cases e1
        rw [List.getElem?_set_self hiσ] at e2
        cases e2
        exact ⟨u, r, .inl ⟨hk, by simp⟩⟩
      · rw [List.getElem?_set_ne (Ne.symm hj)] at e2
        obtain ⟨u', r', q⟩ := hl j y v' e1 e2 e3
        refine ⟨u', r', ?_⟩
        rcases q with ⟨k, e⟩ | ⟨k, c, e, z⟩
        · refine .inl ⟨k, ?_⟩
          have : y ≠ x := fun e => hj (nodup_ix hN e1 (e ▸ hi))
          simp [this, e]
        · exact .inr ⟨k, c, e, z.sameBut hs (cne y c e)⟩
    · obtain ⟨w', z⟩ := I.cell y c e
      exact ⟨w', z.sameBut hs (cne y c e)⟩
    · obtain ⟨e, n, ne, nf, d⟩ := I.pin p hp
      exact ⟨(hs.2 p.1 ne).trans e, n, ne, nf, d⟩
  · have hfn : X.fn x = true := by
      rcases hf with z | z
      · exact z
      · rw [z] at hk; cases hk
    obtain ⟨c, hc⟩ := I.ok.has x (.inl hk)
    obtain ⟨w', z⟩ := I.cell x c hc
    refine wpAny_storeName_cell I.ok.kind hk hc z (fun h' hc' hs => ?_)
    obtain ⟨oc, hoc, hocd⟩ := id z
    refine h { s with heap := h' } ⟨I.ok, I.os, I.bare, ⟨fun b o e n hb hx => ?_, fun b o e n hb hx => ?_, I.base.free, fun b o e hx => ?_, I.base.tups, I.base.frzs, I.base.tbls⟩, ⟨m, hn.sameBut hs (Ne.symm (cne x c hc)), fun j y v' e1 e2 e3 => ?_⟩, fun y c' e => ?_, I.free, I.freeC, fun p hp => ?_, tracked ⟨oc, hoc, I.freeC x c hc⟩ hs, by simpa using I.len⟩ ⟨c, hs, .inr hc⟩
    · exact (hs.2 b (Nat.ne_of_lt (Nat.lt_of_lt_of_le (Heap.lt_size e) (I.ok.cab x c hfn hc)))).trans (I.base.keep b o e n hb hx)
    · obtain ⟨sl, e1⟩ := I.base.slot b o e n hb hx
      exact ⟨sl, (hs.2 b (Nat.ne_of_lt (Nat.lt_of_lt_of_le (Heap.lt_size e) (I.ok.cab x c hfn hc)))).trans e1⟩
    · obtain ⟨o', e1⟩ := I.base.there b o e hx
      exact ⟨o', (hs.2 b (Nat.ne_of_lt (Nat.lt_of_lt_of_le (Heap.lt_size e) (I.ok.cab x c hfn hc)))).trans e1⟩
    · by_cases hj : j = i
      · subst hj
        rw [hi] at e1; cases e1
        rw [List.getElem?_set_self hiσ] at e2
        cases e2
        exact ⟨u, r, .inr ⟨.inl hk, c, hc, hc'⟩⟩
      · rw [List.getElem?_set_ne (Ne.symm hj)] at e2
        obtain ⟨u', r', q⟩ := hl j y v' e1 e2 e3
        refine ⟨u', r', ?_⟩
        rcases q with q | ⟨k, c', e, z'⟩
        · exact .inl q
        · refine .inr ⟨k, c', e, z'.sameBut hs ?_⟩
          rintro rfl
          exact hj (nodup_ix hN e1 (I.ok.inj _ _ _ e hc ▸ hi))
    · by_cases hcc : c' = c
      · subst hcc; exact ⟨_, hc'⟩
      · obtain ⟨w2, z2⟩ := I.cell y c' e
        exact ⟨w2, z2.sameBut hs hcc⟩
    · obtain ⟨e, n, ne, nf, d⟩ := I.pin p hp
      refine ⟨(hs.2 p.1 ?_).trans e, n, ne, nf, d⟩
      intro q
      rw [q, hoc] at e
      have q' : oc = p.2 := Option.some.inj e
      exact d w' (by rw [← q']; exact hocd)
theorem store_ok {M : Model} {A : Around} {E : Value → Shared → Prop} {i : Nat} {x : Str} {v : V} {u : Value} {Q : Unit → Shared → Prop} (I : Inv X pins σ H s) (hN : X.N.Nodup) (hi : X.N[i]? = some x) (hx : Loc X.env.scope x) (r : RelV v u)
    (h : ∀ s', Inv X pins (σ.set i (some v)) H s' → Q () s') (hf : X.fn x = true ∨ X.env.scope.names.lookup x = some .local := by first | exact .inl rfl | exact .inr rfl | assumption) : wpAny M A (storeName X.env x u) Q E s :=
  store_ok2 I hN hi hx r (fun s' I' _ => h s' I') hf
/-- behind a call or a block, the state as it is -/
theorem Inv.call' {s' : Shared} {ch : List Addr} (I : Inv X pins σ H s) (ho : s'.os = s.os) (u : Un (frs X.stack) ch H H' s.heap s'.heap) (hok : HOk X.prog X.w H' s'.heap) (hg : AllBare s'.gens)
    (hch : ∀ b ∈ ch, (b ∈ X.ex ∨ X.s₀.heap.objs.size ≤ b) ∧ b ≠ X.env.locals ∧ (∀ x c, X.env.cells.lookup x = some c → c ≠ b) ∧ ∀ p ∈ X.pn ++ pins, p.1 ≠ b) : Inv X pins σ H' s' := by
  obtain ⟨h', g', d', t', o'⟩ := s'
  have e : o' = s.os := ho
  subst e
  exact I.call (g' := g') (t' := t') (d' := d') u hok hg hch
end

/-- an exception: its class, its own dict's address (where it has one), the abstract heap behind it -/
abbrev XK := Value → Option Addr → Hp → Prop
abbrev St := List (Option V)
abbrev VK := V → Hp → Prop
/-- an expression's reading; a test's; an argument list's -/
abbrev TE := St → Hp → VK → Prop
abbrev TT := St → Hp → (Bool → Hp → Prop) → Prop
abbrev TA := St → Hp → (List V → Hp → Prop) → Prop
/-- what is wanted behind a statement -/
structure Ends where
  nx : St → Hp → Prop
  rt : VK
  bk : St → Hp → Prop := fun _ _ => False
  ct : St → Hp → Prop := fun _ _ => False
abbrev TS := Ends → St → Hp → Prop

def EP (X : Cx) (pins : List (Addr × Obj)) (σ : St) (Q : VK) (u : Value) (s' : Shared) : Prop := ∃ v H', Inv X pins σ H' s' ∧ RelV v u ∧ Q v H'
def TP (X : Cx) (pins : List (Addr × Obj)) (σ : St) (Q : Bool → Hp → Prop) (b : Bool) (s' : Shared) : Prop := ∃ H', Inv X pins σ H' s' ∧ Q b H'
def AP (X : Cx) (pins : List (Addr × Obj)) (σ : St) (Q : List V → Hp → Prop) (us : List Value) (s' : Shared) : Prop := ∃ vs H', Inv X pins σ H' s' ∧ Vals vs us ∧ Q vs H'
def SP (X : Cx) (pins : List (Addr × Obj)) (D : Ends) (f : Flow) (s' : Shared) : Prop :=
  match f with
  | .next => ∃ σ' H', Inv X pins σ' H' s' ∧ D.nx σ' H'
  | .brk => ∃ σ' H', Inv X pins σ' H' s' ∧ D.bk σ' H'
  | .cont => ∃ σ' H', Inv X pins σ' H' s' ∧ D.ct σ' H'
  | .ret u => ∃ v σ' H', Inv X pins σ' H' s' ∧ RelV v u ∧ D.rt v H'

def PE (X : Cx) (e : Expr) (t : TE) : Prop :=
  ∀ (pins : List (Addr × Obj)) (s : Shared) (σ : St) (H : Hp) (Q : VK), Inv X pins σ H s → t σ H Q → wpAny (model X.prog X.w) X.A (eval e X.env) (EP X pins σ Q) X.xe s
def PT (X : Cx) (e : Expr) (t : TT) : Prop :=
  ∀ (pins : List (Addr × Obj)) (s : Shared) (σ : St) (H : Hp) (Q : Bool → Hp → Prop), Inv X pins σ H s → t σ H Q → wpAny (model X.prog X.w) X.A (isTrue e X.env (eval e X.env)) (TP X pins σ Q) X.xe s
/-- a test whatever its 'whole' is (and, or) -/
def PW (X : Cx) (e : Expr) (t : TT) : Prop :=
  ∀ (whole : Sem Value) (pins : List (Addr × Obj)) (s : Shared) (σ : St) (H : Hp) (Q : Bool → Hp → Prop), Inv X pins σ H s → t σ H Q → wpAny (model X.prog X.w) X.A (isTrue e X.env whole) (TP X pins σ Q) X.xe s
theorem PW.pt {X : Cx} {e : Expr} {t : TT} (h : PW X e t) : PT X e t := h _
/-- an argument list (no star), from the left -/
def PA (X : Cx) (es : List Expr) (t : TA) : Prop :=
  ∀ (pos : Pos) (pins : List (Addr × Obj)) (s : Shared) (σ : St) (H : Hp) (Q : List V → Hp → Prop), Inv X pins σ H s → t σ H Q → wpAny (model X.prog X.w) X.A (spliced (backTo pos (starEach es X.env))) (AP X pins σ Q) X.xe s
def PS (X : Cx) (st : Stmt) (t : TS) : Prop :=
  ∀ (pins : List (Addr × Obj)) (s : Shared) (σ : St) (H : Hp) (D : Ends), Inv X pins σ H s → t D σ H → wpAny (model X.prog X.w) X.A (exec st X.env) (SP X pins D) X.xe s
def PSs (X : Cx) (st : List Stmt) (t : TS) : Prop :=
  ∀ (pins : List (Addr × Obj)) (s : Shared) (σ : St) (H : Hp) (D : Ends), Inv X pins σ H s → t D σ H → wpAny (model X.prog X.w) X.A (execs st X.env) (SP X pins D) X.xe s
/-- weaken the end -/
theorem thn {α : Type} {t : Sem α} {Q Q' : α → Shared → Prop} {M : Model} {A : Around} {E : Value → Shared → Prop} {s : Shared} (h : wpAny M A t Q E s) (hQ : ∀ a s, Q a s → Q' a s) : wpAny M A t Q' E s := wpAny_mono h hQ fun _ _ x => x
end L2

namespace L2
open PySem PySem.Spec PyProof.Rows
section
variable {X : Cx}

def tVar (i : Nat) : TE := fun σ H Q => ∃ v, σ[i]? = some (some v) ∧ Q v H
def tC (v : V) : TE := fun _ H Q => Q v H
theorem pe_var {i : Nat} {x : Str} {pos : Pos} (hN : X.N[i]? = some x) (hv : Vis X.env.scope x) (hd : (x == ("__debug__" : Str)) = false := by decide) (hcd : (x == ("__classdict__" : Str)) = false := by decide) : PE X (.Name x pos) (tVar i) := by
  intro pins s σ H Q I h
  obtain ⟨v, e, h⟩ := h
  obtain ⟨m, hn, hl⟩ := I.loc
  obtain ⟨u, r, l⟩ := hl i x v hN e hv
  have fin : EP X pins σ Q u s := ⟨v, H, I, r, h⟩
  rcases l with ⟨hk, hm⟩ | ⟨hk, c, hc, hcell⟩
  · exact wpAny_Name (wpAny_loadName_local I.ok.kind hk hn hm fin) hd
  · rcases hk with hk | hk
    · exact wpAny_Name (wpAny_loadName_cell I.ok.kind hk hc hcell fin) hd
    · exact wpAny_Name (wpAny_loadName_free I.ok.kind hk hc hcell fin hcd) hd
theorem pe_int {i j pos} : PE X (.Constant (.int i) j pos) (tC (.int i)) := fun _ _ _ H _ I h => wpAny_Constant_int ⟨.int i, H, I.tok _, ⟨_, rfl⟩, h⟩
theorem pe_bl {b j pos} : PE X (.Constant (.bool b) j pos) (tC (.bl b)) := fun _ _ _ H _ I h => Constant_bool ⟨.bl b, H, I, rfl, h⟩
theorem pe_non {j pos} : PE X (.Constant .none j pos) (tC .non) := fun _ _ _ H _ I h => Constant_none ⟨.non, H, I, rfl, h⟩
theorem pe_str {x j pos} : PE X (.Constant (.str x) j pos) (tC (.str x)) := fun _ _ _ H _ I h => Calls.Constant_str ⟨.str x, H, I.tok _, ⟨_, rfl⟩, h⟩

/-- a global name of the def -/
def Gl (X : Cx) (x : Str) : Prop := X.env.kindOf x = some .globalImplicit
theorem ld_glob {E : Value → Shared → Prop} {pins : List (Addr × Obj)} {s : Shared} {σ : St} {H : Hp} {x : Str} {u : Value} {pos : Pos} {Q : Value → Shared → Prop} (I : Inv X pins σ H s) (hg : Gl X x) (hm : X.mg x = some u) (h : Q u s)
    (hd : (x == ("__debug__" : Str)) = false := by decide) : wpAny (model X.prog X.w) X.A (eval (.Name x pos) X.env) Q E s :=
  Calls.Name_function_global I.ok.kind hg (Calls.loadGlobal_global (by rw [I.ok.glob]; exact I.mod.glob.keeps I.bk) hm h) hd
theorem ld_blt {E : Value → Shared → Prop} {pins : List (Addr × Obj)} {s : Shared} {σ : St} {H : Hp} {x : Str} {u : Value} {pos : Pos} {Q : Value → Shared → Prop} (I : Inv X pins σ H s) (hg : Gl X x) (hm : X.mg x = none) (hv : bootBuiltins x = some u) (h : Q u s)
    (hn : x ≠ "__name__" := by decide) (hd : (x == ("__debug__" : Str)) = false := by decide) : wpAny (model X.prog X.w) X.A (eval (.Name x pos) X.env) Q E s := by
  obtain ⟨mb, h1, h2⟩ := I.mod.blt
  exact Calls.Name_function_global I.ok.kind hg (Calls.loadGlobal_builtin (by rw [I.ok.glob]; exact I.mod.glob.keeps I.bk) hm (by rw [I.ok.blt]; exact h1.keeps I.bk) ((h2 x hn).trans hv) h) hd
/-- a module's constant, a class, a function, as a value -/
theorem pe_glob {x : Str} {v : V} {u : Value} {pos : Pos} (hg : Gl X x) (hm : X.mg x = some u) (r : RelV v u) (hd : (x == ("__debug__" : Str)) = false := by decide) : PE X (.Name x pos) (tC v) :=
  fun _ _ _ H _ I h => ld_glob I hg hm ⟨v, H, I, r, h⟩ hd
theorem pe_bltn {x : Str} {v : V} {u : Value} {pos : Pos} (hg : Gl X x) (hm : X.mg x = none) (hv : bootBuiltins x = some u) (r : RelV v u) (hn : x ≠ "__name__" := by decide) (hd : (x == ("__debug__" : Str)) = false := by decide) : PE X (.Name x pos) (tC v) :=
  fun _ _ _ H _ I h => ld_blt I hg hm hv ⟨v, H, I, r, h⟩ hn hd

variable {a b : Expr} {ta tb : TE} {pos : Pos}
/-- a comparison as a value, as a test -/
def tB (t : TE) : TT := fun σ H Q => t σ H fun x H1 => ∃ c, x = .bl c ∧ Q c H1
/-- an expression whose value is a bool, as a test -/
theorem pt_val {e : Expr} {t : TE} (h : PE X e t) (he : ∀ whole, isTrue e X.env whole = (do let v ← whole; standAt e.pos; holding [v] (truthy v)) := by intro _; rfl) : PT X e (tB t) := by
  intro pins s σ H Q I hw
  refine isTrue_plain (thn (h pins s σ H _ I hw) fun v s1 ⟨x, H1, I1, r1, q1⟩ => ?_) (he _)
  obtain ⟨d, rfl, q⟩ := q1
  cases r1
  exact wpAny_truthy_bool ⟨H1, I1, q⟩

variable {tA tB' : TT} {rest : List Expr}
def tAnd (t u : TT) : TT := fun σ H Q => t σ H fun c H1 => if c = true then u σ H1 Q else Q false H1
def tOr (t u : TT) : TT := fun σ H Q => t σ H fun c H1 => if c = true then Q true H1 else u σ H1 Q
def tNot (t : TT) : TT := fun σ H Q => t σ H fun c H1 => Q (!c) H1
theorem pw_and1 (ha : PT X a tA) : PW X (.BoolOp .And [a] pos) tA := by
  intro wh pins s σ H Q I h
  refine isTrue_and (thn (ha pins s σ H Q I h) fun c s1 e => ?_)
  cases c with
  | true => exact isTrue_and_nil e
  | false => exact e
theorem pw_or1 (ha : PT X a tA) : PW X (.BoolOp .Or [a] pos) tA := by
  intro wh pins s σ H Q I h
  refine isTrue_or (thn (ha pins s σ H Q I h) fun c s1 e => ?_)
  cases c with
  | false => exact isTrue_or_nil e
  | true => exact e
theorem pw_and (ha : PT X a tA) (hb : PW X (.BoolOp .And (b :: rest) pos) tB') : PW X (.BoolOp .And (a :: b :: rest) pos) (tAnd tA tB') := by
  intro wh pins s σ H Q I h
  refine isTrue_and (thn (ha pins s σ H _ I h) fun c s1 ⟨H1, I1, q1⟩ => ?_)
  cases c with
  | true => exact hb wh pins s1 σ H1 Q I1 q1
  | false => exact ⟨H1, I1, q1⟩
theorem pw_or (ha : PT X a tA) (hb : PW X (.BoolOp .Or (b :: rest) pos) tB') : PW X (.BoolOp .Or (a :: b :: rest) pos) (tOr tA tB') := by
  intro wh pins s σ H Q I h
  refine isTrue_or (thn (ha pins s σ H _ I h) fun c s1 ⟨H1, I1, q1⟩ => ?_)
  cases c with
  | true => exact ⟨H1, I1, q1⟩
  | false => exact hb wh pins s1 σ H1 Q I1 q1
theorem pt_not (ha : PT X a tA) : PT X (.UnaryOp .Not a pos) (tNot tA) := by
  intro pins s σ H Q I h
  exact isTrue_not (ha pins s σ H (fun c H1 => Q (!c) H1) I h)
/-- .. as values (bools) -/
def tAndV (ta tb : TE) : TE := fun σ H Q => ta σ H fun x H1 => ∃ c, x = .bl c ∧ if c = true then tb σ H1 Q else Q (.bl false) H1
def tOrV (ta tb : TE) : TE := fun σ H Q => ta σ H fun x H1 => ∃ c, x = .bl c ∧ if c = true then Q (.bl true) H1 else tb σ H1 Q
def tNotV (ta : TE) : TE := fun σ H Q => ta σ H fun x H1 => ∃ c, x = .bl c ∧ Q (.bl (!c)) H1
theorem pe_one {op} {t : TE} (h : PE X a t) : PE X (.BoolOp op [a] pos) t := fun pins s σ H Q I hw => BoolOp_one (h pins s σ H Q I hw)
theorem pe_and (ha : PE X a ta) (hb : PE X (.BoolOp .And (b :: rest) pos) tb) : PE X (.BoolOp .And (a :: b :: rest) pos) (tAndV ta tb) := by
  intro pins s σ H Q I h
  refine BoolOp_and (thn (ha pins s σ H _ I h) fun v s1 ⟨x, H1, I1, r1, q1⟩ => ?_)
  obtain ⟨c, rfl, q1⟩ := q1
  cases r1
  refine wpAny_truthy_bool ?_
  cases c with
  | true => exact hb pins s1 σ H1 Q I1 q1
  | false => exact ⟨.bl false, H1, I1, rfl, q1⟩
theorem pe_not (ha : PE X a ta) : PE X (.UnaryOp .Not a pos) (tNotV ta) := by
  intro pins s σ H Q I h
  refine UnaryOp_ (thn (ha pins s σ H _ I h) fun v s1 ⟨x, H1, I1, r1, q1⟩ => ?_)
  obtain ⟨c, rfl, q1⟩ := q1
  cases r1
  exact not_of (wpAny_truthy_bool ⟨.bl (!c), H1, I1, rfl, q1⟩)
/-- a if t else b -/
def tIf (t : TT) (ta tb : TE) : TE := fun σ H Q => t σ H fun c H1 => if c = true then ta σ H1 Q else tb σ H1 Q
theorem pe_ifExp {c : Expr} (hc : PT X c tA) (ha : PE X a ta) (hb : PE X b tb) : PE X (.IfExp c a b pos) (tIf tA ta tb) := by
  intro pins s σ H Q I h
  refine wpAny_IfExp (thn (hc pins s σ H _ I h) fun d s1 ⟨H1, I1, q1⟩ => ?_)
  cases d with
  | true => exact ha pins s1 σ H1 Q I1 q1
  | false => exact hb pins s1 σ H1 Q I1 q1
end
end L2

namespace L2
open PySem PySem.Spec PyProof.Rows

def SqL (K : PySem.W.Frag) (H : Hp) (a : Addr) (xs : List V) : Prop :=
  Rd H a (.lst xs) ∨
    ∃ (o : Obj) (its : Array Value) (n : Nat), K.lookup a = some o ∧ o.cls = .type "list" ∧ o.dict = none ∧ o.data = .seq its n ∧ its.size ≤ sizeLine ∧ Vals xs its.toList
def SqT (K : PySem.W.Frag) (H : Hp) (a : Addr) (xs : List V) : Prop :=
  Rd H a (.tup xs) ∨
    ∃ (o : Obj) (its : Array Value) (n : Nat), K.lookup a = some o ∧ o.cls = .type "tuple" ∧ o.data = .seq its n ∧ its.size ≤ sizeLine ∧ Vals xs its.toList
def absV : Value → Option V
  | .none => some .non
  | .bool b => some (.bl b)
  | .int i _ => some (.int i)
  | .str x _ => some (.str x)
  | .bytes b _ => some (.byt b)
  | .float b _ => some (.flt b)
  | .ref a => some (.ref a)
  | .type n => some (.ty n)
  | _ => none
theorem RelV.abs {x : V} {u : Value} (r : RelV x u) : absV u = some x := by
  cases x with
  | non => cases r; rfl
  | bl _ => cases r; rfl
  | int _ => obtain ⟨t, rfl⟩ := r; rfl
  | str _ => obtain ⟨t, rfl⟩ := r; rfl
  | byt _ => obtain ⟨t, rfl⟩ := r; rfl
  | flt _ => obtain ⟨t, rfl⟩ := r; rfl
  | ref _ => cases r; rfl
  | ty _ => cases r; rfl
theorem RelV.inj {x y : V} {u : Value} (r : RelV x u) (q : RelV y u) : x = y := Option.some.inj (r.abs.symm.trans q.abs)
theorem Vals.inj : ∀ {xs ys : List V} {us : List Value}, Vals xs us → Vals ys us → xs = ys
  | _, _, _, .nil, .nil => rfl
  | _, _, _, .cons r t, .cons r' t' => by rw [r.inj r', Vals.inj t t']
section
variable {X : Cx} {pins : List (Addr × Obj)} {σ : St} {H : Hp} {s : Shared} {a : Addr} {xs ys : List V}
theorem SqL.of {K : PySem.W.Frag} (h : H a = some (.lst xs)) : SqL K H a xs := .inl (.inl h)
theorem SqT.of {K : PySem.W.Frag} (h : H a = some (.tup xs)) : SqT K H a xs := .inl (.inl h)
theorem Inv.list (I : Inv X pins σ H s) (h : SqL X.K H a xs) : ∃ its : List Value, Vals xs its ∧ PlainL s.heap a its.toArray ∧ xs.length ≤ sizeLine := by
  rcases h with h | ⟨o, its, n, hk, hc, hd, hs, hz, r⟩
  · obtain ⟨z, its, n, r, e⟩ := h.ok I.hok
    exact ⟨its, r, ⟨_, n, e, rfl, rfl, rfl⟩, z⟩
  · refine ⟨its.toList, r, ⟨o, n, I.kIn a o hk, hc, hd, by simpa using hs⟩, ?_⟩
    have e := r.length
    simp only [Array.length_toList] at e
    omega
theorem Inv.tuple (I : Inv X pins σ H s) (h : SqT X.K H a xs) : ∃ its : List Value, Vals xs its ∧ IsTup s.heap a its.toArray ∧ xs.length ≤ sizeLine := by
  rcases h with h | ⟨o, its, n, hk, hc, hs, hz, r⟩
  · obtain ⟨z, its, r, p⟩ := h.ok I.hok
    exact ⟨its, r, p, z⟩
  · refine ⟨its.toList, r, ⟨o, I.kIn a o hk, hc, n, by simpa using hs⟩, ?_⟩
    have e := r.length
    simp only [Array.length_toList] at e
    omega
theorem Inv.list_inj (I : Inv X pins σ H s) (h : SqL X.K H a xs) (h' : SqL X.K H a ys) : xs = ys := by
  obtain ⟨its, r, ⟨o, n, e, _, _, d⟩, _⟩ := I.list h
  obtain ⟨its', r', ⟨o', n', e', _, _, d'⟩, _⟩ := I.list h'
  rw [e] at e'; cases e'
  rw [d] at d'
  injection d' with d1 _
  have : its = its' := by simpa using congrArg Array.toList d1
  subst this
  exact r.inj r'
theorem Inv.tuple_inj (I : Inv X pins σ H s) (h : SqT X.K H a xs) (h' : SqT X.K H a ys) : xs = ys := by
  obtain ⟨its, r, ⟨o, e, _, n, d⟩, _⟩ := I.tuple h
  obtain ⟨its', r', ⟨o', e', _, n', d'⟩, _⟩ := I.tuple h'
  rw [e] at e'; cases e'
  rw [d] at d'
  injection d' with d1 _
  have : its = its' := by simpa using congrArg Array.toList d1
  subst this
  exact r.inj r'
end

abbrev Cx.wish (X : Cx) (E : Value → Shared → Prop) : Cx := { X with xe := E }
/-- no exception leaves -/
abbrev Cx.nox (X : Cx) : Cx := X.wish fun _ _ => False
theorem Cx.Ok.wish {X : Cx} (ok : X.Ok) (E : Value → Shared → Prop) : (X.wish E).Ok :=
  ⟨ok.mod, ok.kind, ok.glob, ok.blt, ok.above, ok.inj, ok.has, ok.cab, ok.hd, ok.frames, ok.stk, ok.exf, ok.bs, ok.bsz, ok.noex, ok.exfs, ok.funs, ok.frf⟩
theorem Cx.Ok.unwish {X : Cx} {E : Value → Shared → Prop} (ok : (X.wish E).Ok) : X.Ok :=
  ⟨ok.mod, ok.kind, ok.glob, ok.blt, ok.above, ok.inj, ok.has, ok.cab, ok.hd, ok.frames, ok.stk, ok.exf, ok.bs, ok.bsz, ok.noex, ok.exfs, ok.funs, ok.frf⟩
section
variable {X : Cx} {pins : List (Addr × Obj)} {σ : St} {H : Hp} {s : Shared} {E : Value → Shared → Prop}
theorem Inv.wish (I : Inv X pins σ H s) (E : Value → Shared → Prop) : Inv (X.wish E) pins σ H s := ⟨I.ok.wish E, I.os, I.bare, I.base, I.loc, I.cell, I.free, I.freeC, I.pin, I.hok, I.len⟩
theorem Inv.unwish (I : Inv (X.wish E) pins σ H s) : Inv X pins σ H s := ⟨I.ok.unwish, I.os, I.bare, I.base, I.loc, I.cell, I.free, I.freeC, I.pin, I.hok, I.len⟩
theorem SP.unwish {D : Ends} {f : Flow} {s' : Shared} (h : SP (X.wish E) pins D f s') : SP X pins D f s' := by
  cases f with
  | next => obtain ⟨σ', H', I, q⟩ := h; exact ⟨σ', H', I.unwish, q⟩
  | brk => obtain ⟨σ', H', I, q⟩ := h; exact ⟨σ', H', I.unwish, q⟩
  | cont => obtain ⟨σ', H', I, q⟩ := h; exact ⟨σ', H', I.unwish, q⟩
  | ret u => obtain ⟨v, σ', H', I, r, q⟩ := h; exact ⟨v, σ', H', I.unwish, r, q⟩
theorem PE.nox {e : Expr} {t : TE} (h : PE X.nox e t) : PE X e t := fun pins s σ H Q I hw =>
  wpAny_mono (h pins s σ H Q (I.wish _) hw) (fun _ _ ⟨v, H', I', r, q⟩ => ⟨v, H', I'.unwish, r, q⟩) fun _ _ z => False.elim z
theorem PT.nox {e : Expr} {t : TT} (h : PT X.nox e t) : PT X e t := fun pins s σ H Q I hw =>
  wpAny_mono (h pins s σ H Q (I.wish _) hw) (fun _ _ ⟨H', I', q⟩ => ⟨H', I'.unwish, q⟩) fun _ _ z => False.elim z
theorem PSs.nox {st : List Stmt} {t : TS} (h : PSs X.nox st t) : PSs X st t := fun pins s σ H D I hw =>
  wpAny_mono (h pins s σ H D (I.wish _) hw) (fun _ _ q => q.unwish) fun _ _ z => False.elim z
end

section
variable {X : Cx} {st : Stmt} {rest : List Stmt} {t u : TS} {e : Expr} {te : TE} {pos : Pos}
def tNext : TS := fun D σ H => D.nx σ H
def tSeq (t u : TS) : TS := fun D σ H => t { D with nx := u D } σ H
theorem pss_nil : PSs X [] tNext := fun _ _ σ H _ I h => wpAny_execs_nil ⟨σ, H, I, h⟩
theorem pss_cons (h1 : PS X st t) (h2 : PSs X rest u) : PSs X (st :: rest) (tSeq t u) := by
  intro pins s σ H D I h
  refine wpAny_execs_cons (thn (h1 pins s σ H { D with nx := u D } I h) fun f s1 q => ?_)
  cases f with
  | next =>
    obtain ⟨σ', H', I', q⟩ := q
    exact h2 pins s1 σ' H' D I' q
  | ret v => exact q
  | brk => exact q
  | cont => exact q
theorem pss_one (h1 : PS X st t) : PSs X [st] t := by
  intro pins s σ H D I h
  refine wpAny_execs_cons (thn (h1 pins s σ H D I h) fun f s1 q => ?_)
  cases f with
  | next => exact wpAny_execs_nil q
  | ret v => exact q
  | brk => exact q
  | cont => exact q
/-- in a def's body nothing is shown -/
theorem Inv.quiet {pins : List (Addr × Obj)} {σ : St} {H : Hp} {s : Shared} (I : Inv X pins σ H s) : interactive X.env = false := by simp [interactive, I.ok.kind]
/-- an expression whose value is dropped -/
def tDrop (te : TE) : TS := fun D σ H => te σ H fun _ H1 => D.nx σ H1
theorem ps_expr (he : PE X e te) (hs : swapsWith e none pos.line X.env = pure false := by rfl) : PS X (.Expr e pos) (tDrop te) := by
  intro pins s σ H D I h
  exact wpAny_Expr_any (thn (he pins s σ H _ I h) fun v s1 ⟨x, H1, I1, r1, q1⟩ => ⟨σ, H1, I1, q1⟩) I.quiet hs
def tRet (te : TE) : TS := fun D σ H => te σ H D.rt
theorem ps_ret (he : PE X e te) : PS X (.Return (some e) pos) (tRet te) := by
  intro pins s σ H D I h
  exact wpAny_Return_some (thn (he pins s σ H _ I h) fun v s1 ⟨x, H1, I1, r1, q1⟩ => ⟨x, σ, H1, I1, r1, q1⟩)
def tIfS (c : TT) (t u : TS) : TS := fun D σ H => c σ H fun b H1 => if b = true then t D σ H1 else u D σ H1
theorem ps_if {c : Expr} {a b : List Stmt} {tc : TT} (hc : PT X c tc) (ha : PSs X a t) (hb : PSs X b u) : PS X (.If c a b pos) (tIfS tc t u) := by
  intro pins s σ H D I h
  refine wpAny_If (thn (hc pins s σ H _ I h) fun d s1 ⟨H1, I1, q1⟩ => ?_)
  cases d with
  | true => exact ha pins s1 σ H1 D I1 q1
  | false => exact hb pins s1 σ H1 D I1 q1
/-- code that the proof never comes to -/
def tNever : TS := fun _ _ _ => False
theorem ps_never : PS X st tNever := fun _ _ _ _ _ _ h => h.elim
end

abbrev TG := V → St → Hp → (St → Hp → Prop) → Prop
abbrev TGs := List V → St → Hp → (St → Hp → Prop) → Prop
def PG (X : Cx) (target : Expr) (t : TG) : Prop :=
  ∀ (pins : List (Addr × Obj)) (s : Shared) (σ : St) (H : Hp) (v : V) (u : Value) (Q : St → Hp → Prop), Inv X pins σ H s → RelV v u → t v σ H Q →
    wpAny (model X.prog X.w) X.A (assign target X.env u) (fun _ s' => ∃ σ' H', Inv X pins σ' H' s' ∧ Q σ' H') X.xe s
/-- several targets, one after another -/
def PGs (X : Cx) (ts : List Expr) (t : TGs) : Prop :=
  ∀ (pins : List (Addr × Obj)) (s : Shared) (σ : St) (H : Hp) (vs : List V) (us : List Value) (Q : St → Hp → Prop), Inv X pins σ H s → Vals vs us → t vs σ H Q →
    wpAny (model X.prog X.w) X.A (assignInOrder ((assignEach ts X.env).map (·.2)) us) (fun _ s' => ∃ σ' H', Inv X pins σ' H' s' ∧ Q σ' H') X.xe s
/-- o[i] = v, by values -/
abbrev TSet := V → V → V → Hp → (Hp → Prop) → Prop
section
variable {X : Cx} {pos : Pos}
def gName (i : Nat) : TG := fun v σ H Q => Q (σ.set i (some v)) H
theorem pg_name {i : Nat} {x : Str} (hN : X.N.Nodup) (hi : X.N[i]? = some x) (hx : Loc X.env.scope x) (hf : X.fn x = true ∨ X.env.scope.names.lookup x = some .local := by first | exact .inl rfl | exact .inr rfl | assumption) : PG X (.Name x pos) (gName i) := by
  intro pins s σ H v u Q I r h
  exact wpAny_assign_Name (store_ok I hN hi hx r (fun s' I' => ⟨_, H, I', h⟩) hf)
def gNil : TGs := fun vs σ H Q => vs = [] ∧ Q σ H
def gCons (t : TG) (u : TGs) : TGs := fun vs σ H Q => ∃ v r, vs = v :: r ∧ t v σ H fun σ' H' => u r σ' H' Q
theorem pgs_nil : PGs X [] gNil := by
  intro pins s σ H vs us Q I r h
  obtain ⟨e, h⟩ := h
  subst e
  cases r
  exact assignInOrder_nil ⟨σ, H, I, h⟩
theorem pgs_cons {e : Expr} {es : List Expr} {t : TG} {u : TGs} (h1 : PG X e t) (h2 : PGs X es u)
    (hs : (assignEach (e :: es) X.env).map (·.2) = assign e X.env :: (assignEach es X.env).map (·.2) := by rfl) : PGs X (e :: es) (gCons t u) := by
  intro pins s σ H vs us Q I r h
  obtain ⟨v, vr, e1, h⟩ := h
  subst e1
  cases r with
  | cons r rr =>
    rw [hs]
    refine assignInOrder_cons (thn (h1 pins s σ H _ _ _ I r h) fun _ s1 ⟨σ1, H1, I1, q1⟩ => ?_)
    exact h2 pins s1 σ1 H1 _ _ Q I1 rr q1
/-- (a, b, ..) = a tuple of that length -/
def gTup (K : PySem.W.Frag) (n : Nat) (t : TGs) : TG := fun v σ H Q => ∃ a xs, v = .ref a ∧ SqT K H a xs ∧ xs.length = n ∧ t xs σ H Q
theorem pg_tup {es : List Expr} {k : Nat} {t : TGs} {n : Nat} (hc : X.calm = true) (h : PGs X es t)
    (hn : (assignEach es X.env).length = n := by rfl) (hst : (assignEach es X.env).findIdx? (·.1) = none := by rfl) : PG X (.Tuple es k pos) (gTup X.K n t) := by
  intro pins s σ H v u Q I r hw
  obtain ⟨a, xs, e1, hq, hl, hw⟩ := hw
  subst e1
  cases r
  obtain ⟨its, rv, ht, hz⟩ := I.tuple hq
  refine assign_Tuple_tuple (I.ok.hd hc) ht (by simp [hn, ← hl, rv.length]) hst fun h' hx => ?_
  have I1 : Inv X pins σ H { s with heap := h' } := I.kept (t' := s.toks) fun b o e => hx b o (Nat.ne_of_lt (Heap.lt_size e)) e
  exact h pins _ σ H xs _ Q I1 (by simpa using rv) hw
/-- o[i] = .. -/
def gSub (to ti : TE) (t : TSet) : TG := fun v σ H Q => to σ H fun o H1 => ti σ H1 fun i H2 => t o i v H2 fun H3 => Q σ H3
/-- target = value -/
def tAsg (te : TE) (g : TG) : TS := fun D σ H => te σ H fun x H1 => g x σ H1 D.nx
/-- name = value -/
theorem ps_set {i : Nat} {x : Str} {e : Expr} {te : TE} {pos' : Pos} (hN : X.N.Nodup) (hi : X.N[i]? = some x) (hx : Loc X.env.scope x) (he : PE X e te) (hs : swapsWith e (some (.Name x pos')) pos.line X.env = pure false := by rfl) (hf : X.fn x = true ∨ X.env.scope.names.lookup x = some .local := by first | exact .inl rfl | exact .inr rfl | assumption) :
    PS X (.Assign [.Name x pos'] e pos) (tAsg te (gName i)) := by
  intro pins s σ H D I h
  refine wpAny_Assign_Name (thn (he pins s σ H _ I h) fun v s1 ⟨y, H1, I1, r1, q1⟩ => ?_) hs
  exact store_ok I1 hN hi hx r1 (fun s2 I2 => ⟨_, H1, I2, q1⟩) hf
/-- a, b = x, y with plain local names: stored from the right; the pair itself is not tracked (the opening rows as in PyProof/Rows/TupAssign.lean:23) -/
def tPar (i j : Nat) (ta : TA) : TS := fun D σ H => ta σ H fun vs H1 => ∃ v w, vs = [v, w] ∧ D.nx ((σ.set i (some v)).set j (some w)) H1
end

section
variable {X : Cx} {pos : Pos}
/-- the invariant W with its measure -/
def tWhile (c : TT) (tb : TS) : TS := fun D σ H => ∃ W : Nat → St → Hp → Prop, (∃ m, W m σ H) ∧ ∀ m σ H, W m σ H →
  c σ H fun b H1 => if b = true then ∃ N : St → Hp → Prop, (∀ σ' H', N σ' H' → ∃ m', m' < m ∧ W m' σ' H') ∧ tb { D with nx := N, ct := N, bk := D.nx } σ H1 else D.nx σ H1
theorem ps_while {c : Expr} {body : List Stmt} {tc : TT} {tb : TS} (hp : PassesOwn (model X.prog X.w) X.A X.env X.xe) (hc : PT X c tc) (hb : PSs X body tb) : PS X (.While c body [] pos) (tWhile tc tb) := by
  intro pins s σ H D I h
  obtain ⟨W, ⟨m0, w0⟩, turn⟩ := h
  refine wpAny_While (codeAny_whileLoop (fun n s' => ∃ σ' H', Inv X pins σ' H' s' ∧ W n σ' H') ?_ m0 ⟨σ, H, I, w0⟩)
  rintro n s1 ⟨σ1, H1, I1, w1⟩
  refine wpAny_passesOwn hp (thn (hc pins s1 σ1 H1 _ I1 (turn n σ1 H1 w1)) fun b s2 ⟨H2, I2, q2⟩ => ?_)
  cases b with
  | true =>
    obtain ⟨N, hN, q2⟩ := q2
    rw [if_pos rfl]
    refine wpAny_passesOwn hp (thn (hb pins s2 σ1 H2 _ I2 q2) fun f s3 q3 => ?_)
    cases f with
    | next =>
      obtain ⟨σ3, H3, I3, n3⟩ := q3
      obtain ⟨m', hm, w3⟩ := hN σ3 H3 n3
      exact ⟨m', hm, σ3, H3, I3, w3⟩
    | cont =>
      obtain ⟨σ3, H3, I3, n3⟩ := q3
      obtain ⟨m', hm, w3⟩ := hN σ3 H3 n3
      exact ⟨m', hm, σ3, H3, I3, w3⟩
    | brk => exact q3
    | ret v => exact q3
  | false =>
    rw [if_neg Bool.false_ne_true]
    exact wpAny_execs_nil ⟨σ1, H2, I2, q2⟩
end

/-- at turn i: it yields x (the heap may grow), or it stops -/
structure It where
  go : Nat → Hp → Prop
  yld : Nat → Hp → V → Hp → Prop
  stop : Nat → Hp → Prop
/-- the iterator's own objects may turn: they are not the frame's, not pinned, younger than the entry (or a comprehension's own) -/
def FpOk (X : Cx) (pins : List (Addr × Obj)) (H : Hp) (b : Addr) : Prop :=
  H b = none ∧ b ≠ X.env.locals ∧ b ∉ X.fs ∧ (b ∈ X.ex ∨ X.s₀.heap.objs.size ≤ b) ∧ (∀ x c, X.env.cells.lookup x = some c → c ≠ b) ∧ ∀ p ∈ X.pn ++ pins, p.1 ≠ b
theorem Inv.fpOk {X : Cx} {pins : List (Addr × Obj)} {σ : St} {H H' : Hp} {s : Shared} {b : Addr} (I : Inv X pins σ H s) (hb : s.heap.objs.size ≤ b) (hn : H' b = none) : FpOk X pins H' b := by
  refine ⟨hn, Nat.ne_of_gt (Nat.lt_of_lt_of_le I.lt hb), I.nofs hb, .inr (Nat.le_trans I.sz hb), fun x c e z => ?_, fun p hp z => ?_⟩
  · obtain ⟨v, q⟩ := I.cell x c e
    exact absurd (Nat.lt_of_lt_of_le q.lt (by rw [z]; exact hb)) (Nat.lt_irrefl _)
  · exact absurd (Nat.lt_of_lt_of_le (Heap.lt_size (I.pin p hp).1) (by rw [z]; exact hb)) (Nat.lt_irrefl _)
structure Turn (P : Program) (w : World) (K : PySem.W.Frag) (tg : Expr) (J : It) (fp : List Addr) (it : Addr) (tn : Nat → Heap → Prop) : Prop where
  mem : it ∈ fp
  obj : ∀ i h, tn i h → ∀ b ∈ fp, ∃ o, h.get? b = some o ∧ ∀ v, o.data ≠ .cell v
  keep : ∀ i h h', tn i h → (∀ b ∈ fp, ∀ o, h.get? b = some o → h'.get? b = some o) → tn i h'
  item : ∀ (X : Cx), X.prog = P → X.w = w → X.K = K → X.calm = true → ∀ (i : Nat) (pins : List (Addr × Obj)) (s : Shared) (σ : St) (H : Hp) (E : Value → Shared → Prop), Inv X pins σ H s → (∀ b ∈ fp, FpOk X pins H b) → tn i s.heap → J.go i H →
    wpAny (model P w) X.A (pyNext (.ref it)) (fun r s1 => ∃ u, r = some u ∧
      wpAny (model P w) X.A (letOwnedTupleGo tg (.ref it) u) (fun _ s2 => ∃ x H', Inv X pins σ H' s2 ∧ RelV x u ∧ J.yld i H x H' ∧ tn (i + 1) s2.heap ∧ ∀ b ∈ fp, H' b = none) E s1) E s
  done : ∀ (X : Cx), X.prog = P → X.w = w → X.K = K → X.calm = true → ∀ (i : Nat) (pins : List (Addr × Obj)) (s : Shared) (σ : St) (H : Hp) (E : Value → Shared → Prop), Inv X pins σ H s → (∀ b ∈ fp, FpOk X pins H b) → tn i s.heap → J.stop i H →
    wpAny (model P w) X.A (pyNext (.ref it)) (fun r s1 => r = none ∧ Inv X pins σ H s1) E s
  self : ∀ (A : Around) (i : Nat) (s : Shared) (Q : Value → Shared → Prop) (E : Value → Shared → Prop), tn i s.heap → Q (.ref it) s → wpAny (model P w) A (pyIter (.ref it)) Q E s
abbrev TI := St → Hp → (It → Hp → Prop) → Prop
/-- an iterator has come -/
def PIE (X : Cx) (pins : List (Addr × Obj)) (σ : St) (tg : Expr) (R : It → Hp → Prop) (itv : Value) (s2 : Shared) : Prop :=
  ∃ (it : Addr) (fp : List Addr) (tn : Nat → Heap → Prop) (J : It) (H' : Hp), itv = .ref it ∧ Inv X pins σ H' s2 ∧ Turn X.prog X.w X.K tg J fp it tn ∧ tn 0 s2.heap ∧ (∀ b ∈ fp, FpOk X pins H' b) ∧ R J H'
def PI (X : Cx) (tg iter : Expr) (wi : TI) : Prop :=
  ∀ (pins : List (Addr × Obj)) (s : Shared) (σ : St) (H : Hp) (R : It → Hp → Prop), Inv X pins σ H s → wi σ H R →
    wpAny (model X.prog X.w) X.A (eval iter X.env) (fun v s1 => wpAny (model X.prog X.w) X.A (pyIter v) (PIE X pins σ tg R) X.xe s1) X.xe s

/-- the step ahead of the store is nothing for an iterator that keeps no tuple -/
theorem go_of {M : Model} {A : Around} {E : Value → Shared → Prop} {s : Shared} {tg : Expr} {it : Addr} {u : Value} {o : Obj} {n : String} {vs : Array Value} {Q : Unit → Shared → Prop} (ho : s.heap.get? it = some o) (hc : o.cls = .type n) (hd : o.data = .fields vs)
    (hn : ["enumerate", "zip", "dict_itemiterator", "dict_reverseitemiterator", "odict_iterator", "itertools.zip_longest", "itertools.pairwise"].contains n = false) (hQ : Q () s) : wpAny M A (letOwnedTupleGo tg (.ref it) u) Q E s := by
  unfold letOwnedTupleGo
  cases tg <;> first
    | exact wpAny_pure hQ
    | (cases u <;> first
        | exact wpAny_pure hQ
        | (refine wpAny_bind (wpAny_load ho ?_)
           rw [hc, hd]
           show wpAny M A (if (["enumerate", "zip", "dict_itemiterator", "dict_reverseitemiterator", "odict_iterator", "itertools.zip_longest", "itertools.pairwise"].contains n && vs[0]? == some (rawInt _)) = true then _ else _) Q E s
           rw [if_neg (by intro h; rw [hn, Bool.false_and] at h; cases h)]
           exact wpAny_pure hQ))

/-- the list at a, as it stands at each turn (a loop may append to it) -/
def Itl (K : PySem.W.Frag) (a : Addr) : It :=
  ⟨fun i H => ∃ xs x, SqL K H a xs ∧ xs[i]? = some x, fun i H x H' => H' = H ∧ ∀ xs, SqL K H a xs → xs[i]? = some x, fun i H => ∃ xs, SqL K H a xs ∧ xs.length ≤ i⟩
def Itt (K : PySem.W.Frag) (a : Addr) : It :=
  ⟨fun i H => ∃ xs x, SqT K H a xs ∧ xs[i]? = some x, fun i H x H' => H' = H ∧ ∀ xs, SqT K H a xs → xs[i]? = some x, fun i H => ∃ xs, SqT K H a xs ∧ xs.length ≤ i⟩
/-- lo, lo + 1, .. (n of them) -/
def Itr (lo : Int) (n : Nat) : It := ⟨fun i _ => i < n, fun i H x H' => H' = H ∧ x = .int (lo + i), fun i _ => n ≤ i⟩
theorem turn_list {P : Program} {w : World} {K : PySem.W.Frag} {tg : Expr} (a it : Addr) : Turn P w K tg (Itl K a) [it] it (fun i h => h.IsListIter it a i) where
  mem := by simp
  obj := fun i h st b hb => by
    have e : b = it := by simpa using hb
    subst e
    obtain ⟨o, e, c, d⟩ := st
    exact ⟨o, e, fun v z => by rw [d] at z; cases z⟩
  keep := fun i h h' st k => st.at fun o e => k it (by simp) o e
  item := by
    intro X hP hw hK hc i pins s σ H E I hf st hg
    subst hP hw hK
    obtain ⟨xs, x, hq, hx⟩ := hg
    obtain ⟨its, rv, p, hz⟩ := I.list hq
    obtain ⟨u, hu, ru⟩ := rv.get hx
    obtain ⟨f0, f1, f2, f3, f4, f5⟩ := hf it (by simp)
    refine wpAny_pyNext_list_item st p.isList (x := u) (by simpa using hu) fun h' st' sb => ?_
    have I1 : Inv X pins σ H { s with heap := h' } := I.turned (t' := s.toks) (fun b o hb e => (sb.2 b hb).trans e) f0 f1 f3 f4 f5
    obtain ⟨o, e, c, d⟩ := id st'
    exact ⟨u, rfl, go_of (s := { s with heap := h' }) e c d (by decide) ⟨x, H, I1, ru, ⟨rfl, fun ys hy => by rw [I.list_inj hy hq]; exact hx⟩, st', fun b hb => (hf b hb).1⟩⟩
  done := by
    intro X hP hw hK hc i pins s σ H E I hf st hg
    subst hP hw hK
    obtain ⟨xs, hq, hx⟩ := hg
    obtain ⟨its, rv, p, hz⟩ := I.list hq
    obtain ⟨f0, f1, f2, f3, f4, f5⟩ := hf it (by simp)
    have hl := rv.length
    exact wpAny_pyNext_list_end (I.ok.hd hc) st p.isList (by simp; omega) fun h' eb => ⟨rfl, I.turned (t' := s.toks) (fun b o hb e => eb b o hb e) f0 f1 f3 f4 f5⟩
  self := fun _ _ _ _ _ st h => wpAny_pyIter_listiter st h
theorem turn_tuple {P : Program} {w : World} {K : PySem.W.Frag} {tg : Expr} (a it : Addr) : Turn P w K tg (Itt K a) [it] it (fun i h => h.IsTupleIter it a i) where
  mem := by simp
  obj := fun i h st b hb => by
    have e : b = it := by simpa using hb
    subst e
    obtain ⟨o, e, c, d⟩ := st
    exact ⟨o, e, fun v z => by rw [d] at z; cases z⟩
  keep := fun i h h' st k => st.at fun o e => k it (by simp) o e
  item := by
    intro X hP hw hK hc i pins s σ H E I hf st hg
    subst hP hw hK
    obtain ⟨xs, x, hq, hx⟩ := hg
    obtain ⟨its, rv, p, hz⟩ := I.tuple hq
    obtain ⟨u, hu, ru⟩ := rv.get hx
    obtain ⟨f0, f1, f2, f3, f4, f5⟩ := hf it (by simp)
    refine wpAny_pyNext_tuple_item st (show s.heap.IsTuple a its.toArray from p) (x := u) (by simpa using hu) fun h' st' sb => ?_
    have I1 : Inv X pins σ H { s with heap := h' } := I.turned (t' := s.toks) (fun b o hb e => (sb.2 b hb).trans e) f0 f1 f3 f4 f5
    obtain ⟨o, e, c, d⟩ := id st'
    exact ⟨u, rfl, go_of (s := { s with heap := h' }) e c d (by decide) ⟨x, H, I1, ru, ⟨rfl, fun ys hy => by rw [I.tuple_inj hy hq]; exact hx⟩, st', fun b hb => (hf b hb).1⟩⟩
  done := by
    intro X hP hw hK hc i pins s σ H E I hf st hg
    subst hP hw hK
    obtain ⟨xs, hq, hx⟩ := hg
    obtain ⟨its, rv, p, hz⟩ := I.tuple hq
    obtain ⟨f0, f1, f2, f3, f4, f5⟩ := hf it (by simp)
    have hl := rv.length
    exact wpAny_pyNext_tuple_end (I.ok.hd hc) st (show s.heap.IsTuple a its.toArray from p) (by simp; omega) fun h' eb => ⟨rfl, I.turned (t' := s.toks) (fun b o hb e => eb b o hb e) f0 f1 f3 f4 f5⟩
  self := fun _ _ _ _ _ st h => wpAny_pyIter_tupleiter st h
theorem turn_range {P : Program} {w : World} {K : PySem.W.Frag} {tg : Expr} (it : Addr) (lo : Int) (n : Nat) : Turn P w K tg (Itr lo n) [it] it (fun i h => IsRangeIter h it (lo + (i : Nat) * 1) ((n : Int) - (i : Nat)) 1) where
  mem := by simp
  obj := fun i h st b hb => by
    have e : b = it := by simpa using hb
    subst e
    exact ⟨_, st, fun v z => by
      have z' : Data.fields _ = Data.cell v := z
      cases z'⟩
  keep := fun i h h' st k => k it (by simp) _ st
  item := by
    intro X hP hw hK hc i pins s σ H E I hf st hg
    subst hP hw hK
    obtain ⟨f0, f1, f2, f3, f4, f5⟩ := hf it (by simp)
    have W := Walks.range (prog := X.prog) (w := X.w) (I.ok.hd hc) it lo 1 n
    refine W.item i s _ _ hg st fun v h' tk hv st' kk => ?_
    obtain ⟨t, rfl⟩ := hv
    have I1 : Inv X pins σ H { s with heap := h', toks := tk } := I.turned (fun b o hb e => kk b o (by simpa using hb) e) f0 f1 f3 f4 f5
    refine ⟨_, rfl, go_of (s := { s with heap := h', toks := tk }) (n := "range_iterator") st' rfl rfl (by decide) ⟨.int (lo + i), H, I1, ⟨t, ?_⟩, ⟨rfl, rfl⟩, st', fun b hb => (hf b hb).1⟩⟩
    rw [Int.mul_one]
  done := by
    intro X hP hw hK hc i pins s σ H E I hf st hg
    subst hP hw hK
    obtain ⟨f0, f1, f2, f3, f4, f5⟩ := hf it (by simp)
    exact wpAny_pyNext_range_end (I.ok.hd hc) st (by have : n ≤ i := hg; omega) fun h' eb => ⟨rfl, I.turned (t' := s.toks) (fun b o hb e => eb b o hb e) f0 f1 f3 f4 f5⟩
  self := fun _ _ _ _ _ st h => wpAny_pyIter_rangeiter st h
end L2

namespace L2
open PySem PySem.Spec PyProof.Rows
section
variable {X : Cx} {tg : Expr}
def iList (K : PySem.W.Frag) (tl : TE) : TI := fun σ H R => tl σ H fun x H1 => ∃ a, x = .ref a ∧ (∃ xs, SqL K H1 a xs) ∧ R (Itl K a) H1
def iTup (K : PySem.W.Frag) (tl : TE) : TI := fun σ H R => tl σ H fun x H1 => ∃ a, x = .ref a ∧ (∃ xs, SqT K H1 a xs) ∧ R (Itt K a) H1
theorem pi_list {l : Expr} {tl : TE} (hl : PE X l tl) : PI X tg l (iList X.K tl) := by
  intro pins s σ H R I h
  refine thn (hl pins s σ H _ I h) fun v s1 ⟨x, H1, I1, r1, q1⟩ => ?_
  obtain ⟨a, e, ⟨xs, hq⟩, q⟩ := q1
  subst e
  cases r1
  obtain ⟨its, rv, p, hz⟩ := I1.list hq
  refine wpAny_pyIter_list p.isList ?_
  refine ⟨s1.heap.objs.size, [s1.heap.objs.size], _, _, H1, rfl, I1.kept (t' := s1.toks) fun b o e => Heap.get?_push_of_some _ e, turn_list a _, ⟨_, Heap.get?_push_size _ rfl, rfl, rfl⟩, fun b hb => ?_, q⟩
  have e : b = s1.heap.objs.size := by simpa using hb
  subst e
  exact I1.fpOk (Nat.le_refl _) (I1.hok.fresh (Nat.le_refl _))
theorem pi_tup {l : Expr} {tl : TE} (hl : PE X l tl) : PI X tg l (iTup X.K tl) := by
  intro pins s σ H R I h
  refine thn (hl pins s σ H _ I h) fun v s1 ⟨x, H1, I1, r1, q1⟩ => ?_
  obtain ⟨a, e, ⟨xs, hq⟩, q⟩ := q1
  subst e
  cases r1
  obtain ⟨its, rv, p, hz⟩ := I1.tuple hq
  refine wpAny_pyIter_tuple (show s1.heap.IsTuple a its.toArray from p) ?_
  refine ⟨s1.heap.objs.size, [s1.heap.objs.size], _, _, H1, rfl, I1.kept (t' := s1.toks) fun b o e => Heap.get?_push_of_some _ e, turn_tuple a _, ⟨_, Heap.get?_push_size _ rfl, rfl, rfl⟩, fun b hb => ?_, q⟩
  have e : b = s1.heap.objs.size := by simpa using hb
  subst e
  exact I1.fpOk (Nat.le_refl _) (I1.hok.fresh (Nat.le_refl _))
/-- a range object just made, walked -/
theorem range_it {pins : List (Addr × Obj)} {σ : St} {H : Hp} {s : Shared} {R : It → Hp → Prop} {E : Value → Shared → Prop} {lo hi : Int} {t u v : Tok} {tk : Nat} (I : Inv X pins σ H s) (h1 : -(2 ^ 62) ≤ lo) (h2 : lo < 2 ^ 62) (h3 : -(2 ^ 62) ≤ hi) (h4 : hi < 2 ^ 62)
    (q : R (Itr lo (hi - lo).toNat) H) : wpAny (model X.prog X.w) X.A (pyIter (.ref s.heap.objs.size)) (PIE X pins σ tg R) E { s with heap := s.heap.push { cls := .type "range", data := .fields #[.int lo t, .int hi u, .int 1 v] }, toks := tk } := by
  refine wpAny_pyIter_range (IsRange.new ..) (small_one h1 h2 h3 h4) ?_
  have I1 : Inv X pins σ H { s with heap := s.heap.push { cls := .type "range", data := .fields #[.int lo t, .int hi u, .int 1 v] }, toks := tk } := I.kept fun b o e => Heap.get?_push_of_some _ e
  refine ⟨(s.heap.push { cls := .type "range", data := .fields #[.int lo t, .int hi u, .int 1 v] }).objs.size, [(s.heap.push { cls := .type "range", data := .fields #[.int lo t, .int hi u, .int 1 v] }).objs.size], _, _, H, rfl,
    I1.kept (t' := tk) fun b o e => Heap.get?_push_of_some _ e, turn_range _ lo (hi - lo).toNat, ?_, fun b hb => ?_, q⟩
  · have e1 : lo + ((0 : Nat) : Int) * 1 = lo := by simp
    have e2 : (((hi - lo).toNat : Nat) : Int) - ((0 : Nat) : Int) = Builtin.Range.rangeSize lo hi 1 := by rw [rangeSize_one]; split <;> omega
    show IsRangeIter _ _ (lo + ((0 : Nat) : Int) * 1) ((((hi - lo).toNat : Nat) : Int) - ((0 : Nat) : Int)) 1
    rw [e1, e2]
    exact Heap.get?_push_size _ rfl
  · have e : b = (s.heap.push { cls := .type "range", data := .fields #[.int lo t, .int hi u, .int 1 v] }).objs.size := by simpa using hb
    subst e
    exact I1.fpOk (Nat.le_refl _) (I1.hok.fresh (Nat.le_refl _))
def iRng1 (ta : TA) : TI := fun σ H R => ta σ H fun vs H1 => ∃ j : Int, vs = [.int j] ∧ -(2 ^ 62) ≤ j ∧ j < 2 ^ 62 ∧ R (Itr 0 j.toNat) H1
def iRng2 (ta : TA) : TI := fun σ H R => ta σ H fun vs H1 => ∃ i j : Int, vs = [.int i, .int j] ∧ (-(2 ^ 62) ≤ i ∧ i < 2 ^ 62 ∧ -(2 ^ 62) ≤ j ∧ j < 2 ^ 62) ∧ R (Itr i (j - i).toNat) H1
theorem pi_range1 {a : Expr} {ta : TA} {p pos : Pos} (hg : Gl X "range") (hm : X.mg "range" = none) (ha : PA X [a] ta) (hs : starEach [a] X.env = [(false, eval a X.env)] := by rfl) : PI X tg (.Call (.Name "range" p) [a] [] pos) (iRng1 ta) := by
  intro pins s σ H R I h
  refine Call_ (ld_blt I hg hm boot_range (PyProof.Rows.callWith_type1 (thn (ha pos pins s σ H _ I h) fun us s1 ⟨vs, H1, I1, r1, q1⟩ => ?_) hs rfl))
  obtain ⟨j, e, q1, q2, q⟩ := q1
  subst e
  cases r1 with
  | cons r rr =>
    cases rr
    obtain ⟨t, rfl⟩ := r
    exact call_range_1 (range_it I1 (by omega) (by omega) q1 q2 (by simpa using q))
/-- W: the invariant by the turn and a measure; N: what the body is to reach -/
def tFor (wi : TI) (g : TG) (tb : TS) : TS := fun D σ H => wi σ H fun J H1 => ∃ W : Nat → Nat → St → Hp → Prop, (∃ m, W 0 m σ H1) ∧ ∀ i m σ H, W i m σ H →
  (J.stop i H ∧ D.nx σ H) ∨ (J.go i H ∧ ∃ N : St → Hp → Prop, (∀ σ' H', N σ' H' → ∃ m', m' < m ∧ W (i + 1) m' σ' H') ∧ ∀ x H', J.yld i H x H' → g x σ H' fun σ2 H2 => tb { D with nx := N, ct := N, bk := D.nx } σ2 H2)
/-- the records at fp as they stand -/
def pinsAt (fp : List Addr) (h : Heap) : List (Addr × Obj) := fp.filterMap fun b => (h.get? b).map fun o => (b, o)
theorem mem_pinsAt {fp : List Addr} {h : Heap} {b : Addr} {o : Obj} (hb : b ∈ fp) (e : h.get? b = some o) : (b, o) ∈ pinsAt fp h := List.mem_filterMap.mpr ⟨b, hb, by rw [e]; rfl⟩
theorem of_pinsAt {fp : List Addr} {h : Heap} {p : Addr × Obj} (hp : p ∈ pinsAt fp h) : p.1 ∈ fp ∧ h.get? p.1 = some p.2 := by
  obtain ⟨b, hb, e⟩ := List.mem_filterMap.mp hp
  cases q : h.get? b with
  | none => rw [q] at e; cases e
  | some o =>
    rw [q] at e
    have e' : (b, o) = p := Option.some.inj e
    subst e'
    exact ⟨hb, q⟩
theorem Inv.pinned {pins : List (Addr × Obj)} {σ : St} {H : Hp} {s : Shared} {fp : List Addr} (I : Inv X pins σ H s) (hf : ∀ b ∈ fp, FpOk X pins H b) (ho : ∀ b ∈ fp, ∃ o, s.heap.get? b = some o ∧ ∀ v, o.data ≠ .cell v) : Inv X (pins ++ pinsAt fp s.heap) σ H s :=
  I.pins_of fun p hp => (List.mem_append.mp hp).elim (fun z => I.pin p (List.mem_append_right _ z)) fun z => by
    obtain ⟨hb, e⟩ := of_pinsAt z
    obtain ⟨f0, f1, f2, _⟩ := hf p.1 hb
    obtain ⟨o, e', d⟩ := ho p.1 hb
    rw [e] at e'; cases e'
    exact ⟨e, f0, f1, f2, d⟩
theorem Inv.unpinned {pins pl : List (Addr × Obj)} {σ : St} {H : Hp} {s : Shared} (I : Inv X (pins ++ pl) σ H s) : Inv X pins σ H s := I.pins_of fun p hp => I.pin p (List.mem_append_right _ (List.mem_append_left _ hp))
theorem ps_for {iter : Expr} {body : List Stmt} {wi : TI} {g : TG} {tb : TS} {pos : Pos} (hp : PassesOwn (model X.prog X.w) X.A X.env X.xe) (hc : X.calm = true) (hi : PI X tg iter wi) (hg : PG X tg g) (hb : PSs X body tb)
    (hs : ∀ x, foldedSetIterable iter X.env x = pure x := by intro _; rfl) : PS X (.For tg iter body [] pos) (tFor wi g tb) := by
  intro pins s σ H D I h
  refine wpAny_For (thn (hi pins s σ H _ I h) fun v s1 h1 => thn h1 fun itv s2 h2 => ?_) hs
  obtain ⟨it, fp, tn, J, H2, e, I2, T, st2, f2, W, ⟨m0, w0⟩, turn⟩ := h2
  subst e
  -- what stays true of the iterator's objects through the loop
  have stat : ∀ {H' : Hp}, (∀ b ∈ fp, H' b = none) → ∀ b ∈ fp, FpOk X pins H' b := fun hn b hb => ⟨hn b hb, (f2 b hb).2⟩
  refine codeAny_forLoop_any (fun n s' => ∃ i σ' H', Inv X pins σ' H' s' ∧ tn i s'.heap ∧ (∀ b ∈ fp, H' b = none) ∧ W i n σ' H') ?_ m0 ⟨0, σ, H2, I2, st2, fun b hb => (f2 b hb).1, w0⟩
  rintro n s3 ⟨i, σ3, H3, I3, st3, fr3, w3⟩
  rcases turn i n σ3 H3 w3 with ⟨stop, qn⟩ | ⟨go, N, hN, step⟩
  · refine wpAny_passesOwn hp (thn (T.done X rfl rfl rfl hc i pins s3 σ3 H3 X.xe I3 (stat fr3) st3 stop) fun r s4 ⟨hr, I4⟩ => ?_)
    subst hr
    exact wpAny_execs_nil ⟨σ3, H3, I4, qn⟩
  · refine wpAny_passesOwn hp (thn (T.item X rfl rfl rfl hc i pins s3 σ3 H3 X.xe I3 (stat fr3) st3 go) fun r s4 ⟨u, hr, h4⟩ => ?_)
    subst hr
    refine wpAny_passesOwn hp (thn h4 fun _ s5 ⟨x, H5, I5, r5, y5, st5, fr5⟩ => ?_)
    have I5' := I5.pinned (stat fr5) (T.obj _ _ st5)
    refine wpAny_passesOwn hp (thn (hg _ s5 σ3 H5 x u _ I5' r5 (step x H5 y5)) fun _ s6 ⟨σ6, H6, I6, q6⟩ => ?_)
    refine wpAny_passesOwn hp (thn (hb _ s6 σ6 H6 _ I6 q6) fun f s7 q7 => ?_)
    have again : ∀ {σ7 : St} {H7 : Hp}, Inv X (pins ++ pinsAt fp s5.heap) σ7 H7 s7 → N σ7 H7 → ∃ m, m < n ∧ ∃ i σ' H', Inv X pins σ' H' s7 ∧ tn i s7.heap ∧ (∀ b ∈ fp, H' b = none) ∧ W i m σ' H' := fun {σ7 H7} I7 n7 => by
      obtain ⟨m', hm, w7⟩ := hN σ7 H7 n7
      refine ⟨m', hm, i + 1, σ7, H7, I7.unpinned, T.keep _ _ _ st5 fun b hb o e => (I7.pin (b, o) (List.mem_append_right _ (List.mem_append_right _ (mem_pinsAt hb e)))).1, fun b hb => ?_, w7⟩
      obtain ⟨o, e, d⟩ := T.obj _ _ st5 b hb
      exact (I7.pin (b, o) (List.mem_append_right _ (List.mem_append_right _ (mem_pinsAt hb e)))).2.1
    cases f with
    | next => obtain ⟨σ7, H7, I7, n7⟩ := q7; exact again I7 n7
    | cont => obtain ⟨σ7, H7, I7, n7⟩ := q7; exact again I7 n7
    | brk => obtain ⟨σ7, H7, I7, q7⟩ := q7; exact ⟨σ7, H7, I7.unpinned, q7⟩
    | ret v => obtain ⟨x7, σ7, H7, I7, r7, q7⟩ := q7; exact ⟨x7, σ7, H7, I7.unpinned, r7, q7⟩
end

/-- over a list that the body leaves as it is -/
theorem for_list {K : PySem.W.Frag} {a : Addr} {xs : List V} {g : TG} {tb : TS} {D : Ends} {σ : St} {H : Hp} (Pv : Nat → St → Hp → Prop) (h0 : Pv 0 σ H) (hl : ∀ i σ H, i ≤ xs.length → Pv i σ H → SqL K H a xs)
    (hs : ∀ i x σ H, xs[i]? = some x → Pv i σ H → g x σ H fun σ2 H2 => tb { D with nx := Pv (i + 1), ct := Pv (i + 1), bk := D.nx } σ2 H2) (hd : ∀ σ H, Pv xs.length σ H → D.nx σ H) :
    ∃ W : Nat → Nat → St → Hp → Prop, (∃ m, W 0 m σ H) ∧ ∀ i m σ H, W i m σ H →
      ((Itl K a).stop i H ∧ D.nx σ H) ∨ ((Itl K a).go i H ∧ ∃ N : St → Hp → Prop, (∀ σ' H', N σ' H' → ∃ m', m' < m ∧ W (i + 1) m' σ' H') ∧ ∀ x H', (Itl K a).yld i H x H' → g x σ H' fun σ2 H2 => tb { D with nx := N, ct := N, bk := D.nx } σ2 H2) := by
  refine ⟨fun i m σ H => m = xs.length - i ∧ i ≤ xs.length ∧ Pv i σ H, ⟨xs.length, by simp, Nat.zero_le _, h0⟩, ?_⟩
  rintro i m σ H ⟨rfl, hi, p⟩
  have q := hl i σ H hi p
  by_cases hlt : i < xs.length
  · refine .inr ⟨⟨xs, xs[i], q, by simp [hlt]⟩, Pv (i + 1), fun σ' H' p' => ⟨xs.length - (i + 1), by omega, rfl, hlt, p'⟩, fun x H' y => ?_⟩
    obtain ⟨e, y⟩ := y
    subst e
    exact hs i x σ _ (y xs q) p
  · have e : i = xs.length := by omega
    subst e
    exact .inl ⟨⟨xs, q, Nat.le_refl _⟩, hd σ H p⟩
theorem for_tup {K : PySem.W.Frag} {a : Addr} {xs : List V} {g : TG} {tb : TS} {D : Ends} {σ : St} {H : Hp} (Pv : Nat → St → Hp → Prop) (h0 : Pv 0 σ H) (hl : ∀ i σ H, i ≤ xs.length → Pv i σ H → SqT K H a xs)
    (hs : ∀ i x σ H, xs[i]? = some x → Pv i σ H → g x σ H fun σ2 H2 => tb { D with nx := Pv (i + 1), ct := Pv (i + 1), bk := D.nx } σ2 H2) (hd : ∀ σ H, Pv xs.length σ H → D.nx σ H) :
    ∃ W : Nat → Nat → St → Hp → Prop, (∃ m, W 0 m σ H) ∧ ∀ i m σ H, W i m σ H →
      ((Itt K a).stop i H ∧ D.nx σ H) ∨ ((Itt K a).go i H ∧ ∃ N : St → Hp → Prop, (∀ σ' H', N σ' H' → ∃ m', m' < m ∧ W (i + 1) m' σ' H') ∧ ∀ x H', (Itt K a).yld i H x H' → g x σ H' fun σ2 H2 => tb { D with nx := N, ct := N, bk := D.nx } σ2 H2) := by
  refine ⟨fun i m σ H => m = xs.length - i ∧ i ≤ xs.length ∧ Pv i σ H, ⟨xs.length, by simp, Nat.zero_le _, h0⟩, ?_⟩
  rintro i m σ H ⟨rfl, hi, p⟩
  have q := hl i σ H hi p
  by_cases hlt : i < xs.length
  · refine .inr ⟨⟨xs, xs[i], q, by simp [hlt]⟩, Pv (i + 1), fun σ' H' p' => ⟨xs.length - (i + 1), by omega, rfl, hlt, p'⟩, fun x H' y => ?_⟩
    obtain ⟨e, y⟩ := y
    subst e
    exact hs i x σ _ (y xs q) p
  · have e : i = xs.length := by omega
    subst e
    exact .inl ⟨⟨xs, q, Nat.le_refl _⟩, hd σ H p⟩
theorem for_range {lo : Int} {n : Nat} {g : TG} {tb : TS} {D : Ends} {σ : St} {H : Hp} (Pv : Nat → St → Hp → Prop) (h0 : Pv 0 σ H)
    (hs : ∀ i σ H, i < n → Pv i σ H → g (.int (lo + i)) σ H fun σ2 H2 => tb { D with nx := Pv (i + 1), ct := Pv (i + 1), bk := D.nx } σ2 H2) (hd : ∀ σ H, Pv n σ H → D.nx σ H) :
    ∃ W : Nat → Nat → St → Hp → Prop, (∃ m, W 0 m σ H) ∧ ∀ i m σ H, W i m σ H →
      ((Itr lo n).stop i H ∧ D.nx σ H) ∨ ((Itr lo n).go i H ∧ ∃ N : St → Hp → Prop, (∀ σ' H', N σ' H' → ∃ m', m' < m ∧ W (i + 1) m' σ' H') ∧ ∀ x H', (Itr lo n).yld i H x H' → g x σ H' fun σ2 H2 => tb { D with nx := N, ct := N, bk := D.nx } σ2 H2) := by
  refine ⟨fun i m σ H => m = n - i ∧ i ≤ n ∧ Pv i σ H, ⟨n, by simp, Nat.zero_le _, h0⟩, ?_⟩
  rintro i m σ H ⟨rfl, hi, p⟩
  by_cases hlt : i < n
  · refine .inr ⟨hlt, Pv (i + 1), fun σ' H' p' => ⟨n - (i + 1), by omega, rfl, hlt, p'⟩, fun x H' y => ?_⟩
    obtain ⟨e, y⟩ := y
    subst e y
    exact hs i σ _ hlt p
  · have e : i = n := by omega
    subst e
    exact .inl ⟨Nat.le_refl _, hd σ H p⟩
end L2

namespace L2
open PySem PySem.Spec PyProof.Rows

abbrev R2 := V → V → Hp → VK → Prop
/-- a two-place operation on values: f is binaryOp op, inplaceOp op or compareOp op -/
def OpR (X : Cx) (f : Value → Value → Sem Value) (r : R2) : Prop :=
  ∀ (pins : List (Addr × Obj)) (s : Shared) (σ : St) (H : Hp) (x y : V) (v u : Value) (Q : VK), Inv X pins σ H s → RelV x v → RelV y u → r x y H Q →
    wpAny (model X.prog X.w) X.A (f v u) (EP X pins σ Q) X.xe s
/-- a one-place operation -/
def UnR (X : Cx) (f : Value → Sem Value) (r : V → Hp → VK → Prop) : Prop :=
  ∀ (pins : List (Addr × Obj)) (s : Shared) (σ : St) (H : Hp) (x : V) (v : Value) (Q : VK), Inv X pins σ H s → RelV x v → r x H Q →
    wpAny (model X.prog X.w) X.A (f v) (EP X pins σ Q) X.xe s
/-- a call of a value that is known (a builtin, a type) with values -/
def CallR (X : Cx) (f : Value) (r : List V → Hp → VK → Prop) : Prop :=
  ∀ (pins : List (Addr × Obj)) (s : Shared) (σ : St) (H : Hp) (xs : List V) (us : List Value) (Q : VK), Inv X pins σ H s → Vals xs us → r xs H Q →
    wpAny (model X.prog X.w) X.A (call f us) (EP X pins σ Q) X.xe s
def tOp (r : R2) (ta tb : TE) : TE := fun σ H Q => ta σ H fun x H1 => tb σ H1 fun y H2 => r x y H2 Q
def tUn (r : V → Hp → VK → Prop) (ta : TE) : TE := fun σ H Q => ta σ H fun x H1 => r x H1 Q
/-- ints in, under C, and a value out -/
def rI (C : Int → Int → Prop) (g : Int → Int → V) : R2 := fun x y H Q => ∃ i j, x = .int i ∧ y = .int j ∧ C i j ∧ Q (g i j) H
def rI0 (g : Int → Int → V) : R2 := fun x y H Q => ∃ i j, x = .int i ∧ y = .int j ∧ Q (g i j) H
def rU (g : Int → V) : V → Hp → VK → Prop := fun x H Q => ∃ i, x = .int i ∧ Q (g i) H

section
variable {X : Cx} {a b c : Expr} {ta tb tc : TE} {pos : Pos}

theorem binT (ha : PE X a ta) (hb : PE X b tb) {pins : List (Addr × Obj)} {s : Shared} {σ : St} {H : Hp} {R : V → V → Hp → Prop} (I : Inv X pins σ H s)
    (h : ta σ H fun x H1 => tb σ H1 fun y H2 => R x y H2) {Q : Value → Shared → Prop} {f : Value → Value → Sem Value}
    (hf : ∀ v u s2 x y H2, Inv X pins σ H2 s2 → RelV x v → RelV y u → R x y H2 → wpAny (model X.prog X.w) X.A (f v u) Q X.xe s2) :
    wpAny (model X.prog X.w) X.A (eval a X.env) (fun v s₁ => wpAny (model X.prog X.w) X.A (eval b X.env) (fun u s₂ => wpAny (model X.prog X.w) X.A (f v u) Q X.xe s₂) X.xe s₁) X.xe s := by
  refine thn (ha pins s σ H _ I h) fun v s1 ⟨x, H1, I1, r1, q1⟩ => ?_
  refine thn (hb pins s1 σ H1 _ I1 q1) fun u s2 ⟨y, H2, I2, r2, q2⟩ => ?_
  exact hf v u s2 x y H2 I2 r1 r2 q2

theorem pe_op {op : Operator} {r : R2} (ho : OpR X (binaryOp op) r) (ha : PE X a ta) (hb : PE X b tb) : PE X (.BinOp a op b pos) (tOp r ta tb) := by
  intro pins s σ H Q I h
  exact wpAny_BinOp (binT ha hb I h fun v u s2 x y H2 I2 rx ry q => ho pins s2 σ H2 x y v u Q I2 rx ry q)
theorem pe_un {op : UnaryOp} {r : V → Hp → VK → Prop} (ho : UnR X (unaryOp op) r) (ha : PE X a ta) : PE X (.UnaryOp op a pos) (tUn r ta) := by
  intro pins s σ H Q I h
  exact UnaryOp_ (thn (ha pins s σ H _ I h) fun v s1 ⟨x, H1, I1, r1, q1⟩ => ho pins s1 σ H1 x v Q I1 r1 q1)
theorem opI {f : Value → Value → Sem Value} {C : Int → Int → Prop} {g : Int → Int → Int}
    (rule : ∀ (i j : Int) (t u : Tok) (s : Shared) (Q : Value → Shared → Prop) (E : Value → Shared → Prop), C i j → Q (.int (g i j) s.toks) { s with toks := s.toks + 1 } → wpAny (model X.prog X.w) X.A (f (.int i t) (.int j u)) Q E s) :
    OpR X f (rI C fun i j => .int (g i j)) := by
  intro pins s σ H x y v u Q I rx ry h
  obtain ⟨i, j, rfl, rfl, hc, q⟩ := h
  obtain ⟨t, rfl⟩ := rx
  obtain ⟨t', rfl⟩ := ry
  exact rule i j t t' s _ _ hc ⟨.int (g i j), H, I.tok _, ⟨_, rfl⟩, q⟩
theorem opI0 {f : Value → Value → Sem Value} {g : Int → Int → Int}
    (rule : ∀ (i j : Int) (t u : Tok) (s : Shared) (Q : Value → Shared → Prop) (E : Value → Shared → Prop), Q (.int (g i j) s.toks) { s with toks := s.toks + 1 } → wpAny (model X.prog X.w) X.A (f (.int i t) (.int j u)) Q E s) :
    OpR X f (rI0 fun i j => .int (g i j)) := by
  intro pins s σ H x y v u Q I rx ry h
  obtain ⟨i, j, rfl, rfl, q⟩ := h
  obtain ⟨t, rfl⟩ := rx
  obtain ⟨t', rfl⟩ := ry
  exact rule i j t t' s _ _ ⟨.int (g i j), H, I.tok _, ⟨_, rfl⟩, q⟩
theorem opB0 {f : Value → Value → Sem Value} {g : Int → Int → Bool}
    (rule : ∀ (i j : Int) (t u : Tok) (s : Shared) (Q : Value → Shared → Prop) (E : Value → Shared → Prop), Q (.bool (g i j)) s → wpAny (model X.prog X.w) X.A (f (.int i t) (.int j u)) Q E s) :
    OpR X f (rI0 fun i j => .bl (g i j)) := by
  intro pins s σ H x y v u Q I rx ry h
  obtain ⟨i, j, rfl, rfl, q⟩ := h
  obtain ⟨t, rfl⟩ := rx
  obtain ⟨t', rfl⟩ := ry
  exact rule i j t t' s _ _ ⟨.bl (g i j), H, I, rfl, q⟩

def CPow (i j : Int) : Prop := 0 ≤ j ∧ j ≤ 1000000 ∧ i.natAbs < 2 ^ 64
def CMul (i j : Int) : Prop := (-(2 ^ 64) < i ∧ i < 2 ^ 64) ∨ (-(2 ^ 64) < j ∧ j < 2 ^ 64)
theorem CMul.ok {i j : Int} (h : CMul i j) : IntMulOk i j := by
  rcases h with ⟨h1, h2⟩ | ⟨h1, h2⟩
  · exact .of_left (intBits_le_64 h1 h2)
  · exact .of_right (intBits_le_64 h1 h2)
theorem op_add : OpR X (binaryOp .Add) (rI0 fun i j => .int (i + j)) := opI0 fun _ _ _ _ _ _ _ q => add_int q
theorem op_sub : OpR X (binaryOp .Sub) (rI0 fun i j => .int (i - j)) := opI0 fun _ _ _ _ _ _ _ q => sub_int q
/-- % by a positive divisor of any size -/
theorem op_mod : OpR X (binaryOp .Mod) (rI (fun _ j => 0 < j) fun i j => .int (i % j)) := opI fun i j _ _ _ _ _ hc q => by
  have h1 : (0 : Int) < j := hc
  exact mod_int' (by omega) (by rw [Int.fmod_eq_emod_of_nonneg i (by omega)]; exact q)
theorem op_pow : OpR X (binaryOp .Pow) (rI CPow fun i j => .int (i ^ j.toNat)) := opI fun _ _ _ _ _ _ _ hc q => pow_int_small hc.1 hc.2.1 hc.2.2 q
theorem unI {f : Value → Sem Value} {g : Int → Int}
    (rule : ∀ (i : Int) (t : Tok) (s : Shared) (Q : Value → Shared → Prop) (E : Value → Shared → Prop), Q (.int (g i) s.toks) { s with toks := s.toks + 1 } → wpAny (model X.prog X.w) X.A (f (.int i t)) Q E s) :
    UnR X f (rU fun i => .int (g i)) := by
  intro pins s σ H x v Q I rx h
  obtain ⟨i, rfl, q⟩ := h
  obtain ⟨t, rfl⟩ := rx
  exact rule i t s _ _ ⟨.int (g i), H, I.tok _, ⟨_, rfl⟩, q⟩
theorem un_neg : UnR X (unaryOp .USub) (rU fun i => .int (-i)) := unI fun _ _ _ _ _ q => neg_int q
end

/-- the scalars that == tells apart as data does -/
def scal : V → V → Bool
  | .non, .non => true | .non, .int _ => true | .int _, .non => true | .non, .bl _ => true | .bl _, .non => true | .non, .str _ => true | .str _, .non => true
  | .int _, .int _ => true | .bl _, .bl _ => true | .str _, .str _ => true | .byt _, .byt _ => true
  | .int _, .str _ => true | .str _, .int _ => true | .bl _, .str _ => true | .str _, .bl _ => true
  | _, _ => false
def rEq : R2 := fun x y H Q => scal x y = true ∧ Q (.bl (decide (x = y))) H
def rNe : R2 := fun x y H Q => scal x y = true ∧ Q (.bl (!decide (x = y))) H

theorem dec_int {i j : Int} : decide (V.int i = V.int j) = (i == j) := by
  rw [Bool.eq_iff_iff]
  simp
theorem dec_bl {i j : Bool} : decide (V.bl i = V.bl j) = (i == j) := by
  rw [Bool.eq_iff_iff]
  simp
theorem dec_str {i j : Str} : decide (V.str i = V.str j) = (i == j) := by
  rw [Bool.eq_iff_iff]
  simp
theorem dec_byt {i j : Array UInt8} : decide (V.byt i = V.byt j) = (i.toList == j.toList) := by
  rw [Bool.eq_iff_iff]
  cases i
  cases j
  simp

section
variable {X : Cx} {a b c : Expr} {ta tb tc : TE} {pos : Pos}
theorem fin_bl {pins : List (Addr × Obj)} {σ : St} {H : Hp} {s : Shared} {Q : VK} {k k' : Bool} (I : Inv X pins σ H s) (q : Q (.bl k) H) (e : k = k') : EP X pins σ Q (.bool k') s := by
  subst e
  exact ⟨.bl k, H, I, rfl, q⟩
theorem op_eq : OpR X (compareOp .Eq) rEq := by
  intro pins s σ H x y v u Q I rx ry h
  obtain ⟨hs, q⟩ := h
  cases x with
  | non =>
    cases rx
    cases y with
    | non => cases ry; exact PySem.EqNone.eq_none_none (fin_bl I q (by simp))
    | bl j => cases ry; exact PySem.EqNone.eq_none_bool (fin_bl I q (by simp))
    | int j => obtain ⟨t', rfl⟩ := ry; exact PySem.EqNone.eq_none_int (fin_bl I q (by simp))
    | str j => obtain ⟨t', rfl⟩ := ry; exact PySem.EqNone.eq_none_str (fin_bl I q (by simp))
    | _ => exact absurd (show false = true from hs) Bool.false_ne_true
  | bl i =>
    cases rx
    cases y with
    | non => cases ry; exact PySem.EqNone.eq_bool_none (fin_bl I q (by simp))
    | bl j => cases ry; exact eq_bool (fin_bl I q dec_bl)
    | str j => obtain ⟨t', rfl⟩ := ry; exact PySem.EqMixed.eq_bool_str (fin_bl I q (by simp))
    | _ => exact absurd (show false = true from hs) Bool.false_ne_true
  | int i =>
    obtain ⟨t, rfl⟩ := rx
    cases y with
    | non => cases ry; exact PySem.EqNone.eq_int_none (fin_bl I q (by simp))
    | int j => obtain ⟨t', rfl⟩ := ry; exact eq_int (fin_bl I q dec_int)
    | str j => obtain ⟨t', rfl⟩ := ry; exact PySem.EqMixed.eq_int_str (fin_bl I q (by simp))
    | _ => exact absurd (show false = true from hs) Bool.false_ne_true
  | str i =>
    obtain ⟨t, rfl⟩ := rx
    cases y with
    | non => cases ry; exact PySem.EqNone.eq_str_none (fin_bl I q (by simp))
    | bl j => cases ry; exact PySem.EqMixed.eq_str_bool (fin_bl I q (by simp))
    | int j => obtain ⟨t', rfl⟩ := ry; exact PySem.EqMixed.eq_str_int (fin_bl I q (by simp))
    | str j => obtain ⟨t', rfl⟩ := ry; exact eq_str (fin_bl I q dec_str)
    | _ => exact absurd (show false = true from hs) Bool.false_ne_true
  | byt i =>
    obtain ⟨t, rfl⟩ := rx
    cases y with
    | byt j => obtain ⟨t', rfl⟩ := ry; exact PySem.W.eq_bytes (fin_bl I q dec_byt)
    | _ => exact absurd (show false = true from hs) Bool.false_ne_true
  | _ => cases y <;> exact absurd (show false = true from hs) Bool.false_ne_true
theorem op_ne : OpR X (compareOp .NotEq) rNe := by
  intro pins s σ H x y v u Q I rx ry h
  obtain ⟨hs, q⟩ := h
  cases x with
  | non =>
    cases rx
    cases y with
    | non => cases ry; exact PySem.EqNone.ne_none_none (fin_bl I q (by simp))
    | bl j => cases ry; exact PySem.EqNone.ne_none_bool (fin_bl I q (by simp))
    | int j => obtain ⟨t', rfl⟩ := ry; exact PySem.EqNone.ne_none_int (fin_bl I q (by simp))
    | str j => obtain ⟨t', rfl⟩ := ry; exact PySem.EqNone.ne_none_str (fin_bl I q (by simp))
    | _ => exact absurd (show false = true from hs) Bool.false_ne_true
  | bl i =>
    cases rx
    cases y with
    | non => cases ry; exact PySem.EqNone.ne_bool_none (fin_bl I q (by simp))
    | bl j => cases ry; exact ne_bool (fin_bl I q (congrArg not dec_bl))
    | str j => obtain ⟨t', rfl⟩ := ry; exact PySem.EqMixed.ne_bool_str (fin_bl I q (by simp))
    | _ => exact absurd (show false = true from hs) Bool.false_ne_true
  | int i =>
    obtain ⟨t, rfl⟩ := rx
    cases y with
    | non => cases ry; exact PySem.EqNone.ne_int_none (fin_bl I q (by simp))
    | int j => obtain ⟨t', rfl⟩ := ry; exact ne_int (fin_bl I q (congrArg not dec_int))
    | str j => obtain ⟨t', rfl⟩ := ry; exact PySem.EqMixed.ne_int_str (fin_bl I q (by simp))
    | _ => exact absurd (show false = true from hs) Bool.false_ne_true
  | str i =>
    obtain ⟨t, rfl⟩ := rx
    cases y with
    | non => cases ry; exact PySem.EqNone.ne_str_none (fin_bl I q (by simp))
    | bl j => cases ry; exact PySem.EqMixed.ne_str_bool (fin_bl I q (by simp))
    | int j => obtain ⟨t', rfl⟩ := ry; exact PySem.EqMixed.ne_str_int (fin_bl I q (by simp))
    | str j => obtain ⟨t', rfl⟩ := ry; exact ne_str (fin_bl I q (congrArg not dec_str))
    | _ => exact absurd (show false = true from hs) Bool.false_ne_true
  | byt i =>
    obtain ⟨t, rfl⟩ := rx
    cases y with
    | byt j => obtain ⟨t', rfl⟩ := ry; exact PySem.W.ne_bytes (fin_bl I q (congrArg not dec_byt))
    | _ => exact absurd (show false = true from hs) Bool.false_ne_true
  | _ => cases y <;> exact absurd (show false = true from hs) Bool.false_ne_true

theorem op_lt : OpR X (compareOp .Lt) (rI0 fun i j => .bl (decide (i < j))) := opB0 fun _ _ _ _ _ _ _ q => lt_int q
theorem op_le : OpR X (compareOp .LtE) (rI0 fun i j => .bl (decide (i ≤ j))) := opB0 fun _ _ _ _ _ _ _ q => le_int q
theorem op_gt : OpR X (compareOp .Gt) (rI0 fun i j => .bl (decide (j < i))) := opB0 fun _ _ _ _ _ _ _ q => gt_int q
theorem op_ge : OpR X (compareOp .GtE) (rI0 fun i j => .bl (decide (j ≤ i))) := opB0 fun _ _ _ _ _ _ _ q => ge_int q
/-- the one string within the other -/
theorem op_in_str : OpR X (compareOp .In) (fun x y H Q => ∃ i j, x = .str i ∧ y = .str j ∧ Q (.bl (!(Builtin.Str.occurrences j i 0 j.length 1).isEmpty)) H) := by
  intro pins s σ H x y v u Q I rx ry h
  obtain ⟨i, j, rfl, rfl, q⟩ := h
  obtain ⟨t, rfl⟩ := rx
  obtain ⟨t', rfl⟩ := ry
  exact in_str (fin_bl I q rfl)

/-- is None, is not None: the right side a value none -/
theorem op_isN : OpR X (compareOp .Is) (fun x y H Q => y = .non ∧ Q (.bl (decide (x = .non))) H) := by
  intro pins s σ H x y v u Q I rx ry h
  obtain ⟨rfl, q⟩ := h
  cases ry
  refine is_none_gen (fin_bl I q ?_)
  cases x <;> first
    | (cases rx; rfl)
    | (obtain ⟨t, rfl⟩ := rx; rfl)
/-- two rules for one operation: by cases -/
theorem OpR.or {f : Value → Value → Sem Value} {r r' : R2} (h : OpR X f r) (h' : OpR X f r') : OpR X f (fun x y H Q => r x y H Q ∨ r' x y H Q) := by
  intro pins s σ H x y v u Q I rx ry q
  rcases q with q | q
  · exact h pins s σ H x y v u Q I rx ry q
  · exact h' pins s σ H x y v u Q I rx ry q

theorem nomark (b : Expr) {op : CmpOp} (h : op ≠ .In := by decide) (h2 : op ≠ .NotIn := by decide) : behindInMarks op b = false := by
  have e1 : (op == CmpOp.In) = false := by cases op <;> first | rfl | exact absurd rfl h
  have e2 : (op == CmpOp.NotIn) = false := by cases op <;> first | rfl | exact absurd rfl h2
  cases b <;> simp [behindInMarks, e1, e2]
/-- a comparison as a value; hm: nomark b, or (for in, not in) by with_unfolding_all rfl -/
theorem pe_cmpR {op : CmpOp} {r : R2} (ho : OpR X (compareOp op) r) (ha : PE X a ta) (hb : PE X b tb) (hm : behindInMarks op b = false) : PE X (.Compare a [op] [b] pos) (tOp r ta tb) := by
  intro pins s σ H Q I h
  exact wpAny_Compare1 (binT ha hb I h fun v u s2 x y H2 I2 rx ry q => ho pins s2 σ H2 x y v u Q I2 rx ry q) hm
/-- a reading of a value as a test -/
def tTest (t : TE) : TT := fun σ H Q => t σ H fun x H' => ∃ k, x = .bl k ∧ Q k H'
theorem pt_cmpR {op : CmpOp} {r : R2} (ho : OpR X (compareOp op) r) (ha : PE X a ta) (hb : PE X b tb) (hm : behindInMarks op b = false) : PT X (.Compare a [op] [b] pos) (tTest (tOp r ta tb)) := by
  intro pins s σ H Q I h
  refine wpAny_isTrue_Compare1 (thn (ha pins s σ H _ I h) fun v s1 ⟨x, H1, I1, r1, q1⟩ => thn (hb pins s1 σ H1 _ I1 q1) fun u s2 ⟨y, H2, I2, r2, q2⟩ =>
    thn (ho pins s2 σ H2 x y v u _ I2 r1 r2 q2) fun c s3 ⟨z, H3, I3, r3, k, e, q3⟩ => ?_) hm
  subst e
  cases r3
  exact wpAny_truthy_bool ⟨H3, I3, q3⟩
/-- a op1 b op2 c -/
def tChain (r r' : R2) (ta tb tc : TE) : TE := fun σ H Q => ta σ H fun x H1 => tb σ H1 fun y H2 => r x y H2 fun z H3 => ∃ k, z = .bl k ∧
  (if k = true then tc σ H3 fun w' H4 => r' y w' H4 Q else Q (.bl false) H3)
theorem pe_chain {op op' : CmpOp} {r r' : R2} (ho : OpR X (compareOp op) r) (ho' : OpR X (compareOp op') r') (ha : PE X a ta) (hb : PE X b tb) (hc : PE X c tc)
    (hm : lastMarks [op, op'] [b, c] = false := by with_unfolding_all rfl) : PE X (.Compare a [op, op'] [b, c] pos) (tChain r r' ta tb tc) := by
  intro pins s σ H Q I h
  refine Compare_chain (thn (ha pins s σ H _ I h) fun v s1 ⟨x, H1, I1, r1, q1⟩ => chain_link (thn (hb pins s1 σ H1 _ I1 q1) fun u s2 ⟨y, H2, I2, r2, q2⟩ =>
    thn (ho pins s2 σ H2 x y v u _ I2 r1 r2 q2) fun d s3 ⟨z, H3, I3, r3, k, e, q3⟩ => ?_)) hm
  subst e
  cases r3
  refine wpAny_truthy_bool ?_
  cases k with
  | false => exact ite_ff ⟨.bl false, H3, I3, rfl, q3⟩
  | true => exact ite_tt (chain_last (thn (hc pins s3 σ H3 _ I3 q3) fun w' s4 ⟨z', H4, I4, r4, q4⟩ => ho' pins s4 σ H4 y z' u w' Q I4 r2 r4 q4))
theorem line63 : (sizeLine : Nat) < 2 ^ 63 := by rw [sizeLine_eq]; decide
theorem op_add_str : OpR X (binaryOp .Add) (fun x y H Q => ∃ i j, x = .str i ∧ y = .str j ∧ i.length + j.length ≤ sizeLine ∧ Q (.str (i ++ j)) H) := by
  intro pins s σ H x y v u Q I rx ry h
  obtain ⟨i, j, rfl, rfl, hz, q⟩ := h
  obtain ⟨t, rfl⟩ := rx
  obtain ⟨t', rfl⟩ := ry
  exact add_str (fun t' tk => ⟨.str (i ++ j), H, I.tok _, ⟨_, rfl⟩, q⟩) hz
theorem vals1 {x : V} {us : List Value} (r : Vals [x] us) : ∃ u, us = [u] ∧ RelV x u := by
  cases r with
  | cons r1 r2 => cases r2; exact ⟨_, rfl, r1⟩
theorem vals2 {x y : V} {us : List Value} (r : Vals [x, y] us) : ∃ u w', us = [u, w'] ∧ RelV x u ∧ RelV y w' := by
  cases r with
  | cons r1 r2 =>
    cases r2 with
    | cons r3 r4 => cases r4; exact ⟨_, _, rfl, r1, r3⟩
theorem call_str_int : CallR X (.type "str") (fun xs H Q => ∃ i, xs = [.int i] ∧ i.natAbs.log2 < 1920 ∧ Q (.str (toString i)) H) := by
  intro pins s σ H xs us Q I r h
  obtain ⟨i, rfl, hz, q⟩ := h
  obtain ⟨u, rfl, t, rfl⟩ := vals1 r
  exact PySem.P.str_of_int hz ⟨.str _, H, I.tok _, ⟨_, rfl⟩, q⟩
end
end L2

namespace L2
open PySem PySem.Spec PyProof.Rows

structure ObjM (h : Heap) (x dx C : Addr) (mA : Str → Option Value) : Prop where
  obj : h.get? x = some (PySem.W.instObj C dx)
  ns : h.Ns1 dx mA
  ne : dx ≠ x

theorem lookIn_ns {h : Heap} {dx : Addr} {mA : Str → Option Value} (n : h.Ns1 dx mA) : ∃ od, h.get? dx = some od ∧ ∀ name, PySem.W.lookIn name od = some (mA name) := by
  obtain ⟨o, es, ep, ho, hd, hk, _, hm⟩ := n
  refine ⟨o, ho, fun name => ?_⟩
  have e := hm name
  unfold nsFind findBy at e
  rw [← Array.find?_toList] at e
  unfold PySem.W.lookIn
  rw [hd]
  dsimp only
  split
  · rename_i y q
    rw [q] at e
    exact congrArg some e
  · rename_i q
    rw [q] at e
    have a : es.toList.any (·.refKey) = false := by
      rw [List.any_eq_false]
      intro y hy
      obtain ⟨z, t, hkey⟩ := hk y (Array.mem_toList_iff.mp hy)
      simp [DictEntry.refKey, hkey]
    have a' : ¬ es.toList.any (·.refKey) = true := by rw [a]; exact Bool.false_ne_true
    rw [if_neg a']
    exact congrArg some e

theorem ObjM.look {h : Heap} {x dx C : Addr} {mA : Str → Option Value} (I : ObjM h x dx C mA) : ∃ od, PySem.W.InstAt h x (PySem.W.instObj C dx) C (some od) ∧ ∀ name, PySem.W.lookIn name od = some (mA name) :=
  let ⟨od, ho, hl⟩ := lookIn_ns I.ns
  ⟨od, ⟨I.obj, rfl, rfl, ho⟩, hl⟩

section
variable {prog : Program} {w : World} {A : Around} {E : Value → Shared → Prop} {s : Shared} {K : PySem.W.Frag} {x dx C f : Addr} {mA : Str → Option Value} {name : Str} {v : Value}

theorem get_map {expr : Bool} {Q : Value → Shared → Prop} (X : K.In s.heap) (I : ObjM s.heap x dx C mA) (hg : PySem.W.plainGet K C name = true) (hh : PySem.W.hasDictIn K C = true)
    (ha : PySem.W.findIn K (.ref C) name = some none) (hv : mA name = some v) (hv' : PySem.W.handedIn v = true) (h : Q v { s with toks := s.toks + 1 }) :
    wpAny (model prog w) A (getAttr (.ref x) name expr) Q E s := by
  obtain ⟨od, J, hl⟩ := I.look
  exact PySem.W.get_value X J (PySem.W.plainGet_of hg).1 (PySem.W.findObj_own hh ha rfl (by rw [hl, hv])) hv' h

theorem get_meth {pl : Sem Bool} {Q : Value × List Value → Shared → Prop} (X : K.In s.heap) (I : ObjM s.heap x dx C mA) (hg : PySem.W.plainGet K C name = true)
    (hf : PySem.W.findIn K (.ref C) name = some (some (.ref f))) (ht : PySem.W.isFn K (.ref f) = true) (hv : mA name = none) (h : Q (.ref f, [.ref x]) s) :
    wpAny (model prog w) A (getMethod (.ref x) name pl) Q E s := by
  obtain ⟨od, J, hl⟩ := I.look
  exact PySem.W.method_fn X J (PySem.W.plainGet_of hg).1 (PySem.W.plainGet_of hg).2 hf (beq_iff_eq.mp ht) (by show (PySem.W.lookIn name od).map (·.isSome) = some false; rw [hl, hv]; rfl) h

theorem set_map {ns : List Str} {Q : Unit → Shared → Prop} (X : K.In s.heap) (I : ObjM s.heap x dx C mA)
    (hs : PySem.W.findIn K (.ref C) "__setattr__" = some (some (.builtin "object.__setattr__"))) (hp : PySem.W.plainOver K C = true) (ht : PySem.W.takerIn K C name = some none) (hh : PySem.W.hasDictIn K C = true)
    (hw : PySem.Within mA ns) (hsz : ns.length ≤ sizeLine)
    (h : ∀ h', ObjM h' x dx C (fun y => if y = name then some v else mA y) → Heap.SameBut dx s.heap h' → Q () { s with heap := h', toks := s.toks + 2 }) :
    wpAny (model prog w) A (setAttr (.ref x) name v) Q E s := by
  obtain ⟨od, J, hl⟩ := I.look
  refine PySem.W.set_plain X J hs (PySem.W.osa_open (s := { s with toks := s.toks + 1 }) (r := none) X J hp ht fun b => ?_)
  obtain ⟨cd, hc, hd'⟩ := PySem.W.any_some hh
  have hx : s.heap.get? x = some ⟨.ref C, some dx, .plain, #[]⟩ := I.obj
  refine wpAny_bind (wpAny_pure (wpAny_bind (wpAny_bind (wpAny_loadPart hx (wpAny_bind (PySem.W.Looks.here (s := { s with toks := s.toks + 1 }) (PySem.W.looks_clsIn X hc) ?_))))))
  rw [hd']
  refine wpAny_pure (a := some dx) (wpAny_bind (wpAny_pure (wpAny_bind ?_)))
  refine wpAny_nsSet1 (s := { s with toks := s.toks + 1 }) I.ns fun h' hn2 hs2 => ?_
  obtain ⟨oD, esD, epD, hoD, hdD, hcD⟩ := hn2.count (PySem.Within.cons name v hw)
  refine wpAny_bind (wpAny_lookBehind hoD (by rw [hdD]; exact pastItsLine_dict (Nat.le_trans hcD (by rw [List.length_cons]; omega))) ?_)
  exact wpAny_pure (h _ ⟨(hs2.2 _ (Ne.symm I.ne)).trans I.obj, hn2, I.ne⟩ hs2)

/-- C(..): the dict at the heap's end, the instance behind it; then its __init__ -/
theorem make_map {R : Result → Shared → Prop} {vs : List Value} {kw : List (Str × Value)} (X : K.In s.heap) (hm : PySem.W.makesIn K C = true)
    (hi : PySem.W.findIn K (.ref C) "__init__" = some (some (.ref f))) (hf : PySem.W.typeIn K (.ref f) = some (.type "function"))
    (h : codeAny (model prog w) (A.under (.builtin "type.__call__" ⟨.ref C :: vs, kw⟩)) (.call (.ref f) ⟨.ref (s.heap.objs.size + 1) :: vs, kw⟩) (PySem.W.InitBack (s.heap.objs.size + 1) R)
      { s with heap := (s.heap.push PySem.W.emptyDict).push (PySem.W.instObj C s.heap.objs.size) }) :
    codeAny (model prog w) A (.call (.ref C) ⟨vs, kw⟩) R s := by
  obtain ⟨hh, g, d, t, os⟩ := s
  exact PySem.W.make_core (PySem.W.makes_of X hm) (PySem.W.looks_findIn X hi) (fun self => PySem.W.bind_fn X self hf) (.inl rfl) h
end

def putF (f : Str) (v : V) : List (Str × V) → List (Str × V)
  | [] => [(f, v)]
  | (g, x) :: r => if g = f then (g, v) :: r else (g, x) :: putF f v r
theorem lookup_putF (f g : Str) (v : V) : ∀ fs : List (Str × V), (putF f v fs).lookup g = if g = f then some v else fs.lookup g
  | [] => by
    show List.lookup g [(f, v)] = _
    by_cases h : g = f
    · have hb : (g == f) = true := beq_iff_eq.mpr h
      simp only [List.lookup, hb, if_pos h]
    · have hb : (g == f) = false := beq_eq_false_iff_ne.mpr h
      simp only [List.lookup, hb, if_neg h]
  | (k, x) :: r => by
    have ih := lookup_putF f g v r
    rw [show putF f v ((k, x) :: r) = (if k = f then (k, v) :: r else (k, x) :: putF f v r) from rfl]
    by_cases hk : k = f
    · rw [if_pos hk]
      by_cases h : g = k
      · have hb : (g == k) = true := beq_iff_eq.mpr h
        simp only [List.lookup, hb, if_pos (h.trans hk)]
      · have hb : (g == k) = false := beq_eq_false_iff_ne.mpr h
        simp only [List.lookup, hb, if_neg (fun e : g = f => h (e.trans hk.symm))]
    · rw [if_neg hk]
      by_cases h : g = k
      · have hb : (g == k) = true := beq_iff_eq.mpr h
        simp only [List.lookup, hb, if_neg (fun e : g = f => hk (h.symm.trans e))]
      · have hb : (g == k) = false := beq_eq_false_iff_ne.mpr h
        simp only [List.lookup, hb]
        exact ih
theorem keys_putF (f : Str) (v : V) : ∀ fs : List (Str × V), f ∈ (putF f v fs).map (·.1) ∧ ∀ g, g ∈ fs.map (·.1) → g ∈ (putF f v fs).map (·.1)
  | [] => ⟨by simp [putF], fun g h => by simp at h⟩
  | (k, x) :: r => by
    obtain ⟨i1, i2⟩ := keys_putF f v r
    rw [show putF f v ((k, x) :: r) = (if k = f then (k, v) :: r else (k, x) :: putF f v r) from rfl]
    by_cases hk : k = f
    · rw [if_pos hk]
      subst hk
      exact ⟨by simp, fun g h => by simpa using h⟩
    · rw [if_neg hk]
      refine ⟨?_, fun g h => ?_⟩
      · rw [List.map_cons]
        exact List.mem_cons_of_mem _ i1
      · rw [List.map_cons] at h ⊢
        rcases List.mem_cons.mp h with e | e
        · exact List.mem_cons.mpr (.inl e)
        · exact List.mem_cons_of_mem _ (i2 g e)
theorem length_putF (f : Str) (v : V) : ∀ fs : List (Str × V), (putF f v fs).length ≤ fs.length + 1
  | [] => by simp [putF]
  | (k, x) :: r => by
    have ih := length_putF f v r
    rw [show putF f v ((k, x) :: r) = (if k = f then (k, v) :: r else (k, x) :: putF f v r) from rfl]
    by_cases hk : k = f
    · rw [if_pos hk, List.length_cons, List.length_cons]; omega
    · rw [if_neg hk, List.length_cons, List.length_cons]; omega

theorem RelO.some_of {v : V} {o : Option Value} (r : RelO (some v) o) : ∃ u, o = some u ∧ RelV v u := by
  cases o with
  | none => exact (show False from r).elim
  | some u => exact ⟨u, rfl, r⟩
theorem RelO.none_of {o : Option Value} (r : RelO none o) : o = none := by
  cases o with
  | none => rfl
  | some u => exact (show False from r).elim
theorem handed_of {v : V} {u : Value} (r : RelV v u) : PySem.W.handedIn u = true := by
  cases v with
  | non => cases (show u = Value.none from r); rfl
  | bl b => cases (show u = Value.bool b from r); rfl
  | int i => obtain ⟨t, e⟩ := (show ∃ t, u = Value.int i t from r); cases e; rfl
  | str x => obtain ⟨t, e⟩ := (show ∃ t, u = Value.str x t from r); cases e; rfl
  | byt b => obtain ⟨t, e⟩ := (show ∃ t, u = Value.bytes b t from r); cases e; rfl
  | flt b => obtain ⟨t, e⟩ := (show ∃ t, u = Value.float b t from r); cases e; rfl
  | ref a => cases (show u = Value.ref a from r); rfl
  | ty n => cases (show u = Value.type n from r); rfl

section
variable {P : Program} {w : World} {H H' : Hp} {h h' : Heap} {a C dx : Addr} {fs fs' : List (Str × V)}
theorem ins_get (hok : HOk P w H h) (e : H a = some (.ins C dx fs)) : ∃ mA, ObjM h a dx C mA ∧ (∀ f, RelO (fs.lookup f) (mA f)) ∧ PySem.Within mA (fs.map (·.1)) ∧ fs.length ≤ 1000 ∧ H dx = some (.own a) := by
  obtain ⟨d, z, ne, ob, mA, n, r, q⟩ := (show ObjOk P w H h a (.ins C dx fs) from hok a _ e)
  exact ⟨mA, ⟨ob, n, ne⟩, r, q, z, d⟩
end

structure Cls (K : PySem.W.Frag) (C : Addr) : Prop where
  pg : PySem.W.plainGet K C Str.empty = true
  hd : PySem.W.hasDictIn K C = true
  po : PySem.W.plainOver K C = true
  sa : PySem.W.findIn K (.ref C) "__setattr__" = some (some (.builtin "object.__setattr__"))
theorem Cls.get {K : PySem.W.Frag} {C : Addr} (c : Cls K C) (f : Str) : PySem.W.plainGet K C f = true := c.pg
/-- no class of it has the name -/
def NoAttr (K : PySem.W.Frag) (C : Addr) (f : Str) : Prop := PySem.W.findIn K (.ref C) f = some none
theorem NoAttr.taker {K : PySem.W.Frag} {C : Addr} {f : Str} (n : NoAttr K C f) : PySem.W.takerIn K C f = some none := by
  unfold PySem.W.takerIn
  rw [show PySem.W.findIn K (.ref C) f = some none from n]
  rfl
/-- a method: a plain def of the class or of one above it -/
structure Meth (K : PySem.W.Frag) (C : Addr) (m : Str) (f : Addr) : Prop where
  at_ : PySem.W.findIn K (.ref C) m = some (some (.ref f))
  fn : PySem.W.isFn K (.ref f) = true
  kp : PySem.W.keepIn K (.ref f) = true

section
variable {X : Cx} {pins : List (Addr × Obj)} {σ : St} {H : Hp} {s : Shared} {a C dx : Addr} {fs : List (Str × V)} {f : Str} {v : V} {A : Around} {E : Value → Shared → Prop}

theorem getattr_ok {b : Bool} {Q : Value → Shared → Prop} (I : Inv X pins σ H s) (e : H a = some (.ins C dx fs)) (c : Cls X.K C) (n : NoAttr X.K C f) (l : fs.lookup f = some v)
    (h : ∀ u s', Inv X pins σ H s' → RelV v u → Q u s') : wpAny (model X.prog X.w) A (getAttr (.ref a) f b) Q E s := by
  obtain ⟨mA, O, r, _, _, _⟩ := ins_get I.hok e
  obtain ⟨u, hu, ru⟩ := RelO.some_of (v := v) (o := mA f) (by rw [← l]; exact r f)
  exact get_map I.kIn O (c.get f) c.hd n hu (handed_of ru) (h u _ (I.tok _) ru)

theorem getmeth_ok {m : Str} {g : Addr} {pl : Sem Bool} {Q : Value × List Value → Shared → Prop} (I : Inv X pins σ H s) (e : H a = some (.ins C dx fs)) (c : Cls X.K C) (k : Meth X.K C m g) (l : fs.lookup m = none)
    (h : Q (.ref g, [.ref a]) s) : wpAny (model X.prog X.w) A (getMethod (.ref a) m pl) Q E s := by
  obtain ⟨mA, O, r, _, _, _⟩ := ins_get I.hok e
  have hn : mA m = none := RelO.none_of (by rw [← l]; exact r m)
  exact get_meth I.kIn O (c.get m) k.at_ k.fn hn h

theorem setattr_ok {y : V} {u : Value} {Q : Unit → Shared → Prop} (I : Inv X pins σ H s) (e : H a = some (.ins C dx fs)) (c : Cls X.K C) (n : NoAttr X.K C f) (hl : fs.length < 1000) (ry : RelV y u)
    (h : ∀ s', Inv X pins σ (upd H a (.ins C dx (putF f y fs))) s' → Q () s') : wpAny (model X.prog X.w) A (setAttr (.ref a) f u) Q E s := by
  obtain ⟨mA, O, r, wi, _, ho⟩ := ins_get I.hok e
  have hz : (fs.map (·.1)).length ≤ sizeLine := by rw [List.length_map, sizeLine_eq]; omega
  refine set_map I.kIn O c.sa c.po n.taker c.hd wi hz fun h' O' sb => h _ ?_
  have hd : ∃ o, h'.get? dx = some o := let ⟨o, _, _, e', _⟩ := O'.ns; ⟨o, e'⟩
  refine I.write (x := a) (e := dx) (by rw [e]; exact True.intro) (.inr ho) (fun b q hb z => (sb.2 b hb).trans z) hd ?_
  refine ⟨by rw [upd_ne O.ne]; exact ho, ?_, O.ne, O'.obj, _, O'.ns, fun g => ?_, fun g hg => ?_⟩
  · have := length_putF f y fs; omega
  · show RelO ((putF f y fs).lookup g) (if g = f then some u else mA g)
    rw [lookup_putF]
    by_cases q : g = f
    · rw [if_pos q, if_pos q]; exact ry
    · rw [if_neg q, if_neg q]; exact r g
  · by_cases q : g = f
    · rw [q]; exact (keys_putF f y fs).1
    · refine (keys_putF f y fs).2 g (wi g fun z => hg ?_)
      show (if g = f then some u else mA g) = none
      rw [if_neg q]; exact z

/-- a new instance, tracked, without attributes -/
theorem Inv.made (I : Inv X pins σ H s) : Inv X pins σ (upd (upd H s.heap.objs.size (.own (s.heap.objs.size + 1))) (s.heap.objs.size + 1) (.ins C s.heap.objs.size []))
    { s with heap := (s.heap.push PySem.W.emptyDict).push (PySem.W.instObj C s.heap.objs.size) } := by
  have e1 : (s.heap.push PySem.W.emptyDict).get? s.heap.objs.size = some PySem.W.emptyDict := Heap.get?_push_size s.heap rfl
  have e2 : ((s.heap.push PySem.W.emptyDict).push (PySem.W.instObj C s.heap.objs.size)).get? (s.heap.objs.size + 1) = some (PySem.W.instObj C s.heap.objs.size) := by
    have := Heap.get?_push_size (s.heap.push PySem.W.emptyDict) (o := PySem.W.instObj C s.heap.objs.size) rfl
    rwa [Heap.size_push] at this
  have e3 : (s.heap.push PySem.W.emptyDict).Ns s.heap.objs.size (fun _ => none) := ⟨PySem.W.emptyDict, #[], _, e1, rfl, (fun e he => absurd he (by simp)), fun _ => rfl⟩
  have I1 := I.laid (a := s.heap.objs.size) (o := .own (s.heap.objs.size + 1)) (h' := s.heap.push PySem.W.emptyDict) (t' := s.toks) (fun b u q => Heap.get?_push_of_some _ q) (Nat.le_refl _) ⟨_, e1⟩
  refine I1.laid (a := s.heap.objs.size + 1) (o := .ins C s.heap.objs.size []) (t' := s.toks) (fun b u q => Heap.get?_push_of_some _ q) (Nat.le_of_eq (Heap.size_push _ _)) ?_
  have ne : s.heap.objs.size ≠ s.heap.objs.size + 1 := Nat.ne_of_lt (Nat.lt_succ_self _)
  refine ⟨by rw [upd_ne ne, upd_same], Nat.zero_le _, ne, e2, fun _ => none, (Heap.Ns1.of_empty e3).at fun o q => Heap.get?_push_of_some _ q, fun _ => True.intro, fun y hy => absurd rfl hy⟩

/-- e.f where nothing but the object is asked: through attributeBase (super) and the last hold -/
theorem attr_of {prog : Program} {w : World} {env : Env} {e : Expr} {f : Str} {pos : Pos} {s : Shared} {Q : Value → Shared → Prop} (hb : attributeBase e f env (eval e env) = eval e env)
    (h : wpAny (model prog w) A (eval e env) (fun o s₁ => wpAny (model prog w) A (getAttr o f true) Q E s₁) E s) : wpAny (model prog w) A (eval (.Attribute e f pos) env) Q E s :=
  Attribute_any_ h (by rw [arm_eval_Attribute, hb])
end

/-- e.f, an attribute of the instance -/
def tFld (K : PySem.W.Frag) (ta : TE) (f : Str) : TE := fun σ H Q => ta σ H fun x H1 => ∃ a C dx fs v, x = .ref a ∧ H1 a = some (.ins C dx fs) ∧ Cls K C ∧ NoAttr K C f ∧ fs.lookup f = some v ∧ Q v H1
/-- e.f = value -/
def sFld (K : PySem.W.Frag) (ta tv : TE) (f : Str) : TS := fun D σ H => tv σ H fun y H1 => ta σ H1 fun x H2 => ∃ a C dx fs, x = .ref a ∧ H2 a = some (.ins C dx fs) ∧ Cls K C ∧ NoAttr K C f ∧ fs.length < 1000 ∧
  D.nx σ (upd H2 a (.ins C dx (putF f y fs)))
section
variable {X : Cx} {o e value : Expr} {f : Str} {pos pos' tpos : Pos} {ta tv : TE}
theorem pe_fld (he : PE X e ta) (hb : attributeBase e f X.env (eval e X.env) = eval e X.env) : PE X (.Attribute e f pos) (tFld X.K ta f) := by
  intro pins s σ H Q I h
  refine attr_of hb (thn (he pins s σ H _ I h) fun u s1 ⟨x, H1, I1, rx, a, C, dx, fs, v, ex, ea, c, n, l, q⟩ => ?_)
  subst ex
  obtain rfl : u = Value.ref a := rx
  exact getattr_ok I1 ea c n l fun u' s2 I2 ru => ⟨v, H1, I2, ru, q⟩
theorem ps_fld (ha : PE X o ta) (hv : PE X value tv) (hs : swapsWith value (some (.Attribute o f pos')) pos.line X.env = pure false) : PS X (.Assign [.Attribute o f pos'] value pos) (sFld X.K ta tv f) := by
  intro pins s σ H D I h
  refine plainObj_wpAny_Assign_Attribute (thn (hv pins s σ H _ I h) fun u s1 ⟨y, H1, I1, ry, q⟩ => thn (ha pins s1 σ H1 _ I1 q) fun ov s2 ⟨x, H2, I2, rx, a, C, dx, fs, ex, ea, c, n, l, q2⟩ => ?_) hs
  subst ex
  obtain rfl : ov = Value.ref a := rx
  exact setattr_ok I2 ea c n l ry fun s3 I3 => ⟨σ, _, I3, q2⟩
end

section
variable {X : Cx} {pins : List (Addr × Obj)} {σ : St} {H : Hp} {s : Shared} {A : Around} {E : Value → Shared → Prop} {Q : Value → Shared → Prop} {c : Value} {b : Bool}
/-- the type of a value, as the fragment's deciders take it; for an instance its class -/
inductive TyOf (K : PySem.W.Frag) (H : Hp) : V → Value → Prop where
  | non : TyOf K H .non (.type "NoneType")
  | bl (x : Bool) : TyOf K H (.bl x) (.type "bool")
  | int (i : Int) : TyOf K H (.int i) (.type "int")
  | str (x : Str) : TyOf K H (.str x) (.type "str")
  | flt (x : UInt64) : TyOf K H (.flt x) (.type "float")
  | lst {a : Addr} {xs : List V} (e : H a = some (.lst xs)) : TyOf K H (.ref a) (.type "list")
  | frz {a : Addr} {o : Obj} {xs : List V} (e : H a = some (.frz o (.lst xs))) : TyOf K H (.ref a) (.type "list")
  | tup {a : Addr} {xs : List V} (e : H a = some (.tup xs)) : TyOf K H (.ref a) (.type "tuple")
  | dK {a : Addr} {kvs : List (Key × V)} (e : H a = some (.dK kvs)) : TyOf K H (.ref a) (.type "dict")
  | dT {a : Addr} {kvs : List (List Key × V)} (e : H a = some (.dT kvs)) : TyOf K H (.ref a) (.type "dict")
  | ins {a C dx : Addr} {fs : List (Str × V)} (e : H a = some (.ins C dx fs)) (cl : Cls K C) (ha : PySem.W.findIn K (.ref C) "__class__" = some (some (.builtin "object.__class__")))
      (hn : PySem.W.specialIn K (.builtin "object.__class__") "__get__" = some (some (.builtin "getset_descriptor.__get__"))) (htk : PySem.W.takesIn K (.builtin "object.__class__") = some true)
      (hm : PySem.W.mroIn K C (.type "object") = some true) : TyOf K H (.ref a) (.ref C)
/-- isinstance(x, c) for one class c, a built-in or an own one: kitOne's answer -/
theorem isinst_ok {x : V} {u t : Value} (I : Inv X pins σ H s) (rx : RelV x u) (ty : TyOf X.K H x t) (e : PySem.W.kitOne X.K t c = some b) (h : ∀ tk, Q (.bool b) { s with toks := tk }) :
    wpAny (model X.prog X.w) A (call (.builtin "isinstance") [u, c]) Q E s := by
  cases ty with
  | non => cases (show u = Value.none from rx); exact PySem.W.kia_one PySem.W.kitx_none I.kIn True.intro e (fun z => nomatch z) h
  | bl y => cases (show u = Value.bool y from rx); exact PySem.W.kia_one PySem.W.kitx_bool I.kIn True.intro e (fun z => nomatch z) h
  | int i => obtain ⟨t, q⟩ := (show ∃ t, u = Value.int i t from rx); cases q; exact PySem.W.kia_one PySem.W.kitx_int I.kIn True.intro e (fun z => nomatch z) h
  | str y => obtain ⟨t, q⟩ := (show ∃ t, u = Value.str y t from rx); cases q; exact PySem.W.kia_one PySem.W.kitx_str I.kIn True.intro e (fun z => nomatch z) h
  | flt y => obtain ⟨t, q⟩ := (show ∃ t, u = Value.float y t from rx); cases q; exact PySem.W.kia_one PySem.W.kitx_float I.kIn True.intro e (fun z => nomatch z) h
  | @lst a xs ea =>
    cases (show u = Value.ref a from rx)
    obtain ⟨_, _, n, _, h1⟩ := (show ObjOk X.prog X.w H s.heap a (.lst xs) from I.hok a _ ea)
    exact PySem.W.kia_one PySem.W.kitx_list I.kIn ⟨_, h1, rfl⟩ e (fun z => nomatch z) h
  | @frz a ob xs ea =>
    cases (show u = Value.ref a from rx)
    obtain ⟨_, _, _, n, _, h1⟩ := (show ObjOk X.prog X.w H s.heap a (.frz ob (.lst xs)) from I.hok a _ ea)
    exact PySem.W.kia_one PySem.W.kitx_list I.kIn ⟨_, h1, rfl⟩ e (fun z => nomatch z) h
  | @tup a xs ea =>
    cases (show u = Value.ref a from rx)
    obtain ⟨_, _, _, p⟩ := (show ObjOk X.prog X.w H s.heap a (.tup xs) from I.hok a _ ea)
    obtain ⟨o, h1, h2, _⟩ := p
    exact PySem.W.kia_one PySem.W.kitx_tuple I.kIn ⟨o, h1, h2⟩ e (fun z => nomatch z) h
  | @dK a kvs ea =>
    cases (show u = Value.ref a from rx)
    obtain ⟨_, _, vs, _, p⟩ := (show ObjOk X.prog X.w H s.heap a (.dK kvs) from I.hok a _ ea)
    obtain ⟨o, es, ep, h1, h2, _⟩ := p
    exact PySem.W.kia_one PySem.W.kitx_dict I.kIn ⟨o, h1, h2.1⟩ e (fun z => nomatch z) h
  | @dT a kvs ea =>
    cases (show u = Value.ref a from rx)
    obtain ⟨_, _, xs, _, o, es, ep, h1, h2, _⟩ := (show ObjOk X.prog X.w H s.heap a (.dT kvs) from I.hok a _ ea)
    exact PySem.W.kia_one PySem.W.kitx_dict I.kIn ⟨o, h1, h2.1⟩ e (fun z => nomatch z) h
  | @ins a C dx fs ea cl ha hn htk hm =>
    cases (show u = Value.ref a from rx)
    obtain ⟨mA, O, _⟩ := ins_get I.hok ea
    obtain ⟨od, J, _⟩ := O.look
    exact PySem.W.kia_one (PySem.W.kitx_own (cl.get _) cl.hd ha hn htk hm) I.kIn J e (fun z => nomatch z) h
end
end L2

namespace L2
open PySem PySem.Spec PyProof.Rows

structure Room (k : Nat) (A : Around) : Prop where
  hd : A.handled = none
  dp : A.depth + 3 * k + 5 < recursionLimit
  un : A.units + 16 * k + 200 < cLine
  gd : A.guards = some []
theorem Room.mono {j k : Nat} {A : Around} (r : Room k A) (h : j ≤ k) : Room j A := ⟨r.hd, by have := r.dp; omega, by have := r.un; omega, r.gd⟩
theorem Room.deeper {k : Nat} {A : Around} (r : Room (k + 1) A) (env : Env) : Room k (A.deeper env) :=
  ⟨r.hd, by have := r.dp; show A.depth + 1 + 3 * k + 5 < _; omega, by have := r.un; show A.units + 3 + 16 * k + 200 < _; omega, r.gd⟩
theorem Room.in1 {k : Nat} {A : Around} (r : Room (k + 1) A) : Room k A.in1 :=
  ⟨r.hd, by have := r.dp; show A.depth + 3 * k + 5 < _; omega, by have := r.un; show A.units + 1 + 16 * k + 200 < _; omega, r.gd⟩
theorem make_depth {A : Around} {C : Addr} {us : List Value} {kw : List (Str × Value)} : (A.under (.builtin "type.__call__" ⟨.ref C :: us, kw⟩)).depth = A.depth + 1 := by
  first | rfl | simp [Around.under, Code.weight, Code.isCreation, Code.isGuard, Code.isCaller, Code.frames, Code.isFrame, guardIds]
theorem make_units {A : Around} {C : Addr} {us : List Value} {kw : List (Str × Value)} : (A.under (.builtin "type.__call__" ⟨.ref C :: us, kw⟩)).units = A.units + 1 := by
  first | rfl | simp [Around.under, Code.cUnits, Code.frames, Code.isFrame]
theorem make_guards {A : Around} {C : Addr} {us : List Value} {kw : List (Str × Value)} (h : A.guards = some []) : (A.under (.builtin "type.__call__" ⟨.ref C :: us, kw⟩)).guards = some [] := by
  have e : (Code.builtin "type.__call__" ⟨.ref C :: us, kw⟩).guards = [] := by
    unfold Code.guards
    rw [if_neg (by show ¬ guardIds.contains "type.__call__" = true; decide)]
  have e2 : (A.under (.builtin "type.__call__" ⟨.ref C :: us, kw⟩)).guards = pushGuards (Code.builtin "type.__call__" ⟨.ref C :: us, kw⟩).guards A.guards := rfl
  rw [e2, e, h]; rfl
theorem Room.make {k : Nat} {A : Around} (r : Room (k + 1) A) (C : Addr) (us : List Value) (kw : List (Str × Value)) : Room k (A.under (.builtin "type.__call__" ⟨.ref C :: us, kw⟩)) :=
  ⟨r.hd, by have := r.dp; rw [make_depth]; omega, by have := r.un; rw [make_units]; omega, make_guards r.gd⟩
theorem Room.depth {k : Nat} {A : Around} (r : Room k A) : A.depth < recursionLimit := by have := r.dp; omega
theorem Room.units {k : Nat} {A : Around} (r : Room k A) : A.units + 64 < cLine := by have := r.un; omega
def tNil : TA := fun _ H Q => Q [] H
def tCons (ta : TE) (tr : TA) : TA := fun σ H Q => ta σ H fun x H1 => tr σ H1 fun xs H2 => Q (x :: xs) H2
section
variable {X : Cx} {e : Expr} {es : List Expr} {te : TE} {t : TA} {pos : Pos}
theorem pa_nil : PA X [] tNil := fun _ _ _ _ H Q I h => Calls.spliced_nil ⟨[], H, I, .nil, h⟩
theorem pa_cons (ha : PE X e te) (hr : PA X es t) (hs : starEach (e :: es) X.env = (false, eval e X.env) :: starEach es X.env := by rfl) : PA X (e :: es) (tCons te t) := by
  intro pos pins s σ H Q I h
  rw [hs]
  show wpAny _ _ (spliced ((false, eval e X.env) :: backTo pos (starEach es X.env))) _ _ s
  refine Calls.spliced_cons (thn (ha pins s σ H _ I h) fun u s1 ⟨x, H1, I1, r1, q1⟩ => ?_)
  exact thn (hr pos pins s1 σ H1 _ I1 q1) fun us s2 ⟨xs, H2, I2, r2, q2⟩ => ⟨x :: xs, H2, I2, .cons r1 r2, q2⟩

/-- a tuple, a list of written items -/
def tTup (t : TA) : TE := fun σ H Q => t σ H fun xs H1 => xs.length ≤ sizeLine ∧ ∀ p, H1 p = none → Q (.ref p) (upd H1 p (.tup xs))
def tLst (t : TA) : TE := fun σ H Q => t σ H fun xs H1 => xs.length ≤ sizeLine ∧ ∀ p, H1 p = none → Q (.ref p) (upd H1 p (.lst xs))
theorem pe_tup {x1} (h : PA X es t) : PE X (.Tuple es x1 pos) (tTup t) := by
  intro pins s σ H Q I hq
  refine wpAny_Tuple_spliced (thn (h pos pins s σ H _ I hq) fun us s1 ⟨xs, H1, I1, r, z, q⟩ => ⟨by rw [← r.length]; exact z, ?_⟩)
  have hf : H1 s1.heap.objs.size = none := I1.hok.fresh (Nat.le_refl _)
  refine ⟨.ref s1.heap.objs.size, upd H1 s1.heap.objs.size (.tup xs), I1.laid (t' := s1.toks) (fun b u e => Heap.get?_push_of_some _ e) (Nat.le_refl _) ?_, rfl, q _ hf⟩
  exact ⟨z, us, r, ⟨_, Heap.get?_push_size _ rfl, rfl, _, rfl⟩⟩
theorem pe_lst (h : PA X es t) : PE X (.List es pos) (tLst t) := by
  intro pins s σ H Q I hq
  refine wpAny_List_spliced (thn (h pos pins s σ H _ I hq) fun us s1 ⟨xs, H1, I1, r, z, q⟩ => ⟨by rw [← r.length]; exact z, ?_⟩)
  have hf : H1 s1.heap.objs.size = none := I1.hok.fresh (Nat.le_refl _)
  refine ⟨.ref s1.heap.objs.size, upd H1 s1.heap.objs.size (.lst xs), I1.laid (t' := s1.toks) (fun b u e => Heap.get?_push_of_some _ e) (Nat.le_refl _) ?_, rfl, q _ hf⟩
  exact ⟨z, us, 0, r, Heap.get?_push_size _ rfl⟩
end

/-- a def's promise: the bound arguments in the parameters' order, the heap, the wanted end, the wanted exception -/
abbrev Sp := List V → Hp → VK → XK → Prop
/-- how an exception lies behind a call (file 08 gives it): the callers' frames, abstract heap and state ahead of the call, the wish, the exception, the state -/
abbrev CXT := List Env → Hp → Shared → XK → Value → Shared → Prop

/-- the state at a call -/
structure Env0 (P : Program) (w : World) (K : PySem.W.Frag) (mg : Str → Option Value) (base : Heap) (A : Around) (outer : List Env) (s : Shared) (H : Hp) : Prop where
  frames : A.frames = some outer
  mod : Mod K mg base
  bs : ∀ b o, base.get? b = some o → s.heap.get? b = some o ∧ H b = none
  bsz : base.objs.size ≤ s.heap.objs.size
  funs : s.heap.FunFrames base outer
  frf : ∀ b ∈ frs outer, H b = none
  hok : HOk P w H s.heap
  bare : AllBare s.gens
/-- a call's end -/
def CE (outer : List Env) (P : Program) (w : World) (H : Hp) (s : Shared) (Q : VK) (u : Value) (s' : Shared) : Prop :=
  ∃ v H', s'.os = s.os ∧ AllBare s'.gens ∧ Un (frs outer) [] H H' s.heap s'.heap ∧ HOk P w H' s'.heap ∧ RelV v u ∧ Q v H'
def CR (CX : CXT) (outer : List Env) (P : Program) (w : World) (H : Hp) (s : Shared) (Q : VK) (E : XK) (r : Result) (s' : Shared) : Prop :=
  match r with
  | .ok (.ret u) => CE outer P w H s Q u s'
  | .ok _ => False
  | .error e => CX outer H s E e s'
structure FnOk (P : Program) (w : World) (K : PySem.W.Frag) (mg : Str → Option Value) (base : Heap) (CX : CXT) (k : Nat) (f : Addr) (fd : FuncData) (ps : List Str) (sp : Sp) : Prop where
  len : ∀ vs H Q E, sp vs H Q E → vs.length = ps.length
  run : ∀ (A : Around) (outer : List Env) (s : Shared) (H : Hp) (args : Args) (us : List Value) (vs : List V) (Q : VK) (E : XK), Room k A → Env0 P w K mg base A outer s H → BindsTo s fd args (ps.zip us) → Vals vs us → sp vs H Q E →
    codeAny (model P w) A (.call (.ref f) args) (CR CX outer P w H s Q E) s
theorem FnOk.mono {P : Program} {w : World} {K : PySem.W.Frag} {mg : Str → Option Value} {base : Heap} {CX : CXT} {j k : Nat} {f : Addr} {fd : FuncData} {ps : List Str} {sp : Sp} (F : FnOk P w K mg base CX j f fd ps sp) (h : j ≤ k) :
    FnOk P w K mg base CX k f fd ps sp := ⟨F.len, fun A outer s H args us vs Q E hr => F.run A outer s H args us vs Q E (hr.mono h)⟩
/-- a weaker promise -/
theorem FnOk.imp {P : Program} {w : World} {K : PySem.W.Frag} {mg : Str → Option Value} {base : Heap} {CX : CXT} {k : Nat} {f : Addr} {fd : FuncData} {ps : List Str} {sp sp' : Sp} (F : FnOk P w K mg base CX k f fd ps sp)
    (h : ∀ vs H Q E, sp' vs H Q E → sp vs H Q E) : FnOk P w K mg base CX k f fd ps sp' :=
  ⟨fun vs H Q E q => F.len vs H Q E (h _ _ _ _ q), fun A outer s H args us vs Q E hr he hb hv hs => F.run A outer s H args us vs Q E hr he hb hv (h _ _ _ _ hs)⟩

theorem Env0.make {P : Program} {w : World} {K : PySem.W.Frag} {mg : Str → Option Value} {base : Heap} {A : Around} {outer : List Env} {s : Shared} {H : Hp} (e : Env0 P w K mg base A outer s H) (C : Addr) (us : List Value) (kw : List (Str × Value)) :
    Env0 P w K mg base (A.under (.builtin "type.__call__" ⟨.ref C :: us, kw⟩)) outer s H := ⟨by first | exact e.frames | (simpa [Around.under, Code.envs, Code.isFrame, pushEnvs] using e.frames), e.mod, e.bs, e.bsz, e.funs, e.frf, e.hok, e.bare⟩
theorem Env0.in1 {P : Program} {w : World} {K : PySem.W.Frag} {mg : Str → Option Value} {base : Heap} {A : Around} {outer : List Env} {s : Shared} {H : Hp} (e : Env0 P w K mg base A outer s H) :
    Env0 P w K mg base A.in1 outer s H := ⟨e.frames, e.mod, e.bs, e.bsz, e.funs, e.frf, e.hok, e.bare⟩

section
variable {X : Cx} {pins : List (Addr × Obj)} {σ : St} {H : Hp} {s s' : Shared}
/-- from a body: what a callee wants -/
theorem Inv.env0 (I : Inv X pins σ H s) : Env0 X.prog X.w X.K X.mg X.base X.A X.stack s H :=
  ⟨I.ok.frames, I.ok.mod, I.bs, Nat.le_trans I.ok.bsz I.sz, I.stack, I.stkFree, I.hok, I.bare⟩
/-- behind a call -/
theorem Inv.after {Q : VK} {u : Value} (I : Inv X pins σ H s) (h : CE X.stack X.prog X.w H s Q u s') : EP X pins σ Q u s' := by
  obtain ⟨v, H', os, bare, un, hok, r, q⟩ := h
  obtain ⟨hh, g, d, t, os'⟩ := s'
  obtain rfl : os' = s.os := os
  exact ⟨v, H', I.call (h' := hh) (g' := g) (d' := d) (t' := t) (ch := []) un hok bare (fun b z => absurd z (by simp)), r, q⟩
end

/-- f(..): the written arguments, then the defaults dvs; E: what is wanted of an exception -/
def tCall (sp : Sp) (dvs : List V) (E : XK) (t : TA) : TE := fun σ H Q => t σ H fun vs H1 => sp (vs ++ dvs) H1 Q E
/-- o.m(..) of an instance of the class at C -/
def tMeth (C : Addr) (m : Str) (sp : Sp) (dvs : List V) (E : XK) (ta : TE) (t : TA) : TE := fun σ H Q => ta σ H fun x H1 => ∃ a dx fs, x = .ref a ∧ H1 a = some (.ins C dx fs) ∧ fs.lookup m = none ∧
  t σ H1 fun vs H2 => sp (x :: (vs ++ dvs)) H2 Q E
/-- C(..): a new instance and its dict, then __init__ -/
def tMake (C : Addr) (sp : Sp) (dvs : List V) (E : XK) (t : TA) : TE := fun σ H Q => t σ H fun vs H1 => ∀ x dx, H1 x = none → H1 dx = none → dx ≠ x →
  sp (.ref x :: (vs ++ dvs)) (upd (upd H1 dx (.own x)) x (.ins C dx [])) (fun v H2 => v = .non ∧ Q (.ref x) H2) E

/-- how the parameters are bound: us the positional arguments, kw the keywords' values by name, ds the defaults that fill up -/
def Binds (K : PySem.W.Frag) (fd : FuncData) (ps : List Str) (ds : List Value) : Prop :=
  ∀ (s : Shared) (us : List Value), K.In s.heap → (us ++ ds).length = ps.length → BindsTo s fd ⟨us, []⟩ (ps.zip (us ++ ds))
/-- every parameter is given -/
theorem Binds.all {K : PySem.W.Frag} {fd : FuncData} {ps : List Str} (h : ∀ us : List Value, us.length = ps.length → bindArgs fd ⟨us, []⟩ = pure (ps.zip us)) : Binds K fd ps [] := fun s us _ hl => by
  rw [List.append_nil] at hl ⊢
  exact .of_eq (h us hl)

/-- an exception of a callee reaches what this body wants of exceptions -/
def Passes (CX : CXT) (X : Cx) (E : XK) : Prop := ∀ (pins : List (Addr × Obj)) (σ : St) (H : Hp) (s : Shared) (e : Value) (s' : Shared), Inv X pins σ H s → CX X.stack H s E e s' → X.xe e s'

section
variable {X : Cx} {CX : CXT} {k : Nat} {f C : Addr} {fd : FuncData} {ps : List Str} {sp : Sp} {dvs : List V} {ds : List Value} {E : XK} {x m : Str} {p pos apos : Pos} {e o : Expr} {es : List Expr} {ta : TE} {t : TA}

/-- the callee runs -/
theorem run_fn {pins : List (Addr × Obj)} {σ : St} {H : Hp} {s : Shared} {Q : VK} {us : List Value} {vs : List V} (F : FnOk X.prog X.w X.K X.mg X.base CX k f fd ps sp) (hr : Room k X.A) (hb : Binds X.K fd ps ds) (hd : Vals dvs ds) (hx : Passes CX X E)
    (I : Inv X pins σ H s) (r : Vals vs us) (h : sp (vs ++ dvs) H Q E) : wpAny (model X.prog X.w) X.A (call (.ref f) us) (EP X pins σ Q) X.xe s := by
  have r2 : Vals (vs ++ dvs) (us ++ ds) := r.append hd
  have hl : (us ++ ds).length = ps.length := by rw [← r2.length]; exact F.len _ _ _ _ h
  refine wpAny_call (codeAny_mono (F.run X.A X.stack s H ⟨us, []⟩ (us ++ ds) (vs ++ dvs) Q E hr I.env0 (hb s us I.kIn hl) r2 h) fun r s' hq => ?_)
  cases r with
  | error e => exact hx pins σ H s e s' I hq
  | ok fl =>
    cases fl with
    | ret u => exact I.after hq
    | next => exact False.elim hq
    | brk => exact False.elim hq
    | cont => exact False.elim hq

theorem pe_call (F : FnOk X.prog X.w X.K X.mg X.base CX k f fd ps sp) (hr : Room k X.A) (hg : Gl X x) (hm : X.mg x = some (.ref f)) (hk : PySem.W.keepIn X.K (.ref f) = true) (hb : Binds X.K fd ps ds) (hd : Vals dvs ds) (hx : Passes CX X E)
    (ha : PA X (e :: es) t) (hdb : (x == ("__debug__" : Str)) = false := by decide) (he : starEach (e :: es) X.env = (false, eval e X.env) :: starEach es X.env := by rfl) (hpl : (backTo pos (starEach es X.env)).any (·.1) = false := by rfl) :
    PE X (.Call (.Name x p) (e :: es) [] pos) (tCall sp dvs E t) := by
  intro pins s σ H Q I h
  refine wpAny_Call_Name_kw (ld_glob I hg hm ?_ hdb)
  refine PySem.W.callWith_K (h₀ := X.base) I.ok.mod.kin hk (thn (ha pos pins s σ H _ I h) fun us s1 ⟨vs, H1, I1, r, q⟩ => ⟨I1.kIn, ?_⟩) he hpl
  exact run_fn F hr hb hd hx I1 r q
/-- o.m(e, ..) -/
theorem pe_meth {pl : Sem Bool} (he : PE X o ta) (c : Cls X.K C) (hm : Meth X.K C m f) (F : FnOk X.prog X.w X.K X.mg X.base CX k f fd ps sp) (hr : Room k X.A) (hb : Binds X.K fd ps ds) (hd : Vals dvs ds) (hx : Passes CX X E) (ha : PA X (e :: es) t)
    (hst : starEach (e :: es) X.env = (false, eval e X.env) :: starEach es X.env := by rfl) (hpl : (backTo pos (starEach es X.env)).any (·.1) = false := by rfl)
    (ht : eval (.Call (.Attribute o m apos) (e :: es) [] pos) X.env = (do
      let ov ← eval o X.env
      standAt apos.atName
      let (f, first) ← holding [ov] (getMethod ov m pl)
      callWith pos f first (backTo pos (starEach (e :: es) X.env)) (backToKw pos (keywordEach [] X.env))) := by rfl) :
    PE X (.Call (.Attribute o m apos) (e :: es) [] pos) (tMeth C m sp dvs E ta t) := by
  intro pins s σ H Q I h
  refine PySem.W.methodCall_KW (pl := pl) (thn (he pins s σ H _ I h) fun u s1 ⟨x, H1, I1, rx, a, dx, fs, ex, ea, l, q⟩ => ?_) ht
  subst ex
  obtain rfl : u = Value.ref a := rx
  refine getmeth_ok I1 ea c hm l ?_
  refine PySem.W.callWith_K (first := [.ref a]) (h₀ := X.base) I.ok.mod.kin hm.kp (thn (ha pos pins s1 σ H1 _ I1 q) fun us s2 ⟨vs, H2, I2, r, q2⟩ => ⟨I2.kIn, ?_⟩) hst hpl
  exact run_fn (us := .ref a :: us) (vs := .ref a :: vs) F hr hb hd hx I2 (.cons rfl r) q2
/-- what a class must have to be made -/
structure Mk (K : PySem.W.Frag) (C f : Addr) : Prop where
  makes : PySem.W.makesIn K C = true
  init : PySem.W.findIn K (.ref C) "__init__" = some (some (.ref f))
  fn : PySem.W.isFn K (.ref f) = true
  kp : PySem.W.keepIn K (.ref C) = true

end

section
variable {X : Cx} {CX : CXT} {k : Nat} {f C : Addr} {fd : FuncData} {ps ks : List Str} {sp : Sp} {E : XK} {x m : Str} {p pos apos kpos : Pos} {e o : Expr} {es : List Expr} {kws : List Keyword} {te ta : TE} {t tk : TA} {nm : Option Str}
variable {g : List Value → List Value → List Value} {gV : List V → List V → List V}
end

/-- names: the parameters first -/
structure FnScope (N P : List Str) (sc : Scope) : Prop where
  kind : sc.kind = .function
  co : sc.isCoroutine = false
  gen : sc.isGenerator = false
  nd : N.Nodup
  pre : N.take P.length = P
  par : ∀ x ∈ P, sc.names.lookup x = some .local ∨ sc.names.lookup x = some .cell
  nofree : ∀ y ∈ sc.names, y.2 ≠ .free

theorem bindL_out {kindOf : Str → Option NameKind} {x : Str} : ∀ {binds : List (Str × Value)} {m : Str → Option Value}, (∀ v, (x, v) ∉ binds) → bindL kindOf binds m x = m x
  | [], _, _ => rfl
  | (n, v) :: r, m, h => by
    unfold bindL
    rw [bindL_out fun w hw => h w (List.mem_cons_of_mem _ hw)]
    split
    · have : x ≠ n := by rintro rfl; exact h v List.mem_cons_self
      simp [this]
    · rfl
theorem bindC_out {kindOf : Str → Option NameKind} {x : Str} : ∀ {binds : List (Str × Value)} {m : Str → Option Value}, (∀ v, (x, v) ∉ binds) → bindC kindOf binds m x = m x
  | [], _, _ => rfl
  | (n, v) :: r, m, h => by
    unfold bindC
    rw [bindC_out fun w hw => h w (List.mem_cons_of_mem _ hw)]
    split
    · rfl
    · have : x ≠ n := by rintro rfl; exact h v List.mem_cons_self
      simp [this]
theorem bindL_get {kindOf : Str → Option NameKind} {x : Str} {v : Value} : ∀ {P : List Str} {vs : List Value} {i : Nat} {m : Str → Option Value}, P.Nodup → P[i]? = some x → vs[i]? = some v → kindOf x = some .local →
    bindL kindOf (P.zip vs) m x = some v
  | [], _, _, _, _, h, _, _ => by simp at h
  | _ :: _, [], _, _, _, _, h, _ => by simp at h
  | p :: P, w :: vs, 0, m, nd, h1, h2, hk => by
    simp at h1 h2; subst h1; subst h2
    show bindL kindOf ((p, w) :: P.zip vs) m p = _
    unfold bindL
    rw [bindL_out fun v hv => (List.nodup_cons.mp nd).1 (List.of_mem_zip hv).1, if_pos hk]
    simp
  | p :: P, w :: vs, i + 1, m, nd, h1, h2, hk => by
    show bindL kindOf ((p, w) :: P.zip vs) m x = _
    unfold bindL
    exact bindL_get (i := i) (List.nodup_cons.mp nd).2 (by simpa using h1) (by simpa using h2) hk
theorem bindC_get {kindOf : Str → Option NameKind} {x : Str} {v : Value} : ∀ {P : List Str} {vs : List Value} {i : Nat} {m : Str → Option Value}, P.Nodup → P[i]? = some x → vs[i]? = some v → kindOf x ≠ some .local →
    bindC kindOf (P.zip vs) m x = some v
  | [], _, _, _, _, h, _, _ => by simp at h
  | _ :: _, [], _, _, _, _, h, _ => by simp at h
  | p :: P, w :: vs, 0, m, nd, h1, h2, hk => by
    simp at h1 h2; subst h1; subst h2
    show bindC kindOf ((p, w) :: P.zip vs) m p = _
    unfold bindC
    rw [bindC_out fun v hv => (List.nodup_cons.mp nd).1 (List.of_mem_zip hv).1, if_neg hk]
    simp
  | p :: P, w :: vs, i + 1, m, nd, h1, h2, hk => by
    show bindC kindOf ((p, w) :: P.zip vs) m x = _
    unfold bindC
    exact bindC_get (i := i) (List.nodup_cons.mp nd).2 (by simpa using h1) (by simpa using h2) hk

/-- the names' values at the entry -/
def start (N : List Str) (vs : List V) : St := vs.map some ++ List.replicate (N.length - vs.length) none

/-- the context of a def's body, at its entry; an exception leaves the frame, then lies as CX says -/
def cxOf (CX : CXT) (P : Program) (w : World) (K : PySem.W.Frag) (mg : Str → Option Value) (base : Heap) (N : List Str) (qual : Str) (scope : Scope) (f : Addr) (cd : Value) (A : Around) (outer : List Env) (s : Shared) (H : Hp) (E : XK) : Cx where
  prog := P
  w := w
  K := K
  mg := mg
  base := base
  A := A.deeper (envOfC qual scope s.heap.objs.size f cd)
  N := N
  s₀ := s
  H₀ := H
  env := envOfC qual scope s.heap.objs.size f cd
  outer := outer
  stack := envOfC qual scope s.heap.objs.size f cd :: outer
  ex := []
  calm := true
  fn := fun _ => true
  pn := []
  xe := fun e s' => wpAny (model P w) (A.deeper (envOfC qual scope s.heap.objs.size f cd)) (leaving (envOfC qual scope s.heap.objs.size f cd) e) (fun _ s'' => CX outer H s E e s'') (fun e' s'' => CX outer H s E e' s'') s'

theorem cell_has {sc : Scope} {n : Nat} {x : Str} (h : sc.names.lookup x = some .cell) : ∃ c, (cellsFrom n sc.names []).lookup x = some c := by
  have q := PySem.W.cellsFrom_some sc.names n [] (.inl h)
  exact Option.isSome_iff_exists.mp q

theorem inv_start {CX : CXT} {P : Program} {w : World} {K : PySem.W.Frag} {mg : Str → Option Value} {base : Heap} {N ps : List Str} {qual : Str} {scope : Scope} {f : Addr} {cd : Value} {A : Around} {outer : List Env} {s s1 : Shared} {H : Hp} {E : XK} {us : List Value} {vs : List V}
    (S : FnScope N ps scope) (hd : A.handled = none) (e0 : Env0 P w K mg base A outer s H) (hl : vs.length = ps.length) (r : Vals vs us)
    (x : InCallC s s.heap.objs.size (bindL (envOfC qual scope s.heap.objs.size f cd).kindOf (ps.zip us) fun _ => none) (cellsFrom (s.heap.objs.size + 1) scope.names []) (bindC (envOfC qual scope s.heap.objs.size f cd).kindOf (ps.zip us) fun _ => none) s1) :
    Inv (cxOf CX P w K mg base N qual scope f cd A outer s H E) [] (start N vs) H s1 := by
  have hpl : ps.length ≤ N.length := by have := congrArg List.length S.pre; rw [List.length_take] at this; omega
  obtain ⟨h1, tk, rfl, hk⟩ := x.done
  have noA : ∀ b : Addr, b ∉ (cxOf CX P w K mg base N qual scope f cd A outer s H E).ex := fun b z => absurd (show b ∈ ([] : List Addr) from z) (by simp)
  refine ⟨⟨e0.mod, S.kind, rfl, rfl, Nat.le_refl _, fun y z c h1 h2 => ?_, fun y hy => ?_, fun y c _ h => ?_, fun _ => hd, Around.frames_deeper e0.frames, .inr ⟨rfl, rfl⟩, fun b z => absurd z (noA b), e0.bs, e0.bsz, fun b _ _ => noA b, fun b z => absurd z (noA b), e0.funs, e0.frf⟩,
    rfl, e0.bare, Un.kept hk, ⟨_, x.toInCall.ns, fun i y v h1 h2 h3 => ?_⟩, fun y c h => ⟨_, x.cell y c h⟩, e0.hok.fresh (Nat.le_refl _), fun y c h => ?_, fun p hp => absurd (show p ∈ ([] : List (Addr × Obj)) from hp) (by simp), e0.hok.kept hk, ?_⟩
  · exact name_of_addr x.apart (PySem.mem_of_lookup h1) (PySem.mem_of_lookup h2)
  · have hy : scope.names.lookup y = some .cell ∨ scope.names.lookup y = some .free := hy
    rcases hy with hy | hy
    · exact cell_has hy
    · exact absurd rfl (S.nofree _ (PySem.mem_of_lookup hy))
  · exact Nat.le_of_lt (x.above y c (PySem.mem_of_lookup h))
  · have hi : i < vs.length := by
      unfold start at h2
      by_cases hi : i < vs.length
      · exact hi
      · rw [List.getElem?_append_right (by simpa using hi)] at h2
        rw [List.getElem?_replicate] at h2
        split at h2 <;> cases h2
    have ha : vs[i]? = some v := by
      unfold start at h2
      rw [List.getElem?_append_left (by simpa using hi), List.getElem?_map] at h2
      cases e : vs[i]? with
      | none => rw [e] at h2; cases h2
      | some a => rw [e] at h2; cases h2; rfl
    obtain ⟨u, hu, rv⟩ := r.get ha
    have hp : ps[i]? = some y := by
      rw [← S.pre, List.getElem?_take_of_lt (by omega)]; exact h1
    have ndP : ps.Nodup := by rw [← S.pre]; exact S.nd.sublist (List.take_sublist _ _)
    refine ⟨u, rv, ?_⟩
    rcases S.par y (List.mem_of_getElem? hp) with k | k
    · exact .inl ⟨k, bindL_get ndP hp hu k⟩
    · obtain ⟨c, e⟩ := cell_has (n := s.heap.objs.size + 1) k
      refine .inr ⟨.inl k, c, e, ?_⟩
      have q := x.cell y c e
      rw [bindC_get ndP hp hu (by show scope.names.lookup y ≠ _; rw [k]; decide)] at q
      exact q
  · exact e0.hok.fresh (Nat.le_of_lt (x.above y c (PySem.mem_of_lookup h)))
  · unfold start
    show _ = N.length
    rw [List.length_append, List.length_map, List.length_replicate]
    omega

/-- THE RULE: a def (or a method) of the text, by its body. The body's reading t is chosen for each entry; it is run at the parameters' values -/
theorem fn_of {CX : CXT} {P : Program} {w : World} {K : PySem.W.Frag} {mg : Str → Option Value} {base : Heap} {k : Nat} {f : Addr} {name qual : Str} {params : Arguments} {body : List Stmt} {scope : Scope} {dV kV doc pm cdv ct oc : Value} {an od : Option Addr}
    {osl : Array (Option Value)} {N ps : List Str} {sp : Sp} (lk : K.lookup f = some ⟨oc, od, .func (PySem.W.fnOf name qual params body scope dV kV doc pm an cdv ct), osl⟩) (hcd : PySem.W.codeIn K cdv qual = true) (S : FnScope N ps scope)
    (len : ∀ vs H Q E, sp vs H Q E → vs.length = ps.length)
    (hbody : ∀ (A : Around) (outer : List Env) (s : Shared) (H : Hp) (vs : List V) (Q : VK) (E : XK), Room k (A.deeper (envOfC qual scope s.heap.objs.size f cdv)) → sp vs H Q E →
      ∃ t, PSs (cxOf CX P w K mg base N qual scope f cdv A outer s H E) body t ∧ t { nx := fun _ H' => Q .non H', rt := Q } (start N vs) H) :
    FnOk P w K mg base CX (k + 1) f (PySem.W.fnOf name qual params body scope dV kV doc pm an cdv ct) ps sp := by
  refine ⟨len, fun A outer s H args us vs Q E hr e0 hb r hsp => ?_⟩
  have hl := len _ _ _ _ hsp
  have KX : K.In s.heap := e0.mod.kin.keeps fun b o e => (e0.bs b o e).1
  have lim : s.heap.NoLimit := e0.mod.nolimit.keeps fun b o e => (e0.bs b o e).1
  have hkind : ∀ y ∈ ps.zip us, scope.names.lookup y.1 = some .local ∨ (scope.names.lookup y.1 = some .cell ∧ ((cellsFrom (s.heap.objs.size + 1) scope.names []).lookup y.1).isSome = true) := fun ⟨n, v⟩ hy => by
    rcases S.par n (List.of_mem_zip hy).1 with q | q
    · exact .inl q
    · exact .inr ⟨q, PySem.W.cellsFrom_some _ _ _ (.inl q)⟩
  refine codeAny_call_function hr.depth (KX _ _ lk) rfl S.co S.gen rfl (PySem.W.codeRec_of KX hcd) (hb _ _ _ _ ?_)
  refine wpAny_newFunctionEnv_cells S.kind hkind fun env he s1 x => ?_
  subst he
  refine ⟨lim.keeps x.toInCall.keep, codeAny_func ?_⟩
  obtain ⟨t, ht, hq⟩ := hbody A outer s H vs Q E (hr.deeper _) hsp
  have I : Inv (cxOf CX P w K mg base N qual scope f cdv A outer s H E) [] (start N vs) H s1 := inv_start S hr.hd e0 hl r x
  refine wpAny_mono (ht [] s1 (start N vs) H _ I hq) (fun fl s' hs => ?_) fun e s' hs => hs
  have fin : ∀ {σ' : St} {H' : Hp} {v : V} {u : Value}, Inv (cxOf CX P w K mg base N qual scope f cdv A outer s H E) [] σ' H' s' → RelV v u → Q v H' → CE outer P w H s Q u s' :=
    fun {σ' H' v u} J rv q => ⟨v, H', J.os, J.bare, J.base, J.hok, rv, q⟩
  cases fl with
  | ret u =>
    obtain ⟨v, σ', H', J, rv, q⟩ := hs
    exact fin J rv q
  | next =>
    obtain ⟨σ', H', J, q⟩ := hs
    exact fin (v := V.non) (u := Value.none) J rfl q
  | brk =>
    obtain ⟨_, _, _, q⟩ := hs
    exact False.elim q
  | cont =>
    obtain ⟨_, _, _, q⟩ := hs
    exact False.elim q
end L2

namespace L2
open PySem PySem.Spec PyProof.Rows
section
variable {X : Cx} {x : Str} {p pos : Pos} {e : Expr} {es : List Expr} {t : TA} {id T : String} {r : List V → Hp → VK → Prop}

def tCB (r : List V → Hp → VK → Prop) (t : TA) : TE := fun σ H Q => t σ H fun vs H1 => r vs H1 Q
/-- f(e, ..), f a built-in function -/
theorem pe_callB (hc : CallR X (.builtin id) r) (hg : Gl X x) (hm : X.mg x = none) (hv : bootBuiltins x = some (.builtin id)) (ha : PA X (e :: es) t) (hn : x ≠ "__name__" := by decide) (hdb : (x == ("__debug__" : Str)) = false := by decide)
    (he : starEach (e :: es) X.env = (false, eval e X.env) :: starEach es X.env := by rfl) (hpl : (backTo pos (starEach es X.env)).any (·.1) = false := by rfl) : PE X (.Call (.Name x p) (e :: es) [] pos) (tCB r t) := by
  intro pins s σ H Q I h
  refine wpAny_Call_Name_kw (ld_blt I hg hm hv ?_ hn hdb)
  exact PyProof.Rows.callWith_builtin1 (thn (ha pos pins s σ H _ I h) fun us s1 ⟨vs, H1, I1, r1, q1⟩ => hc pins s1 σ H1 vs us Q I1 r1 q1) he hpl
/-- T(e, ..), T a built-in type -/
theorem pe_callTy (hc : CallR X (.type T) r) (hg : Gl X x) (hm : X.mg x = none) (hv : bootBuiltins x = some (.type T)) (ha : PA X (e :: es) t) (hn : x ≠ "__name__" := by decide) (hdb : (x == ("__debug__" : Str)) = false := by decide)
    (he : starEach (e :: es) X.env = (false, eval e X.env) :: starEach es X.env := by rfl) (hpl : (backTo pos (starEach es X.env)).any (·.1) = false := by rfl) : PE X (.Call (.Name x p) (e :: es) [] pos) (tCB r t) := by
  intro pins s σ H Q I h
  refine wpAny_Call_Name_kw (ld_blt I hg hm hv ?_ hn hdb)
  exact PyProof.Rows.callWith_type1 (thn (ha pos pins s σ H _ I h) fun us s1 ⟨vs, H1, I1, r1, q1⟩ => hc pins s1 σ H1 vs us Q I1 r1 q1) he hpl
end
end L2

namespace HT
open PySem PyProof.Rows

section
open PySem.SeqAt
open PySem.AutoSeq1 (wpAny_loadPart')
open PySem.MeetsSeq PySem.MeetsSeq2 PySem.MeetsSeq3

end

section
variable {prog : Program} {w : World} {A : Around} {E : Value → Shared → Prop} {s : Shared}

/-- a slice's bound as a place among n (d where it is left out) -/
def sIx (n d : Nat) : Option Int → Nat
  | none => d
  | some v => if v < 0 then (v + (n : Int)).toNat else min v.toNat n
theorem sIx_none (n d : Nat) : sIx n d none = d := rfl
theorem sIx_nat (n d k : Nat) : sIx n d (some (k : Int)) = min k n := by
  show (if (k : Int) < 0 then ((k : Int) + (n : Int)).toNat else min (k : Int).toNat n) = min k n
  rw [if_neg (by omega), Int.toNat_natCast]
theorem sIx_le (n d : Nat) (hd : d ≤ n) (o : Option Int) : sIx n d o ≤ n := by
  cases o with
  | none => exact hd
  | some v =>
    show (if v < 0 then (v + (n : Int)).toNat else min v.toNat n) ≤ n
    by_cases hv : v < 0
    · rw [if_pos hv]; omega
    · rw [if_neg hv]; exact Nat.min_le_right _ _
theorem clip_eq (v : Int) (n d : Nat) : (if v < 0 then max (v + (n : Int)) 0 else min v (n : Int)) = ((sIx n d (some v) : Nat) : Int) := by
  show (if v < 0 then max (v + (n : Int)) 0 else min v (n : Int)) = (((if v < 0 then (v + (n : Int)).toNat else min v.toNat n) : Nat) : Int)
  by_cases hv : v < 0
  · simp only [if_pos hv]; omega
  · simp only [if_neg hv]; omega
theorem adjust_gen (lo hi : Option Int) (n : Nat) : Builtin.Slice.sliceAdjust lo hi 1 (n : Int) = (((sIx n 0 lo : Nat) : Int), ((sIx n n hi : Nat) : Int)) := by
  have h1 : ¬ ((1 : Int) < 0) := by omega
  unfold Builtin.Slice.sliceAdjust
  simp only [h1, if_false]
  refine Prod.ext ?_ ?_
  · cases lo with
    | none => rfl
    | some v => exact clip_eq v n 0
  · cases hi with
    | none => rfl
    | some v => exact clip_eq v n n
theorem places_gen (i j : Nat) : Builtin.Slice.slicePlaces (i : Int) (j : Int) 1 = j - i := by
  unfold Builtin.Slice.slicePlaces
  have h1 : (1 : Int) > 0 := by omega
  simp only [h1, if_true, Int.ediv_one]
  split <;> omega
theorem slicePart_ {v : Value} {o : Option Int} {Q : Option Int → Shared → Prop} (p : IsPart v o) (h : Q o s) : wpAny (model prog w) A (Builtin.Slice.slicePartIndex v) Q E s := by
  cases p with
  | none => exact slicePart_none h
  | int i t => exact slicePart_int h
theorem sliceApplied_gen {sl : Addr} {vl vu : Value} {lo hi : Option Int} {n : Nat} {Q : Int × Int × Nat → Shared → Prop} (hs : s.heap.IsSliceOf sl vl vu .none) (pl : IsPart vl lo) (pu : IsPart vu hi)
    (h : Q (((sIx n 0 lo : Nat) : Int), 1, sIx n n hi - sIx n 0 lo) s) : wpAny (model prog w) A (Builtin.Slice.sliceApplied (.ref sl) (pure (n : Int))) Q E s := by
  obtain ⟨os, hos, hcs, hds⟩ := id hs
  unfold Builtin.Slice.sliceApplied Builtin.Slice.sliceFields
  refine wpAny_bind (wpAny_bind (wpAny_field hos hds (x := vl) rfl (wpAny_bind (wpAny_field hos hds (x := vu) rfl (wpAny_bind (wpAny_field hos hds (x := .none) rfl (wpAny_pure ?_)))))))
  refine wpAny_bind (slicePart_none ?_)
  show wpAny _ _ (if ((1 : Int) == 0) = true then _ else _) _ _ s
  rw [if_neg (by decide)]
  refine wpAny_bind (slicePart_ pl (wpAny_bind (slicePart_ pu (wpAny_bind (wpAny_pure ?_)))))
  show wpAny _ _ (match Builtin.Slice.sliceAdjust lo hi 1 (n : Int) with | (lo, hi) => pure (lo, (1 : Int), Builtin.Slice.slicePlaces lo hi 1)) _ _ s
  rw [adjust_gen lo hi n]
  show wpAny _ _ (pure (((sIx n 0 lo : Nat) : Int), (1 : Int), Builtin.Slice.slicePlaces ((sIx n 0 lo : Nat) : Int) ((sIx n n hi : Nat) : Int) 1)) _ _ s
  rw [places_gen]
  exact wpAny_pure h
theorem pick_gen (xs : Array Value) (i k : Nat) : ((List.range k).filterMap fun (m : Nat) => xs[((i : Int) + (m : Int) * 1).toNat]?).toArray = ((xs.toList.drop i).take k).toArray := by
  have e : (fun (m : Nat) => xs[((i : Int) + (m : Int) * 1).toNat]?) = fun m => xs[i + m]? := by
    funext m
    have : ((i : Int) + (m : Int) * 1).toNat = i + m := by omega
    rw [this]
  rw [e]
  have := pick_run xs i k
  rw [List.filterMap_map] at this
  have e2 : ((fun x => xs[x]?) ∘ fun x => i + x) = fun m => xs[i + m]? := rfl
  rw [e2] at this
  rw [this]

theorem getItem_tuple_cut {t sl : Addr} {items : Array Value} {vl vu : Value} {lo hi : Option Int} {Q : Value → Shared → Prop} (ht : IsTup s.heap t items) (hs : s.heap.IsSliceOf sl vl vu .none) (pl : IsPart vl lo) (pu : IsPart vu hi)
    (hw : ¬ (sIx items.size 0 lo = 0 ∧ sIx items.size items.size hi = items.size))
    (h : Q (.ref s.heap.objs.size) { s with heap := s.heap.push { cls := .type "tuple", data := .seq ((items.toList.drop (sIx items.size 0 lo)).take (sIx items.size items.size hi - sIx items.size 0 lo)).toArray } })
    (hsz : items.size ≤ sizeLine) : wpAny (model prog w) A (getItem (.ref t) (.ref sl)) Q E s := by
  have htake : sizeOk (.seq ((items.toList.drop (sIx items.size 0 lo)).take (sIx items.size items.size hi - sIx items.size 0 lo)).toArray) := by
    show ((items.toList.drop (sIx items.size 0 lo)).take (sIx items.size items.size hi - sIx items.size 0 lo)).toArray.size ≤ sizeLine
    rw [List.size_toArray, List.length_take, List.length_drop, Array.length_toList]
    omega
  have hj : sIx items.size items.size hi ≤ items.size := sIx_le _ _ (Nat.le_refl _) hi
  obtain ⟨os, hos, hcs, hds⟩ := id hs
  have hTs : s.TypeIs (.ref sl) "slice" := ⟨os, hos, hcs⟩
  unfold getItem
  try with_reducible refine wpAny_holding ?_
  first | refine wpAny_bind (wpAny_pure ?_) | skip
  refine wpAny_bind (wpAny_sequenceKey ht.typeIs (by decide) ?_)
  refine wpAny_bind (wpAny_callSpecial?_slot (name := Str.ofString "__getitem__") ht.typeIs PyProof.Rows.slot_tuple_getitem
    (wpAny_call_entry PyProof.Rows.slot_tuple_getitem ht.typeIs entry_tuple_getitem ?_ (args_tuple_getitem _ _)))
  show wpAny _ _ (Builtin.Tuple.tupleItemsOf (.ref t) >>= _) _ _ s
  refine wpAny_bind (tupleItemsOf_ ht ?_)
  refine wpAny_bind (wpAny_typeOf hTs ?_)
  rw [if_pos (by decide)]
  refine wpAny_bind (sliceApplied_gen hs pl pu ?_)
  have hno : ¬ ((((sIx items.size 0 lo : Nat) : Int) == 0 && (1 : Int) == 1 && (sIx items.size items.size hi - sIx items.size 0 lo) == items.size) = true) := by
    intro q
    rw [Bool.and_eq_true, Bool.and_eq_true] at q
    have q1 : ((sIx items.size 0 lo : Nat) : Int) = 0 := eq_of_beq q.1.1
    have q2 : sIx items.size items.size hi - sIx items.size 0 lo = items.size := eq_of_beq q.2
    exact hw ⟨by omega, by omega⟩
  show wpAny _ _ (if (((sIx items.size 0 lo : Nat) : Int) == 0 && (1 : Int) == 1 && (sIx items.size items.size hi - sIx items.size 0 lo) == items.size) = true then _ else _) _ _ s
  rw [if_neg hno, pick_gen]
  first
    | exact wpAny_bind (m := Builtin.Tuple.tupleExact _) (wpAny_newObj_type (wpAny_pure ⟨_, rfl, wpAny_pure h⟩) htake)
    | exact wpAny_bind (m := Builtin.Tuple.tupleExact _) (wpAny_newObj_type (wpAny_bind (wpAny_pure (wpAny_pure ⟨_, rfl, wpAny_pure h⟩))) htake)
    | exact wpAny_bind (wpAny_bind (m := Builtin.Tuple.tupleExact _) (wpAny_newObj_type (wpAny_pure (wpAny_pure ⟨_, rfl, wpAny_pure h⟩)) htake))
    | exact wpAny_bind (wpAny_bind (m := Builtin.Tuple.tupleExact _) (wpAny_newObj_type (wpAny_pure ⟨_, rfl, wpAny_pure h⟩) htake))
end
end HT

namespace L2
open PySem PySem.Spec PyProof.Rows

abbrev TO := St → Hp → (Option Int → Hp → Prop) → Prop
/-- a slice's part (left out, or an int) -/
def PO (X : Cx) (e : Option Expr) (t : TO) : Prop :=
  ∀ (pins : List (Addr × Obj)) (s : Shared) (σ : St) (H : Hp) (Q : Option Int → Hp → Prop), Inv X pins σ H s → t σ H Q →
    wpAny (model X.prog X.w) X.A (evalPart e X.env) (fun u s' => ∃ o H', Inv X pins σ H' s' ∧ IsPart u o ∧ Q o H') X.xe s
def tNoPart : TO := fun _ H Q => Q none H
def tPart (t : TE) : TO := fun σ H Q => t σ H fun x H1 => ∃ i, x = .int i ∧ Q (some i) H1

theorem intsAre_of {ns : List Int} : ∀ {us : List Value}, Vals (ns.map V.int) us → IntsAre us ns := by
  induction ns with
  | nil => intro us r; rw [List.map_nil] at r; cases r; exact .nil
  | cons n ns ih =>
    intro us r
    rw [List.map_cons] at r
    cases r with
    | cons r1 r2 =>
      obtain ⟨t, e⟩ := r1
      subst e
      exact .cons n t (ih r2)

section
variable {X : Cx} {e : Expr} {te : TE} {lo hi : Option Expr} {tl th : TO} {pos p2 : Pos}

theorem po_none : PO X none tNoPart := by
  intro pins s σ H Q I h
  rw [evalPart_none]
  exact wpAny_pure ⟨none, H, I, .none, h⟩
theorem po_some (h : PE X e te) : PO X (some e) (tPart te) := by
  intro pins s σ H Q I hw
  rw [evalPart_some]
  refine thn (h pins s σ H _ I hw) fun u s1 ⟨x, H1, I1, r1, q1⟩ => ?_
  obtain ⟨i, rfl, q⟩ := q1
  obtain ⟨t, rfl⟩ := r1
  exact ⟨some i, H1, I1, .int i t, q⟩

/-- what a slice of a value is, by values: the slice object stands at sl -/
def SlR (X : Cx) (r : V → Option Int → Option Int → Hp → VK → Prop) : Prop :=
  ∀ (pins : List (Addr × Obj)) (s : Shared) (σ : St) (H : Hp) (x : V) (v vl vu : Value) (lo hi : Option Int) (sl : Addr) (Q : VK), Inv X pins σ H s → RelV x v → s.heap.IsSliceOf sl vl vu .none → IsPart vl lo → IsPart vu hi → r x lo hi H Q →
    ∃ T id, typeLookup (.type T) "__getitem__" = pure (some (.builtin id)) ∧ s.TypeIs v T ∧ wpAny (model X.prog X.w) X.A (getItem v (.ref sl)) (EP X pins σ Q) X.xe s
theorem SlR.or {r r' : V → Option Int → Option Int → Hp → VK → Prop} (h : SlR X r) (h' : SlR X r') : SlR X (fun x lo hi H Q => r x lo hi H Q ∨ r' x lo hi H Q) := by
  intro pins s σ H x v vl vu lo hi sl Q I rx hs pl pu q
  rcases q with q | q
  · exact h pins s σ H x v vl vu lo hi sl Q I rx hs pl pu q
  · exact h' pins s σ H x v vl vu lo hi sl Q I rx hs pl pu q
def tSl (r : V → Option Int → Option Int → Hp → VK → Prop) (te : TE) (tl th : TO) : TE := fun σ H Q => te σ H fun x H1 => tl σ H1 fun l H2 => th σ H2 fun u H3 => r x l u H3 Q
/-- a[lo:hi], any a -/
theorem pe_slice {r : V → Option Int → Option Int → Hp → VK → Prop} (hr : SlR X r) (he : PE X e te) (hl : PO X lo tl) (hu : PO X hi th) : PE X (.Subscript e (.Slice lo hi none p2) pos) (tSl r te tl th) := by
  intro pins s σ H Q I h
  refine Subscript_ (thn (he pins s σ H _ I h) fun v s1 ⟨x, H1, I1, r1, q1⟩ => ?_)
  refine wpAny_Slice (thn (hl pins s1 σ H1 _ I1 q1) fun vl s2 ⟨l, H2, I2, pl, q2⟩ => thn (hu pins s2 σ H2 _ I2 q2) fun vu s3 ⟨u, H3, I3, pu, q3⟩ => ?_)
  rw [evalPart_none]
  refine wpAny_pure ?_
  have I4 : Inv X pins σ H3 { s3 with heap := s3.heap.push { cls := .type "slice", data := .fields #[vl, vu, .none] } } := I3.kept (t' := s3.toks) fun b ob q => Heap.get?_push_of_some _ q
  obtain ⟨T, id, hT, ht, hg⟩ := hr pins { s3 with heap := s3.heap.push { cls := .type "slice", data := .fields #[vl, vu, .none] } } σ H3 x v vl vu l u s3.heap.objs.size Q I4 r1 (Heap.IsSliceOf.new ..) pl pu q3
  show wpAny (model X.prog X.w) X.A (subscriptTail e (.Slice lo hi none p2) v (.ref s3.heap.objs.size)) (EP X pins σ Q) X.xe { s3 with heap := s3.heap.push { cls := .type "slice", data := .fields #[vl, vu, .none] } }
  exact tail_any (ops := [.ref s3.heap.objs.size, v]) ht hT hg (by with_unfolding_all rfl)

/-- the items of xs[lo:hi] -/
def cutV (xs : List V) (lo hi : Option Int) : List V := (xs.drop (HT.sIx xs.length 0 lo)).take (HT.sIx xs.length xs.length hi - HT.sIx xs.length 0 lo)
theorem cutV_length (xs : List V) (lo hi : Option Int) : (cutV xs lo hi).length ≤ xs.length := by
  unfold cutV
  rw [List.length_take, List.length_drop]
  omega
/-- t[lo:hi], not the whole of it (the whole would be t itself) -/
def rSlT (K : PySem.W.Frag) : V → Option Int → Option Int → Hp → VK → Prop := fun x lo hi H Q => ∃ a xs, x = .ref a ∧ SqT K H a xs ∧
  ¬ (HT.sIx xs.length 0 lo = 0 ∧ HT.sIx xs.length xs.length hi = xs.length) ∧ ∀ p, H p = none → Q (.ref p) (upd H p (.tup (cutV xs lo hi)))
theorem sl_tup : SlR X (rSlT X.K) := by
  intro pins s σ H x v vl vu lo hi sl Q I rx hs pl pu h
  obtain ⟨a, xs, rfl, hx, hw, q⟩ := h
  cases rx
  obtain ⟨its, r, ht, hz⟩ := I.tuple hx
  have hlen : its.toArray.size = xs.length := by rw [List.size_toArray]; exact r.length.symm
  refine ⟨"tuple", _, PyProof.Rows.slot_tuple_getitem.lookup, ht.typeIs, ?_⟩
  refine HT.getItem_tuple_cut ht hs pl pu (by rw [hlen]; exact hw) ?_ (by rw [hlen]; exact hz)
  rw [hlen]
  refine ⟨.ref s.heap.objs.size, _, I.laid (t' := s.toks) (o := .tup (cutV xs lo hi)) (fun b ob q => Heap.get?_push_of_some _ q) (Nat.le_refl _) ?_, rfl, q _ (I.hok.fresh (Nat.le_refl _))⟩
  exact ⟨Nat.le_trans (cutV_length xs lo hi) hz, _, (r.drop (HT.sIx xs.length 0 lo)).take (HT.sIx xs.length xs.length hi - HT.sIx xs.length 0 lo), IsTup.new _ _⟩

end
end L2

namespace L2
open PySem PySem.Spec PyProof.Rows

/-- the place that an index of any sign means -/
def ixN (n : Nat) (i : Int) : Option Nat := if 0 ≤ i then (if i < n then some i.toNat else none) else if -(n : Int) ≤ i then some (i + n).toNat else none
def atI {α : Type} (xs : List α) (i : Int) : Option α := (ixN xs.length i).bind fun j => xs[j]?
theorem ixN_seq {n : Nat} {i : Int} {j : Nat} (h : ixN n i = some j) : seqIndex? i n = some j ∧ j < n ∧ -(n : Int) ≤ i ∧ i < n := by
  unfold ixN at h
  by_cases h0 : 0 ≤ i
  · rw [if_pos h0] at h
    by_cases h1 : i < n
    · rw [if_pos h1] at h
      have e : i.toNat = j := Option.some.inj h
      exact ⟨by rw [seqIndex_of h0 h1, e], by omega, by omega, h1⟩
    · rw [if_neg h1] at h; cases h
  · rw [if_neg h0] at h
    by_cases h1 : -(n : Int) ≤ i
    · rw [if_pos h1] at h
      have e : (i + n).toNat = j := Option.some.inj h
      exact ⟨by rw [seqIndex_neg (by omega) h1, e], by omega, h1, by omega⟩
    · rw [if_neg h1] at h; cases h
theorem atI_get {α : Type} {xs : List α} {i : Int} {v : α} (h : atI xs i = some v) : ∃ j, seqIndex? i xs.length = some j ∧ xs[j]? = some v ∧ j < xs.length ∧ -(xs.length : Int) ≤ i ∧ i < xs.length := by
  unfold atI at h
  cases e : ixN xs.length i with
  | none => rw [e] at h; cases h
  | some j =>
    rw [e] at h
    obtain ⟨h1, h2, h3, h4⟩ := ixN_seq e
    exact ⟨j, h1, h, h2, h3, h4⟩
theorem atI_nat {α : Type} {xs : List α} {j : Nat} {v : α} (h : xs[j]? = some v) : atI xs (j : Int) = some v := by
  have hj : j < xs.length := (List.getElem?_eq_some_iff.mp h).1
  have e : ixN xs.length (j : Int) = some j := by
    unfold ixN
    rw [if_pos (by omega), if_pos (by omega)]; simp
  unfold atI; rw [e]; exact h
/-- what stands as an index of a plain subscript -/
def PlainIx (b : Expr) : Prop := ∀ o i, subscripted b false o i = operate [o, i] (getItem o i)
/-- a subscript by values -/
def IxR (X : Cx) (r : R2) : Prop :=
  ∀ (value slice : Expr) (pins : List (Addr × Obj)) (s : Shared) (σ : St) (H : Hp) (x y : V) (v u : Value) (Q : VK), Inv X pins σ H s → RelV x v → RelV y u → r x y H Q →
    subscripted slice false v u = operate [v, u] (getItem v u) → wpAny (model X.prog X.w) X.A (subscriptTail value slice v u) (EP X pins σ Q) X.xe s
/-- a call of a builtin's method by values: the receiver, the arguments -/
def MtR (X : Cx) (id : String) (r : V → List V → Hp → VK → Prop) : Prop :=
  ∀ (pins : List (Addr × Obj)) (s : Shared) (σ : St) (H : Hp) (x : V) (xs : List V) (v : Value) (us : List Value) (Q : VK), Inv X pins σ H s → RelV x v → Vals xs us → r x xs H Q →
    wpAny (model X.prog X.w) X.A (call (.builtin id) (v :: us)) (EP X pins σ Q) X.xe s
section
variable {X : Cx} {a b : Expr} {ta tb : TE} {pos : Pos}
theorem IxR.or {r r' : R2} (h : IxR X r) (h' : IxR X r') : IxR X (fun x y H Q => r x y H Q ∨ r' x y H Q) := by
  intro value slice pins s σ H x y v u Q I rx ry q hs
  rcases q with q | q
  · exact h value slice pins s σ H x y v u Q I rx ry q hs
  · exact h' value slice pins s σ H x y v u Q I rx ry q hs
theorem MtR.or {id : String} {r r' : V → List V → Hp → VK → Prop} (h : MtR X id r) (h' : MtR X id r') : MtR X id (fun x xs H Q => r x xs H Q ∨ r' x xs H Q) := by
  intro pins s σ H x xs v us Q I rx rs q
  rcases q with q | q
  · exact h pins s σ H x xs v us Q I rx rs q
  · exact h' pins s σ H x xs v us Q I rx rs q
/-- a[b] -/
theorem pe_ix {r : R2} (hr : IxR X r) (ha : PE X a ta) (hb : PE X b tb) (hs : PlainIx b) : PE X (.Subscript a b pos) (tOp r ta tb) := by
  intro pins s σ H Q I h
  exact Subscript_ (binT ha hb I h fun v u s2 x y H2 I2 rx ry q => hr a b pins s2 σ H2 x y v u Q I2 rx ry q (hs _ _))

def rIxL (K : PySem.W.Frag) : R2 := fun x y H Q => ∃ p xs i v, x = .ref p ∧ y = .int i ∧ SqL K H p xs ∧ atI xs i = some v ∧ Q v H
def rIxT (K : PySem.W.Frag) : R2 := fun x y H Q => ∃ p xs i v, x = .ref p ∧ y = .int i ∧ SqT K H p xs ∧ atI xs i = some v ∧ Q v H
def rIxS : R2 := fun x y H Q => ∃ z i c, x = .str z ∧ y = .int i ∧ z.length ≤ sizeLine ∧ atI z.cps.toList i = some c ∧ Q (.str ⟨#[c]⟩) H
theorem ix_list : IxR X (rIxL X.K) := by
  intro value slice pins s σ H x y v u Q I rx ry h hs
  obtain ⟨p, xs, i, z, rfl, rfl, hq, he, q⟩ := h
  cases rx
  obtain ⟨t, rfl⟩ := ry
  obtain ⟨its, r, pl, hz⟩ := I.list hq
  obtain ⟨j, h1, h2, h3, h4, h5⟩ := atI_get he
  obtain ⟨w, ew, rw'⟩ := r.get h2
  have hl := r.length
  have hn := line63
  have fin : EP X pins σ Q w s := ⟨z, H, I, rw', q⟩
  by_cases h0 : 0 ≤ i
  · have hj : i.toNat = j := by
      rw [seqIndex_of h0 h5] at h1
      exact Option.some.inj h1
    exact item_listR pl.isList h0 (by omega) (by rw [hj]; simpa using ew) fin hs
  · have hj : (i + (its.toArray.size : Int)).toNat = j := by
      rw [seqIndex_neg (by omega) h4] at h1
      rw [List.size_toArray, ← hl]
      exact Option.some.inj h1
    exact subscriptTail_builtinR (x := w) pl.isList.typeIs slot_list_getitem.lookup
      (wpAny_getItem_list_neg (Q := fun r s' => r = w ∧ EP X pins σ Q r s') pl.isList (by omega) (by rw [List.size_toArray] <;> omega) (by omega) (by rw [hj]; simpa using ew) ⟨rfl, fin⟩) hs
theorem ix_tup : IxR X (rIxT X.K) := by
  intro value slice pins s σ H x y v u Q I rx ry h hs
  obtain ⟨p, xs, i, z, rfl, rfl, hq, he, q⟩ := h
  cases rx
  obtain ⟨t, rfl⟩ := ry
  obtain ⟨its, r, pl, hz⟩ := I.tuple hq
  obtain ⟨j, h1, h2, h3, h4, h5⟩ := atI_get he
  obtain ⟨w, ew, rw'⟩ := r.get h2
  have hl := r.length
  have hn := line63
  have fin : EP X pins σ Q w s := ⟨z, H, I, rw', q⟩
  exact subscriptTail_builtinR (x := w) pl.typeIs slot_tuple_getitem.lookup
    (getItem_tuple (j := j) (Q := fun r s' => r = w ∧ EP X pins σ Q r s') pl (by omega) (by omega) (by rw [List.size_toArray, ← hl]; exact h1) (by simpa using ew) ⟨rfl, fin⟩) hs
theorem ix_str : IxR X rIxS := by
  intro value slice pins s σ H x y v u Q I rx ry h hs
  obtain ⟨z, i, c, rfl, rfl, hz, he, q⟩ := h
  obtain ⟨t, rfl⟩ := rx
  obtain ⟨t', rfl⟩ := ry
  obtain ⟨j, h1, h2, h3, h4, h5⟩ := atI_get he
  have hl : z.cps.toList.length = z.length := by simp [Str.length]
  rw [hl] at h1 h4 h5
  have hn := line63
  exact tail_any (typeIs_str s z t) slot_str_getitem.lookup (getItem_str (c := c) (by
    have e1 : decide (i < -(2 ^ 63 : Int)) = false := decide_eq_false (by omega)
    have e2 : decide (i ≥ 2 ^ 63) = false := decide_eq_false (by omega)
    rw [e1, e2, Bool.or_false]) (by rw [h1]; simpa using h2) ⟨.str ⟨#[c]⟩, H, I.tok _, ⟨_, rfl⟩, q⟩) hs
theorem Inv.lst {pins : List (Addr × Obj)} {σ : St} {H : Hp} {s : Shared} {p : Addr} {xs : List V} (I : Inv X pins σ H s) (h : H p = some (.lst xs)) :
    ∃ (its : List Value) (n : Nat), Vals xs its ∧ s.heap.get? p = some { cls := .type "list", data := .seq its.toArray n } ∧ xs.length ≤ sizeLine := by
  obtain ⟨z, its, n, r, e⟩ := I.hok p _ h
  exact ⟨its, n, r, e, z⟩
theorem slice_bounds (lo hi : Option Int) (n : Nat) : (sliceBounds lo hi none n).1 = ((HT.sIx n 0 lo : Nat) : Int) ∧ (sliceBounds lo hi none n).2.1 = ((HT.sIx n n hi : Nat) : Int) ∧ (sliceBounds lo hi none n).2.2 = 1 := by
  refine ⟨?_, ?_, rfl⟩
  · cases lo with
    | none => simp [sliceBounds, HT.sIx]
    | some i =>
      simp only [sliceBounds, HT.sIx, Option.getD_none, show (1 : Int) > 0 by decide, if_true]
      by_cases h : i < 0
      · simp only [h, if_true] <;> omega
      · simp only [h, if_false] <;> omega
  · cases hi with
    | none => simp [sliceBounds, HT.sIx]
    | some i =>
      simp only [sliceBounds, HT.sIx, Option.getD_none, show (1 : Int) > 0 by decide, if_true]
      by_cases h : i < 0
      · simp only [h, if_true] <;> omega
      · simp only [h, if_false] <;> omega
theorem slicePick_cut (its : List Value) (lo hi : Option Int) : slicePick its.toArray lo hi none = ((its.drop (HT.sIx its.length 0 lo)).take (HT.sIx its.length its.length hi - HT.sIx its.length 0 lo)).toArray := by
  obtain ⟨h1, h2, h3⟩ := slice_bounds lo hi its.toArray.size
  unfold slicePick
  rw [h1, h2, h3]
  simp only [sliceRange_one, pick_run, List.size_toArray] <;> rfl
/-- xs[lo:hi] of a list: a new list -/
def rSlL (K : PySem.W.Frag) : V → Option Int → Option Int → Hp → VK → Prop := fun x lo hi H Q => ∃ a xs, x = .ref a ∧ SqL K H a xs ∧ ∀ p, H p = none → Q (.ref p) (upd H p (.lst (cutV xs lo hi)))
theorem sl_list : SlR X (rSlL X.K) := by
  intro pins s σ H x v vl vu lo hi sl Q I rx hs pl pu h
  obtain ⟨a, xs, rfl, hx, q⟩ := h
  cases rx
  obtain ⟨its, r, ht, hz⟩ := I.list hx
  have hlen := r.length
  refine ⟨"list", _, slot_list_getitem.lookup, ht.isList.typeIs, ?_⟩
  refine wpAny_getItem_list_slice ht.isList hs pl pu .none (by simp) ?_ (by rw [List.size_toArray] <;> omega)
  rw [slicePick_cut, ← hlen]
  refine ⟨.ref s.heap.objs.size, _, I.laid (t' := s.toks) (o := .lst (cutV xs lo hi)) (fun b ob q => Heap.get?_push_of_some _ q) (Nat.le_refl _) ?_, rfl, q _ (I.hok.fresh (Nat.le_refl _))⟩
  exact ⟨Nat.le_trans (cutV_length xs lo hi) hz, _, 0, (r.drop (HT.sIx xs.length 0 lo)).take (HT.sIx xs.length xs.length hi - HT.sIx xs.length 0 lo), Heap.get?_push_size _ rfl⟩

def flatV : V → Bool
  | .non => true
  | .bl _ => true
  | .int _ => true
  | .str _ => true
  | _ => false
/-- == of flat values -/
def eqV : V → V → Bool
  | .non, .non => true
  | .bl a, .bl b => a == b
  | .bl a, .int b => (if a then 1 else 0) == b
  | .int a, .bl b => a == (if b then 1 else 0)
  | .int a, .int b => a == b
  | .str a, .str b => a == b
  | _, _ => false
theorem eqAt_V {A : Around} {s : Shared} {y x : V} {u v : Value} (ry : RelV y u) (rx : RelV x v) (fy : flatV y = true) (fx : flatV x = true) : SeqAt.EqAt A s u v (eqV y x) := by
  cases y with
  | non =>
    cases ry
    cases x with
    | non => cases rx; exact SeqAt.EqAt.same _
    | bl b => cases rx; exact SeqAt.EqAt.none_bool b
    | int b => obtain ⟨t, rfl⟩ := rx; exact SeqAt.EqAt.none_int b t
    | str b => obtain ⟨t, rfl⟩ := rx; exact SeqAt.EqAt.none_str b t
    | _ => exact absurd (show false = true from fx) Bool.false_ne_true
  | bl a =>
    cases ry
    cases x with
    | non => cases rx; exact SeqAt.EqAt.bool_none a
    | bl b => cases rx; exact SeqAt.EqAt.bool_bool a b
    | int b => obtain ⟨t, rfl⟩ := rx; exact SeqAt.EqAt.bool_int a b t
    | str b => obtain ⟨t, rfl⟩ := rx; exact SeqAt.EqAt.bool_str a b t
    | _ => exact absurd (show false = true from fx) Bool.false_ne_true
  | int a =>
    obtain ⟨t', rfl⟩ := ry
    cases x with
    | non => cases rx; exact SeqAt.EqAt.int_none a t'
    | bl b => cases rx; exact SeqAt.EqAt.int_bool a t' b
    | int b => obtain ⟨t, rfl⟩ := rx; exact SeqAt.EqAt.int_int a t' b t
    | str b => obtain ⟨t, rfl⟩ := rx; exact SeqAt.EqAt.int_str a t' b t
    | _ => exact absurd (show false = true from fx) Bool.false_ne_true
  | str a =>
    obtain ⟨t', rfl⟩ := ry
    cases x with
    | non => cases rx; exact SeqAt.EqAt.str_none a t'
    | bl b => cases rx; exact SeqAt.EqAt.str_bool a t' b
    | int b => obtain ⟨t, rfl⟩ := rx; exact SeqAt.EqAt.str_int a t' b t
    | str b => obtain ⟨t, rfl⟩ := rx; exact SeqAt.EqAt.str_str a t' b t
    | _ => exact absurd (show false = true from fx) Bool.false_ne_true
  | _ => exact absurd (show false = true from fy) Bool.false_ne_true
/-- the items' answers, read off the values (a value's own answer does not lean on its token) -/
def eqU (x : V) (u : Value) : Bool := match u with
  | .none => eqV .non x
  | .bool b => eqV (.bl b) x
  | .int i _ => eqV (.int i) x
  | .str z _ => eqV (.str z) x
  | _ => false
theorem eqU_of {x y : V} {u : Value} (r : RelV y u) (f : flatV y = true) : eqU x u = eqV y x := by
  cases y with
  | non => cases r; rfl
  | bl b => cases r; rfl
  | int i => obtain ⟨t, rfl⟩ := r; rfl
  | str z => obtain ⟨t, rfl⟩ := r; rfl
  | _ => exact absurd (show false = true from f) Bool.false_ne_true
theorem any_eqU {x : V} : ∀ {xs : List V} {us : List Value}, Vals xs us → xs.all flatV = true → us.any (eqU x) = xs.any fun y => eqV y x
  | _, _, .nil, _ => rfl
  | y :: xs, u :: us, .cons r t, f => by
    rw [List.all_cons, Bool.and_eq_true] at f
    rw [List.any_cons, List.any_cons, eqU_of r f.1, any_eqU t f.2]
theorem mem_eqAt {A : Around} {s : Shared} {x : V} {v : Value} (rx : RelV x v) (fx : flatV x = true) : ∀ {xs : List V} {us : List Value}, Vals xs us → xs.all flatV = true → ∀ u ∈ us, SeqAt.EqAt A s u v (eqU x u)
  | _, _, .nil, _ => fun u hu => by cases hu
  | y :: xs, u :: us, .cons r t, f => fun u' hu => by
    rw [List.all_cons, Bool.and_eq_true] at f
    rcases List.mem_cons.mp hu with rfl | hu
    · rw [eqU_of r f.1]; exact eqAt_V r rx f.1 fx
    · exact mem_eqAt rx fx t f.2 u' hu
def inV (x : V) (xs : List V) : Bool := xs.any fun y => eqV y x
/-- x in a list or tuple of flat items -/
def rIn (K : PySem.W.Frag) (neg : Bool) : R2 := fun x y H Q => ∃ p xs, y = .ref p ∧ (SqL K H p xs ∨ SqT K H p xs) ∧ flatV x = true ∧ xs.all flatV = true ∧ Q (.bl (if neg then !inV x xs else inV x xs)) H
theorem op_in_seq : OpR X (compareOp .In) (rIn X.K false) := by
  intro pins s σ H x y v u Q I rx ry h
  obtain ⟨p, xs, rfl, hq, fx, fs, q⟩ := h
  cases ry
  rcases hq with hq | hq
  · obtain ⟨its, r, pl, hz⟩ := I.list hq
    refine SeqAt.in_listAt (eqU x) pl.isList (fun w hw => mem_eqAt rx fx r fs w (by simpa using hw)) ⟨.bl _, H, I, rfl, ?_⟩
    rw [show its.toArray.any (eqU x) = its.any (eqU x) by simp, any_eqU r fs]
    exact q
  · obtain ⟨its, r, pl, hz⟩ := I.tuple hq
    refine SeqAt.in_tupleAt (eqU x) pl (fun w hw => mem_eqAt rx fx r fs w (by simpa using hw)) ⟨.bl _, H, I, rfl, ?_⟩
    rw [show its.toArray.any (eqU x) = its.any (eqU x) by simp, any_eqU r fs]
    exact q
theorem op_notIn_seq : OpR X (compareOp .NotIn) (rIn X.K true) := by
  intro pins s σ H x y v u Q I rx ry h
  obtain ⟨p, xs, rfl, hq, fx, fs, q⟩ := h
  cases ry
  rcases hq with hq | hq
  · obtain ⟨its, r, pl, hz⟩ := I.list hq
    refine SeqAt.notIn_listAt (eqU x) pl.isList (fun w hw => mem_eqAt rx fx r fs w (by simpa using hw)) ⟨.bl _, H, I, rfl, ?_⟩
    rw [show its.toArray.any (eqU x) = its.any (eqU x) by simp, any_eqU r fs]
    exact q
  · obtain ⟨its, r, pl, hz⟩ := I.tuple hq
    refine SeqAt.notIn_tupleAt (eqU x) pl (fun w hw => mem_eqAt rx fx r fs w (by simpa using hw)) ⟨.bl _, H, I, rfl, ?_⟩
    rw [show its.toArray.any (eqU x) = its.any (eqU x) by simp, any_eqU r fs]
    exact q
theorem call_len_seq : CallR X (.builtin "len") (fun xs H Q => ∃ p ys, xs = [.ref p] ∧ (SqL X.K H p ys ∨ SqT X.K H p ys) ∧ Q (.int ys.length) H) := by
  intro pins s σ H xs us Q I r h
  obtain ⟨p, ys, rfl, hq, q⟩ := h
  obtain ⟨u, rfl, rx⟩ := vals1 r
  cases rx
  have hn := line63
  rcases hq with hq | hq
  · obtain ⟨its, r', pl, hz⟩ := I.list hq
    have hlen := r'.length
    exact Calls.call_len_list pl.isList (by simp only [List.size_toArray] <;> omega) ⟨.int ys.length, H, I.tok _, ⟨s.toks + 1, by rw [List.size_toArray, hlen]⟩, q⟩
  · obtain ⟨its, r', pl, hz⟩ := I.tuple hq
    have hlen := r'.length
    exact len_tuple pl (by simp only [List.size_toArray] <;> omega) ⟨.int ys.length, H, I.tok _, ⟨s.toks + 1, by rw [List.size_toArray, hlen]⟩, q⟩
theorem call_len_str : CallR X (.builtin "len") (fun xs H Q => ∃ z, xs = [.str z] ∧ z.length ≤ sizeLine ∧ Q (.int z.length) H) := by
  intro pins s σ H xs us Q I r h
  obtain ⟨z, rfl, hz, q⟩ := h
  obtain ⟨u, rfl, t, rfl⟩ := vals1 r
  have hn := line63
  exact len_str (by omega) ⟨.int z.length, H, I.tok _, ⟨_, rfl⟩, q⟩
theorem CallR.or {f : Value} {r r' : List V → Hp → VK → Prop} (h : CallR X f r) (h' : CallR X f r') : CallR X f (fun xs H Q => r xs H Q ∨ r' xs H Q) := by
  intro pins s σ H xs us Q I rs q
  rcases q with q | q
  · exact h pins s σ H xs us Q I rs q
  · exact h' pins s σ H xs us Q I rs q
theorem call_tuple_of : CallR X (.type "tuple") (fun xs H Q => ∃ p ys, xs = [.ref p] ∧ ((SqL X.K H p ys ∧ ∀ l, H l = none → Q (.ref l) (upd H l (.tup ys))) ∨ (SqT X.K H p ys ∧ Q (.ref p) H))) := by
  intro pins s σ H xs us Q I r h
  obtain ⟨p, ys, rfl, h⟩ := h
  obtain ⟨u, rfl, rx⟩ := vals1 r
  cases rx
  rcases h with ⟨hq, q⟩ | ⟨hq, q⟩
  · obtain ⟨its, r', pl, hz⟩ := I.list hq
    have hlen := r'.length
    refine call_tuple_list pl.isList (fun h' kp => ?_) (by simp only [List.size_toArray] <;> omega)
    have I1 : Inv X pins σ H { s with heap := h' } := I.kept (t' := s.toks) kp
    have I2 : Inv X pins σ (upd H h'.objs.size (.tup ys)) { s with heap := h'.push { cls := .type "tuple", data := .seq its.toArray } } :=
      I1.laid (t' := s.toks) (fun b o e => Heap.get?_push_of_some _ e) (Nat.le_refl _) (show ObjOk X.prog X.w _ _ _ (.tup ys) from ⟨hz, its, r', IsTup.new _ _⟩)
    exact ⟨.ref h'.objs.size, _, I2, rfl, q _ (I1.hok.fresh (Nat.le_refl _))⟩
  · obtain ⟨its, r', pl, hz⟩ := I.tuple hq
    exact call_tuple_same pl ⟨.ref p, H, I, rfl, q⟩

/-- the value is of that builtin type -/
def tyV (K : PySem.W.Frag) (T : String) (x : V) (H : Hp) : Prop := match x with
  | .str _ => T = "str"
  | .int _ => T = "int"
  | .ref p => (T = "list" ∧ ∃ xs, SqL K H p xs) ∨ (T = "tuple" ∧ ∃ o, K.lookup p = some o ∧ o.cls = .type "tuple" ∧ o.dict = none) ∨
      (T = "dict" ∧ ((∃ kvs, H p = some (.dK kvs)) ∨ ∃ kvs, H p = some (.dT kvs))) ∨ (T = "set" ∧ ∃ S n, H p = some (.set S n))
  | _ => False
theorem tyV_is {pins : List (Addr × Obj)} {σ : St} {H : Hp} {s : Shared} {T : String} {x : V} {v : Value} (I : Inv X pins σ H s) (r : RelV x v) (ty : tyV X.K T x H) :
    s.TypeIs v T ∧ ∀ a, v = .ref a → ∃ ob, s.heap.get? a = some ob ∧ ob.dict = none := by
  cases x with
  | str z =>
    obtain ⟨t, rfl⟩ := r
    cases (show T = "str" from ty)
    exact ⟨typeIs_str s z t, fun _ e => nomatch e⟩
  | int i =>
    obtain ⟨t, rfl⟩ := r
    cases (show T = "int" from ty)
    exact ⟨typeIs_int s i t, fun _ e => nomatch e⟩
  | ref p =>
    cases r
    rcases ty with ⟨rfl, xs, hq⟩ | ⟨rfl, o, hk, hc, hd⟩ | ⟨rfl, hk⟩ | ⟨rfl, S, n, hk⟩
    · obtain ⟨its, _, pl, _⟩ := I.list hq
      refine ⟨pl.isList.typeIs, fun a e => ?_⟩
      cases e
      obtain ⟨o, n, e, c, hd, _⟩ := pl
      exact ⟨o, e, hd⟩
    · refine ⟨⟨o, I.kIn p o hk, hc⟩, fun a e => ?_⟩
      cases e
      exact ⟨o, I.kIn _ o hk, hd⟩
    · have z : ∃ o, s.heap.get? p = some o ∧ o.ExactDict := by
        rcases hk with ⟨kvs, hk⟩ | ⟨kvs, hk⟩
        · obtain ⟨_, _, _, _, o, _, _, e, ex, _⟩ := I.hok p _ hk
          exact ⟨o, e, ex⟩
        · obtain ⟨_, _, _, _, o, _, _, e, ex, _⟩ := I.hok p _ hk
          exact ⟨o, e, ex⟩
      obtain ⟨o, e, ex⟩ := z
      refine ⟨⟨o, e, ex.1⟩, fun a e2 => ?_⟩
      cases e2
      exact ⟨o, e, ex.2.1⟩
    · obtain ⟨o, _, _, _, e, ex, _⟩ := I.hok p _ hk
      refine ⟨⟨o, e, ex.1⟩, fun a e2 => ?_⟩
      cases e2
      exact ⟨o, e, ex.2.1⟩
  | _ => exact False.elim ty
def tBM0 (K : PySem.W.Frag) (T : String) (r : V → List V → Hp → VK → Prop) (to : TE) : TE := fun σ H Q => to σ H fun x H1 => tyV K T x H1 ∧ r x [] H1 Q
def tBM (K : PySem.W.Frag) (T : String) (r : V → List V → Hp → VK → Prop) (to : TE) (t : TA) : TE := fun σ H Q => to σ H fun x H1 => tyV K T x H1 ∧ t σ H1 fun xs H2 => r x xs H2 Q
variable {o e : Expr} {es : List Expr} {to : TE} {t : TA} {name : Str} {apos cpos : Pos} {T id : String} {r : V → List V → Hp → VK → Prop}
theorem pe_bm (pa : PlainAttrs T) (slot : Slot T name id) (hty : typeOf (.builtin id) = pure (.type "method_descriptor")) (hm : MtR X id r) (ho : PE X o to) (ha : PA X (e :: es) t)
    (hbase : attributeBase o name X.env (eval o X.env) = eval o X.env := by rfl)
    (hfew : ((backTo cpos (starEach (e :: es) X.env)).all (fun x => !x.1) && (backToKw cpos (keywordEach [] X.env)).all (fun x => x.1.isSome)
      && decide ((e :: es).length + ([] : List Keyword).length + (if ([] : List Keyword).isEmpty then 0 else 1) < 30)) = true := by rfl)
    (hline : (apos.endLine == cpos.line) = true := by rfl) (hs : starEach (e :: es) X.env = (false, eval e X.env) :: starEach es X.env := by rfl) (hplain : (backTo cpos (starEach es X.env)).any (·.1) = false := by rfl) :
    PE X (.Call (.Attribute o name apos) (e :: es) [] cpos) (tBM X.K T r to t) := by
  intro pins s σ H Q I h
  refine wpAny_Call_method_late hbase hfew hline rfl (thn (ho pins s σ H _ I h) fun v s1 ⟨x, H1, I1, r1, ty, q1⟩ => ?_)
  obtain ⟨h1, h2⟩ := tyV_is I1 r1 ty
  refine ⟨T, id, pa, slot, hty, h1, h2, ?_⟩
  have hA := ha cpos pins s1 σ H1 _ I1 q1
  rw [hs] at hA ⊢
  refine Calls.callWith_builtin (by show (false || (backTo cpos (starEach es X.env)).any (·.1)) = false; rw [hplain] <;> rfl) (Calls.evalArgs_plain ?_)
  exact thn hA fun us s2 ⟨vs, H2, I2, r2, q2⟩ => hm pins s2 σ H2 x vs v us Q I2 r1 r2 q2
end
end L2

namespace L2
open PySem PySem.Spec PyProof.Rows

def MtM (X : Cx) (id : String) (r : V → List V → Hp → VK → Prop) : Prop :=
  ∀ (pins : List (Addr × Obj)) (s : Shared) (σ : St) (H : Hp) (x : V) (xs : List V) (v : Value) (us : List Value) (Q : VK), Inv X pins σ H s → RelV x v → Vals xs us → r x xs H Q →
    wpAny (model X.prog X.w) X.A (call (.builtin id) (v :: us)) (EP X pins σ Q) X.xe s

theorem Vals.one : ∀ {x : V} {us : List Value}, Vals [x] us → ∃ u, us = [u] ∧ RelV x u
  | _, _, .cons r .nil => ⟨_, rfl, r⟩
theorem Vals.two : ∀ {x y : V} {us : List Value}, Vals [x, y] us → ∃ u v, us = [u, v] ∧ RelV x u ∧ RelV y v
  | _, _, _, .cons r (.cons q .nil) => ⟨_, _, rfl, r, q⟩
theorem Vals.zero : ∀ {us : List Value}, Vals [] us → us = []
  | _, .nil => rfl
theorem Vals.dropLast {xs : List V} {us : List Value} (h : Vals xs us) : Vals xs.dropLast us.dropLast := by
  induction h with
  | nil => exact .nil
  | cons r t ih =>
    cases t with
    | nil => exact .nil
    | cons q t' => exact .cons r ih
section
variable {X : Cx} {pins : List (Addr × Obj)} {σ : St} {H : Hp} {s : Shared} {l b : Addr} {xs ys zs : List V}

theorem Inv.lset {its its' : List Value} {n : Nat} {f : Array Value → Array Value} {t' : Nat} (I : Inv X pins σ H s) (hH : H l = some (.lst xs))
    (e : s.heap.get? l = some { cls := .type "list", data := .seq its.toArray n }) (hf : f its.toArray = its'.toArray) (hv : Vals ys its') (hz : ys.length ≤ sizeLine) :
    Inv X pins σ (upd H l (.lst ys)) { s with heap := s.heap.update l (Obj.mapSeq f), toks := t' } := by
  have q := PySem.IsL.update e f
  rw [hf] at q
  refine I.write (x := l) (e := l) (by rw [hH]; exact trivial) (.inl rfl) (fun b' u hb hu => (Heap.get?_update_other s.heap (Obj.mapSeq f) (Ne.symm hb)).trans hu) ⟨_, q⟩ ?_
  exact ⟨hz, its', _, hv, q⟩
theorem Inv.lnew {its : List Value} {t' : Nat} (I : Inv X pins σ H s) (hv : Vals ys its) (hz : ys.length ≤ sizeLine) :
    Inv X pins σ (upd H s.heap.objs.size (.lst ys)) { s with heap := s.heap.push { cls := .type "list", data := .seq its.toArray }, toks := t' } :=
  I.laid (fun _ _ q => Heap.get?_push_of_some _ q) (Nat.le_refl _) ⟨hz, its, 0, hv, Heap.get?_push_size _ rfl⟩
theorem Inv.fresh (I : Inv X pins σ H s) : H s.heap.objs.size = none := I.hok.fresh (Nat.le_refl _)
theorem Inv.lstM (I : Inv X pins σ H s) (hH : H l = some (.lst xs)) : xs.length ≤ sizeLine ∧ ∃ (its : List Value) (n : Nat), Vals xs its ∧ xs.length = its.length ∧ s.heap.get? l = some { cls := .type "list", data := .seq its.toArray n } := by
  obtain ⟨z, its, n, r, e⟩ := I.hok l _ hH
  exact ⟨z, its, n, r, r.length, e⟩

end

section
variable {X : Cx}

def rAppend : V → List V → Hp → VK → Prop := fun x vs H Q => ∃ l xs y, x = .ref l ∧ vs = [y] ∧ H l = some (.lst xs) ∧ xs.length < sizeLine ∧ Q .non (upd H l (.lst (xs ++ [y])))
theorem mt_append : MtM X "list.append" rAppend := by
  intro pins s σ H x vs v us Q I rx rv h
  obtain ⟨l, xs, y, rfl, rfl, hH, hz, q⟩ := h
  cases rx
  obtain ⟨u, rfl, ru⟩ := rv.one
  obtain ⟨z, its, n, r, hl, e⟩ := I.lstM hH
  refine call_meets F.slot_list_append ⟨_, e, rfl⟩ F.entry_list_append (F.args_list_append_2 _ _) (PySem.list_append l its.toArray n u (by rw [List.size_toArray]; omega)) ⟨e, ?_⟩
  refine ⟨.non, _, I.lset (its' := its ++ [u]) hH e (by simp) (r.append (.cons ru .nil)) ?_, rfl, q⟩
  rw [List.length_append, List.length_singleton]
  omega

def rCat : R2 := fun x y H Q => ∃ l b xs zs, x = .ref l ∧ y = .ref b ∧ H l = some (.lst xs) ∧ H b = some (.lst zs) ∧ xs.length + zs.length ≤ sizeLine ∧ ∀ p, H p = none → Q (.ref p) (upd H p (.lst (xs ++ zs)))
theorem op_cat : OpR X (binaryOp .Add) rCat := by
  intro pins s σ H x y v u Q I rx ry h
  obtain ⟨l, b, xs, zs, rfl, rfl, hH, hB, hz, q⟩ := h
  cases rx
  cases ry
  obtain ⟨z, its, n, r, hl, e⟩ := I.lstM hH
  obtain ⟨z2, its2, n2, r2, hl2, e2⟩ := I.lstM hB
  refine PySem.P.add_list e e2 ?_ (by rw [List.size_toArray, List.size_toArray]; omega)
  have ea : its.toArray ++ its2.toArray = (its ++ its2).toArray := by simp
  rw [ea]
  exact ⟨.ref _, _, I.lnew (t' := s.toks) (r.append r2) (by rw [List.length_append]; omega), rfl, q _ I.fresh⟩
end

section
variable {prog : Program} {w : World} {A : Around} {E : Value → Shared → Prop} {s : Shared}
end

section
variable {X : Cx}
end
end L2

namespace Att
open PySem PySem.W PySem.Calls PyProof.Rows

theorem ints_of_wellAll {P : Params} {h : Heap} : ∀ (ns : List Int) (vs : List Value), WellAll P h vs (ns.map WData.int) → IntsAre vs ns := by
  intro ns
  induction ns with
  | nil =>
    intro vs w
    rw [List.map_nil] at w
    cases w
    exact .nil
  | cons n ns ih =>
    intro vs w
    rw [List.map_cons] at w
    cases w with
    | cons a b =>
      cases a
      exact .cons _ _ (ih _ b)

theorem script_of {l : OpenLaw} {n : Nat} (hn : l.most = some n) {P : Params} {h : Heap} {args : List WData} {vals : List Value}
    (hpre : l.row.toRowW.claim.pre args = true) (hwl : WellAll P h vals args) :
    ∃ a vs ns, vals = [Value.ref a] ∧ args = [WData.list (ns.map WData.int)] ∧ h.get? a = some { cls := .type "list", data := .seq vs.toArray } ∧ IntsAre vs ns ∧ ns.length ≤ n := by
  have hsh : WShape.hasAll [] args [.list .int] = true := (pre_splitW hpre).1
  have hc : l.pre.holds [] { args := args } = true := (pre_splitW hpre).2
  obtain ⟨d, r, rfl, h1, h2⟩ := hasAllW_cons hsh
  obtain rfl := hasAllW_nil h2
  obtain ⟨xs, rfl, h3⟩ := hasW_list h1
  obtain ⟨ns, rfl⟩ := items_int h3
  have hlen : ns.length ≤ n := by
    unfold OpenLaw.pre at hc
    have h4 : (WTm.not (.lt (.lit (.int (n : Int))) (.len (.arg 0)))).holds [] { args := [.list (ns.map .int)] } = true := by
      have h4 := (holds_andW hc).1
      rw [hn] at h4
      exact h4
    have h5 := condW_of h4 (w_not (w_lt w_lit (w_len_list (w_arg rfl))))
    rw [List.length_map] at h5
    refine Nat.le_of_not_lt fun q => ?_
    have q' : (n : Int) < ((ns.length : Nat) : Int) := by omega
    first
      | (rw [decide_eq_true q'] at h5; exact absurd h5 (by decide))
      | (simp at h5; omega)
  cases hwl with
  | cons w1 w2 =>
    cases w2
    cases w1 with
    | list ho hall => exact ⟨_, _, ns, rfl, rfl, ho, ints_of_wellAll ns _ hall, hlen⟩

theorem post_true (l : OpenLaw) (args : List WData) : l.row.toRowW.claim.post args (.bool true) args = true :=
  postW_of (r := l.row.toRowW) (X := (true == true))
    (show WShape.has [] (.bool true) .bool = true by first | rfl | decide | simp [WShape.has, WShape.arms, WShape.armsAll])
    (show (WTm.eq .res (.lit (.bool true))).value [] { args := args, res := some (.bool true), after := args } = some (.bool (true == true)) from w_eq_bool (w_res rfl) w_lit) rfl

/-- the same from a codeAny of the CALL (for a layer whose function contracts speak of calls) -/
theorem attach_call {l : OpenLaw} {n : Nat} {q : Program} {loose : List Str} {XP : (Str → Option Value) → Heap → Prop} {YP : World → Heap → Prop} {d : DefRec}
    (hn : l.most = some n) (hdf : d.params.defaults = [])
    (call : ∀ (w : World) (s₀ s₁ : Shared) (mg mb : Str → Option Value) (fa : Addr) (o : Obj) (pm cd doc : Value) (a : Addr) (vs : List Value) (ns : List Int),
      Ground q loose [] XP w s₀ mg mb s₁.heap → YP w s₁.heap →
      s₁.heap.get? fa = some o → o.data = .func (docDef d.name d.params d.body d.scope pm cd doc) → s₁.heap.CodeRec cd d.name → mg d.name = some (.ref fa) →
      s₁.heap.get? a = some { cls := .type "list", data := .seq vs.toArray } → IntsAre vs ns → ns.length ≤ n → s₁.gens = #[] →
      codeAny (model l.prog w) callerA (.call (.ref fa) ⟨[.ref a], []⟩) (fun r s' => r = .ok (.ret (.bool true)) ∧ OldK s₁.heap s'.heap ∧ s'.os = s₁.os ∧ AllBare s'.gens) s₁) :
    WalkO q loose XP YP l.row.toRowW d [] (fun f vs => PySem.call f vs) := by
  intro w s₀ s₁ mg mb G Y fa o pm cd doc dV kV ho hd hcd hD hmg hg args vals as hpre hlay hrd hwl hlo
  obtain rfl : dV = .none := Dflts.none hD hdf
  obtain rfl : kV = .none := Dflts.noKw hD
  obtain ⟨a, vs, ns, rfl, rfl, hobj, hints, hlen⟩ := script_of hn hpre hwl
  refine enter_call (codeAny_mono (call w s₀ s₁ mg mb fa o pm cd doc a vs ns G Y ho (fd_plain hd) hcd hmg hobj hints hlen hg) fun r s' hq => ?_)
  obtain ⟨rfl, h2, h3, h4⟩ := hq
  exact ⟨.inl ⟨.bool true, .bool true, [], rfl, fun _ => rfl, .bool true, post_true l _, fun _ => ⟨List.Pairwise.nil, fun _ hm => (nomatch hm)⟩⟩, h2, h3, h4⟩

section
variable {prog : Program} {w : World} {A : Around} {E : Value → Shared → Prop} {s : Shared} {K : Frag}

end
end Att

namespace L2
open PySem PySem.Spec PyProof.Rows

theorem vals_ints : ∀ {vs : List Value} {ns : List Int}, IntsAre vs ns → Vals (ns.map V.int) vs
  | _, _, .nil => .nil
  | _, _, .cons n t h => .cons ⟨t, rfl⟩ (vals_ints h)

/-- nothing is tracked but the script, known to the object (or it is an object of the module) -/
def Only (H : Hp) : Prop := ∀ b, H b = none ∨ ∃ o xs, H b = some (.frz o (.lst xs))

/-- THE HEAD: the law's promise, at the heap behind the top. F, the promise of the law's def, may use that base is part of the heap (so K.In base, base.Ns mainGlobals mg stand in Mod) -/
theorem law_call {P : Program} {w : World} {K : PySem.W.Frag} {mg mb : Str → Option Value} {CX : CXT} {k : Nat} {fa a : Addr} {fd : FuncData} {x : Str} {sp : Sp} {s₁ : Shared} {vs : List Value} {ns : List Int}
    (KX : K.In s₁.heap) (hns : s₁.heap.Ns mainGlobals mg) (hb : s₁.heap.Ns builtinsNs mb) (hbb : ∀ x : Str, x ≠ "__name__" → mb x = bootBuiltins x) (hlim : s₁.heap.NoLimit) (hg : s₁.gens = #[])
    (ha : s₁.heap.get? a = some { cls := .type "list", data := .seq vs.toArray }) (hi : IntsAre vs ns) (hl : ns.length ≤ sizeLine) (hr : Room k callerA)
    (F : ∀ base : Heap, K.In base → base.Ns mainGlobals mg → FnOk P w K mg base CX k fa fd [x] sp) (hbind : ∀ (s : Shared) (u : Value), BindsTo s fd ⟨[u], []⟩ [(x, u)])
    (hsp : ∀ H : Hp, Only H → SqL K H a (ns.map V.int) → sp [.ref a] H (fun v _ => v = .bl true) fun _ _ _ => False)
    (hCX : ∀ H e s', CX [] H s₁ (fun _ _ _ => False) e s' → False) :
    codeAny (model P w) callerA (.call (.ref fa) ⟨[.ref a], []⟩) (fun r s' => r = .ok (.ret (.bool true)) ∧ OldK s₁.heap s'.heap ∧ s'.os = s₁.os ∧ AllBare s'.gens) s₁ := by
  have rv := vals_ints hi
  have lenV := hi.length
  -- from an abstract heap in which nothing but the script may be tracked
  have core : ∀ H : Hp, Only H → SqL K H a (ns.map V.int) → HOk P w H s₁.heap → (∀ b, H b ≠ none → b = a) → (H a ≠ none → K.lookup a = none) →
      codeAny (model P w) callerA (.call (.ref fa) ⟨[.ref a], []⟩) (fun r s' => r = .ok (.ret (.bool true)) ∧ OldK s₁.heap s'.heap ∧ s'.os = s₁.os ∧ AllBare s'.gens) s₁ := by
    intro H hO hS hok hA hK
    have base_of : ∀ {b : Addr} {o : Obj}, s₁.heap.get? b = some o → H b = none → (hidT s₁.heap H).get? b = some o := fun e n => hidT_get e n
    have noA : ∀ {b : Addr} {o : Obj} {es : Array DictEntry} {ep : Nat}, s₁.heap.get? b = some o → o.data = .dict es ep → H b = none := fun {b o es ep} e d => by
      cases q : H b with
      | none => rfl
      | some u =>
        have e' : b = a := hA b (by rw [q]; simp)
        subst e'
        rw [ha] at e; cases e
        have d' : Data.seq vs.toArray _ = Data.dict es ep := d
        cases d'
    have nsK : ∀ {b : Addr} {m : Str → Option Value}, s₁.heap.Ns b m → (hidT s₁.heap H).Ns b m := fun {b m} ⟨o, es, ep, e, d, r⟩ => ⟨o, es, ep, base_of e (noA e d), d, r⟩
    have hKb : K.In (hidT s₁.heap H) := fun b o e => base_of (KX b o e) (by
      cases q : H b with
      | none => rfl
      | some u =>
        have e' : b = a := hA b (by rw [q]; simp)
        subst e'
        rw [hK (by rw [q]; simp)] at e; cases e)
    have hM : Mod K mg (hidT s₁.heap H) := ⟨hKb, nsK hns, ⟨mb, nsK hb, hbb⟩, let ⟨mc, h1, h2⟩ := hlim; ⟨mc, nsK h1, h2⟩⟩
    have e0 : Env0 P w K mg (hidT s₁.heap H) callerA [] s₁ H := ⟨rfl, hM, fun b o e => of_hidT e, Nat.le_of_eq (hidT_size _ _), trivial, fun b hb => absurd (show b ∈ ([] : List Addr) from hb) (by simp), hok, .of_eq hg⟩
    refine codeAny_mono ((F _ hKb (nsK hns)).run callerA [] s₁ H ⟨[.ref a], []⟩ [.ref a] [.ref a] _ _ hr e0 (hbind s₁ (.ref a)) (.cons rfl .nil) (hsp H hO hS)) fun r s' h => ?_
    cases r with
    | error e => exact (hCX H e s' h).elim
    | ok fl =>
      cases fl with
      | next => exact False.elim h
      | brk => exact False.elim h
      | cont => exact False.elim h
      | ret u =>
        obtain ⟨v, H', os, bare, un, hok', r', q⟩ := h
        have q' : v = .bl true := q
        subst q'
        obtain rfl : u = Value.bool true := r'
        refine ⟨rfl, OldK.of_keep fun b o e => ?_, os, bare⟩
        cases q : H b with
        | none => exact un.keep b o e q (by intro z; exact absurd (show b ∈ ([] : List Addr) from z) (by simp)) (by simp)
        | some u =>
          rcases hO b with z | ⟨ob, xs, z⟩
          · rw [q] at z; cases z
          · have z2 := un.frzs b ob _ z
            obtain ⟨e1, _⟩ := hok b _ z
            obtain ⟨e2, _⟩ := hok' b _ z2
            rw [e] at e1; cases e1
            exact e2
  cases hk : K.lookup a with
  | some o =>
    -- the script is one of the module's own objects
    have e := KX a o hk
    rw [ha] at e
    cases e
    refine core (fun _ => none) (fun _ => .inl rfl) (.inr ⟨_, vs.toArray, _, hk, rfl, rfl, rfl, by rw [List.size_toArray, lenV]; exact hl, by simpa using rv⟩) (fun b u z => by have z' : (none : Option HO) = some u := z; cases z') (fun b z => absurd rfl z) fun z => absurd rfl z
  | none =>
    refine core (fun b => if b = a then some (.frz { cls := .type "list", data := .seq vs.toArray } (.lst (ns.map V.int))) else none) (fun b => ?_) (.inl (.inr ⟨{ cls := .type "list", data := .seq vs.toArray }, if_pos rfl⟩)) (fun b u z => ?_) (fun b z => ?_) fun _ => hk
    · by_cases hb : b = a
      · exact .inr ⟨_, _, if_pos hb⟩
      · exact .inl (if_neg hb)
    · by_cases hb : b = a
      · have z' := (if_pos hb).symm.trans z
        cases z'
        subst hb
        exact ⟨ha, by rw [List.length_map]; exact hl, vs, _, rv, ha⟩
      · have z' := (if_neg hb).symm.trans z
        cases z'
    · by_cases hb : b = a
      · exact hb
      · exact absurd (if_neg hb) z
end L2

namespace L2
open PySem PySem.Spec PyProof.Rows

abbrev KOf {K : PySem.W.Frag} {h : Heap} (_ : K.In h) : PySem.W.Frag := K

/-- the goal that k_head leaves (case hc), from the law's promise. F gives the function object fd (K's own) once, then the promise over every base -/
theorem walk_of {l : PySem.W.OpenLaw} {n k : Nat} {q : Program} {loose : List Str} {XP : (Str → Option Value) → Heap → Prop} {YP : World → Heap → Prop} {d : DefRec} {K : Params → PySem.W.Frag} {CX : World → CXT} {sp : World → Sp} {x : Str}
    (hn : l.most = some n) (hn2 : n ≤ sizeLine) (hdf : d.params.defaults = []) (hr : Room k callerA)
    (hY : ∀ (w : World) (h : Heap), YP w h → (K w.params).In h)
    (F : ∀ (w : World) (mg : Str → Option Value) (fa : Addr) (h : Heap), (K w.params).In h → h.Ns mainGlobals mg → mg d.name = some (.ref fa) →
      ∃ fd : FuncData, (∀ (s : Shared) (u : Value), BindsTo s fd ⟨[u], []⟩ [(x, u)]) ∧
        ∀ base : Heap, (K w.params).In base → base.Ns mainGlobals mg → FnOk l.prog w (K w.params) mg base (CX w) k fa fd [x] (sp w))
    (hsp : ∀ (w : World) (H : Hp) (a : Addr) (ns : List Int), ns.length ≤ n → Only H → SqL (K w.params) H a (ns.map V.int) → sp w [.ref a] H (fun v _ => v = .bl true) fun _ _ _ => False)
    (hCX : ∀ (w : World) (H : Hp) (s : Shared) (e : Value) (s' : Shared), CX w [] H s (fun _ _ _ => False) e s' → False) :
    PySem.W.WalkO q loose XP YP l.row.toRowW d [] (fun f vs => PySem.call f vs) := by
  refine Att.attach_call hn hdf fun w s₀ s₁ mg mb fa o pm cd doc a vs ns G Y ho hd hcd hmg hobj hints hlen hg => ?_
  have KX := hY w _ Y
  obtain ⟨fd, hb, hF⟩ := F w mg fa _ KX G.T.g hmg
  exact law_call KX G.T.g G.T.b G.T.builtins G.T.nolimit hg hobj hints (Nat.le_trans hlen hn2) hr hF hb (fun H hO hS => hsp w H a ns hlen hO hS) fun H e s' => hCX w H s₁ e s'
end L2

/- THE LAST THEOREM (shape; LID, My.* are yours):
   My.Adr: a structure of the addresses that your layer names (classes, functions); My.Txt K t: a structure (Prop) of the equations over K;
   My.txt_mk : {K} {implicit addresses ..} (e1 : nsIn K mainGlobals "law" = some (some (.ref f))) (e2 : K.lookup f = some ⟨oc, od, .func (fnOf "law" "law" params body scope dV kV doc pm an cdv ct), sl⟩) (e3 : codeIn K cdv "law" = true) .. : ∃ t, My.Txt K t

set_option maxRecDepth 100000 in
set_option maxHeartbeats 0 in
theorem PySem.Challenge.cw_LID_holds : PySem.Challenge.rw_LID.Holds := by
  w_on; o_law; k_head; (case hw => w_witness2)
  k_fill
  refine L2.walk_of (l := PySem.Challenge.rw_LID) (n := 63) (k := 40) (x := "script") (CX := fun w => ..) (sp := fun _ => My.sp_law) rfl (by decide) rfl ⟨rfl, by decide, by decide⟩ (fun w h Y => PySem.W.kIn_of Y) ?F ?S ?C
  case F =>
    intro w mg fa h KX G hmg
    have T : ∃ t, My.Txt (L2.KOf KX) t := by
      dsimp only [L2.KOf]                          -- K must stand as «<heap const> w.params» for k_is
      refine' My.txt_mk ?e1 ?e2 ?e3 ..
      (case e1 => PySem.W.k_is)                    -- in the order: a name -> its address -> its object -> its parts
      (case e2 => PySem.W.k_is)
      ..
    obtain ⟨t, T⟩ := T
    have e0 := hmg.symm.trans (PySem.W.mg_of KX G T.law)
    cases e0                                       -- fa is the law's own address
    exact ⟨_, fun s u => .of_eq rfl, fun base kb nb => My.law_fn T kb nb⟩     -- if «.of_eq rfl» comes too early: refine' ⟨_, ?b, fun base kb nb => My.law_fn T kb nb⟩; exact fun s u => .of_eq rfl
  case S => exact fun w H a ns hl hO hS => ..
  case C => exact ..
(the tactic k_is has no namespace: write k_is) -/

namespace L2
open PySem PySem.Spec PyProof.Rows

/-- the j-th statement of a class's body -/
def inClass (s : Stmt) (j : Nat) : Stmt := match s with
  | .ClassDef _ _ _ body _ _ _ _ _ _ _ => body.getD j (.Pass ⟨0, 0, 0, 0⟩)
  | _ => .Pass ⟨0, 0, 0, 0⟩
def defArgs (s : Stmt) : Arguments := match s with
  | .FunctionDef _ a _ _ _ _ _ _ _ _ => a
  | _ => { posonlyargs := [], args := [], vararg := none, kwonlyargs := [], kw_defaults := [], kwarg := none, defaults := [] }
def defBody (s : Stmt) : List Stmt := match s with
  | .FunctionDef _ _ b _ _ _ _ _ _ _ => b
  | _ => []
def defScope (s : Stmt) : Scope := match s with
  | .FunctionDef _ _ _ _ _ _ sc _ _ _ => sc
  | _ => { kind := .function, names := [], isGenerator := false, isCoroutine := false }

abbrev CX0 : CXT := fun _ _ _ _ _ _ => False
abbrev E0 : XK := fun _ _ _ => False
theorem pass0 {X : Cx} : Passes CX0 X E0 := fun _ _ _ _ _ _ _ h => h.elim

structure Fun (K : PySem.W.Frag) (x qual : Str) (st : Stmt) (f : Addr) (fd : FuncData) : Prop where
  ex : ∃ (oc : Value) (od : Option Addr) (kV doc pm : Value) (an : Option Addr) (cdv ct : Value) (osl : Array (Option Value)),
    fd = PySem.W.fnOf x qual (defArgs st) (defBody st) (defScope st) .none kV doc pm an cdv ct ∧ K.lookup f = some ⟨oc, od, .func fd, osl⟩ ∧ PySem.W.codeIn K cdv qual = true
  kp : PySem.W.keepIn K (.ref f) = true
section
variable {P : Program} {w : World} {K : PySem.W.Frag} {mg : Str → Option Value} {base : Heap}
/-- THE RULE for a def: its body as a term of rules, and the reading of that term -/
theorem Fun.ok {x qual : Str} {st : Stmt} {f : Addr} {fd : FuncData} {N ps : List Str} {k : Nat} {sp : Sp} (F : Fun K x qual st f fd) (S : FnScope N ps (defScope st)) (len : ∀ vs H Q E, sp vs H Q E → vs.length = ps.length)
    (hbody : ∀ (cdv : Value) (A : Around) (outer : List Env) (s : Shared) (H : Hp) (vs : List V) (Q : VK) (E : XK), Room k (A.deeper (envOfC qual (defScope st) s.heap.objs.size f cdv)) → sp vs H Q E →
      ∃ t, PSs (cxOf CX0 P w K mg base N qual (defScope st) f cdv A outer s H E).nox (defBody st) t ∧ t { nx := fun _ H' => Q .non H', rt := Q } (start N vs) H) : FnOk P w K mg base CX0 (k + 1) f fd ps sp := by
  obtain ⟨oc, od, kV, doc, pm, an, cdv, ct, osl, rfl, lk, hcd⟩ := F.ex
  refine fn_of lk hcd S len fun A outer s H vs Q E hr hsp => ?_
  obtain ⟨t, h, q⟩ := hbody cdv A outer s H vs Q E hr hsp
  exact ⟨t, h.nox, q⟩
/-- how its arguments bind (no defaults): h is «fun _ _ _ _ _ _ us hl => match us, hl with | [_, _], _ => rfl», one _ a parameter -/
theorem Fun.binds {x qual : Str} {st : Stmt} {f : Addr} {fd : FuncData} {ps : List Str} (F : Fun K x qual st f fd)
    (h : ∀ (kV doc pm : Value) (an : Option Addr) (cdv ct : Value) (us : List Value), us.length = ps.length → bindArgs (PySem.W.fnOf x qual (defArgs st) (defBody st) (defScope st) .none kV doc pm an cdv ct) ⟨us, []⟩ = pure (ps.zip us)) : Binds K fd ps [] := by
  obtain ⟨oc, od, kV, doc, pm, an, cdv, ct, osl, rfl, lk, hcd⟩ := F.ex
  exact .all (h kV doc pm an cdv ct)
theorem fun_mk {x qual : Str} {st : Stmt} {f : Addr} {oc : Value} {od an : Option Addr} {osl : Array (Option Value)} {kV doc pm cdv ct : Value} (l : K.lookup f = some ⟨oc, od, .func (PySem.W.fnOf x qual (defArgs st) (defBody st) (defScope st) .none kV doc pm an cdv ct), osl⟩)
    (c : PySem.W.codeIn K cdv qual = true) (k : PySem.W.keepIn K (.ref f) = true) : Fun K x qual st f (PySem.W.fnOf x qual (defArgs st) (defBody st) (defScope st) .none kV doc pm an cdv ct) := ⟨⟨oc, od, kV, doc, pm, an, cdv, ct, osl, rfl, l, c⟩, k⟩
end
theorem small1000 {n : Nat} (h : n ≤ 1000) : n < sizeLine := Nat.lt_of_le_of_lt h (by decide)

section
variable {X : Cx}
theorem pv (i : Nat) {x : Str} {pos : Pos} (hN : X.N[i]? = some x := by rfl) (hv : Vis X.env.scope x := by first | exact Or.inl rfl | exact Or.inr (Or.inl rfl) | exact Or.inr (Or.inr rfl)) (hd : (x == ("__debug__" : Str)) = false := by decide)
    (hcd : (x == ("__classdict__" : Str)) = false := by decide) : PE X (.Name x pos) (tVar i) := pe_var hN hv hd hcd
end

theorem iteF {A B : Prop} (h : B) : if false = true then A else B := by
  rw [if_neg Bool.false_ne_true]
  exact h
theorem iteT {A B : Prop} (h : A) : if true = true then A else B := by
  rw [if_pos rfl]
  exact h
theorem iteNS {c A B : Prop} [Decidable c] (hc : c) (h : B) : if (!decide c) = true then A else B := by
  rw [decide_eq_true hc]
  exact iteF h

/-- all that was tracked is as it was -/
def Same (H H' : Hp) : Prop := ∀ b o, H b = some o → H' b = some o
theorem Same.refl (H : Hp) : Same H H := fun _ _ h => h
theorem Same.trans {H H1 H2 : Hp} (a : Same H H1) (b : Same H1 H2) : Same H H2 := fun c o h => b c o (a c o h)
theorem Same.free {H H' : Hp} (e : Same H H') {l : Addr} (h : H' l = Option.none) : H l = Option.none := by
  cases q : H l with
  | none => rfl
  | some o =>
    rw [e l o q] at h
    cases h
theorem Same.seq {K : PySem.W.Frag} {H H' : Hp} {a : Addr} {xs : List V} (e : Same H H') (h : SqL K H a xs) : SqL K H' a xs := by
  rcases h with (h | ⟨o, h⟩) | h
  · exact .inl (.inl (e _ _ h))
  · exact .inl (.inr ⟨o, e _ _ h⟩)
  · exact .inr h

end L2

set_option Elab.async false
set_option linter.all false
set_option maxRecDepth 100000
set_option maxHeartbeats 4000000
namespace L2
open PySem PySem.Spec PyProof.Rows

def Bt (k : Nat) (x : Int) : Prop := x.natAbs < 2 ^ k
theorem Bt.bits {k : Nat} {x : Int} (h : Bt k x) : Builtin.Int.intBits x ≤ k := PySem.intBits_le_iff.mpr h
theorem Bt.mono {k m : Nat} {x : Int} (h : Bt k x) (l : k ≤ m) : Bt m x := Nat.lt_of_lt_of_le h (Nat.pow_le_pow_right (by decide) l)
theorem Bt.le {k : Nat} {x y : Int} (h : Bt k y) (l : x.natAbs ≤ y.natAbs) : Bt k x := Nat.lt_of_le_of_lt l h
theorem Bt.mul {k m : Nat} {x y : Int} (h : Bt k x) (g : Bt m y) : Bt (k + m) (x * y) := by
  unfold Bt at *
  rw [Int.natAbs_mul, Nat.pow_add]
  exact Nat.mul_lt_mul'' h g
theorem Bt.add {k : Nat} {x y : Int} (h : Bt k x) (g : Bt k y) : Bt (k + 1) (x + y) := by
  unfold Bt at *
  have := Int.natAbs_add_le x y
  rw [Nat.pow_succ]; omega
theorem Bt.neg {k : Nat} {x : Int} (h : Bt k x) : Bt k (-x) := by unfold Bt at *; omega
def CMulB (i j : Int) : Prop := ∃ n m : Nat, Bt n i ∧ Bt m j ∧ n + m ≤ 134217728
theorem CMulB.ok {i j : Int} (h : CMulB i j) : IntMulOk i j := by
  obtain ⟨n, m, h1, h2, h3⟩ := h
  have a := h1.bits
  have b := h2.bits
  have hs : ((Builtin.Int.intBits i + Builtin.Int.intBits j : Nat) : Int) ≤ 2 ^ 27 := by
    have e : (2 : Int) ^ 27 = 134217728 := by decide
    rw [e]; omega
  have hb : Builtin.Int.intTooBig ((Builtin.Int.intBits i + Builtin.Int.intBits j : Nat) : Int) = false := decide_eq_false (Int.not_lt.mpr hs)
  unfold IntMulOk
  first
    | (rw [show (((Builtin.Int.intBits i : Nat) : Int) + ((Builtin.Int.intBits j : Nat) : Int)) = ((Builtin.Int.intBits i + Builtin.Int.intBits j : Nat) : Int) by omega, hb]; simp)
    | (rw [hb]; simp)
    | (intro z; simp only [Bool.and_eq_true] at z; simp_all)
section
variable {X : Cx} {a b c : Expr} {ta tb tc : TE} {pos : Pos}
theorem op_mulB : OpR X (binaryOp .Mult) (rI CMulB fun i j => .int (i * j)) := opI fun _ _ _ _ _ _ _ hc q => mul_int q hc.ok
theorem log2_lt9000 {j : Int} (h : Bt 9000 j) : j.natAbs.log2 < 9000 := by
  by_cases h0 : j.natAbs = 0
  · rw [h0]; decide +kernel
  · exact (Nat.log2_lt h0).mpr h
def CDivB (_ j : Int) : Prop := 0 < j ∧ Bt 9000 j
def CDivF (_ j : Int) : Prop := j ≠ 0 ∧ Bt 9000 j
theorem op_fdivB : OpR X (binaryOp .FloorDiv) (rI CDivB fun i j => .int (i / j)) := opI fun i j _ _ _ _ _ hc q => by
  have h1 : (0 : Int) < j := hc.1
  exact floordiv_int (by omega) (by rw [Int.fdiv_eq_ediv_of_nonneg i (by omega)]; exact q) (.inl (PyProof.noPylong_of_log2 (log2_lt9000 hc.2)))
theorem op_fdivF : OpR X (binaryOp .FloorDiv) (rI CDivF fun i j => .int (i.fdiv j)) := opI fun i j _ _ _ _ _ hc q =>
  floordiv_int hc.1 q (.inl (PyProof.noPylong_of_log2 (log2_lt9000 hc.2)))
def rIsi (K : PySem.W.Frag) : List V → Hp → VK → Prop := fun xs H Q => ∃ x c t b, xs = [x, .ty c] ∧ TyOf K H x t ∧ PySem.W.kitOne K t (.type c) = some b ∧ Q (.bl b) H
theorem call_isi : CallR X (.builtin "isinstance") (rIsi X.K) := by
  intro pins s σ H xs us Q I r h
  obtain ⟨x, c, t, b, rfl, ty, e, q⟩ := h
  obtain ⟨u, w', rfl, r1, r2⟩ := vals2 r
  cases (show w' = Value.type c from r2)
  exact isinst_ok I r1 ty e fun tk => ⟨.bl b, H, I.tok tk, rfl, q⟩

structure Cal (P : Program) (w : World) (K : PySem.W.Frag) (mg : Str → Option Value) (base : Heap) (k : Nat) (x : Str) (ps : List Str) (sp : Sp) : Prop where
  ex : ∃ (f : Addr) (fd : FuncData), FnOk P w K mg base CX0 k f fd ps sp ∧ Binds K fd ps [] ∧ PySem.W.keepIn K (.ref f) = true ∧ mg x = some (.ref f)
theorem pe_cal {k : Nat} {x : Str} {ps : List Str} {sp : Sp} {e : Expr} {es : List Expr} {t : TA} {p : Pos} (C : Cal X.prog X.w X.K X.mg X.base k x ps sp) (hr : Room k X.A) (hg : Gl X x) (ha : PA X (e :: es) t)
    (hdb : (x == ("__debug__" : Str)) = false := by decide) (he : starEach (e :: es) X.env = (false, eval e X.env) :: starEach es X.env := by rfl) (hpl : (backTo pos (starEach es X.env)).any (·.1) = false := by rfl) :
    PE X (.Call (.Name x p) (e :: es) [] pos) (tCall sp [] E0 t) := by
  obtain ⟨f, fd, F, b, kp, m⟩ := C.ex
  exact pe_call F hr hg m kp b .nil pass0 ha hdb he hpl

def tCut (t : TS) : TS := fun D σ H => ∃ J : St → Hp → Prop, t { D with nx := J } σ H ∧ ∀ σ' H', J σ' H' → D.nx σ' H'
theorem ps_cut {st : Stmt} {t : TS} (h : PS X st t) : PS X st (tCut t) := by
  intro pins s σ H D I hw
  obtain ⟨J, h1, h2⟩ := hw
  refine thn (h pins s σ H { D with nx := J } I h1) fun f s1 q => ?_
  cases f with
  | next =>
    obtain ⟨σ', H', I', q⟩ := q
    exact ⟨σ', H', I', h2 _ _ q⟩
  | ret v => exact q
  | brk => exact q
  | cont => exact q
theorem rd_cut {t : TS} {D : Ends} {σ : St} {H : Hp} (J : St → Hp → Prop) (h1 : t { D with nx := J } σ H) (h2 : ∀ σ' H', J σ' H' → D.nx σ' H') : tCut t D σ H := ⟨J, h1, h2⟩
theorem rd_var {i : Nat} {σ : St} {H : Hp} {Q : VK} {v : V} (e : σ[i]? = some (some v)) (h : Q v H) : tVar i σ H Q := ⟨v, e, h⟩
theorem rd_c {v : V} {σ : St} {H : Hp} {Q : VK} (h : Q v H) : tC v σ H Q := h
theorem rd_op {r : R2} {σ : St} {H : Hp} {Q : VK} (h : ta σ H fun x H1 => tb σ H1 fun y H2 => r x y H2 Q) : tOp r ta tb σ H Q := h
theorem rd_un {r : V → Hp → VK → Prop} {σ : St} {H : Hp} {Q : VK} (h : ta σ H fun x H1 => r x H1 Q) : tUn r ta σ H Q := h
theorem rd_i0 {g : Int → Int → V} {i j : Int} {H : Hp} {Q : VK} (h : Q (g i j) H) : rI0 g (.int i) (.int j) H Q := ⟨i, j, rfl, rfl, h⟩
theorem rd_i {C : Int → Int → Prop} {g : Int → Int → V} {i j : Int} {H : Hp} {Q : VK} (c : C i j) (h : Q (g i j) H) : rI C g (.int i) (.int j) H Q := ⟨i, j, rfl, rfl, c, h⟩
theorem rd_u {g : Int → V} {i : Int} {H : Hp} {Q : VK} (h : Q (g i) H) : rU g (.int i) H Q := ⟨i, rfl, h⟩
theorem rd_eq {x y : V} {H : Hp} {Q : VK} (s : scal x y = true) (h : Q (.bl (decide (x = y))) H) : rEq x y H Q := ⟨s, h⟩
theorem rd_ne {x y : V} {H : Hp} {Q : VK} (s : scal x y = true) (h : Q (.bl (!decide (x = y))) H) : rNe x y H Q := ⟨s, h⟩
theorem rd_test {t : TE} {σ : St} {H : Hp} {Q : Bool → Hp → Prop} (h : t σ H fun x H' => ∃ k, x = .bl k ∧ Q k H') : tTest t σ H Q := h
theorem rd_b {t : TE} {σ : St} {H : Hp} {Q : Bool → Hp → Prop} (h : t σ H fun x H' => ∃ k, x = .bl k ∧ Q k H') : L2.tB t σ H Q := h
theorem rd_bl {k : Bool} {Q : Bool → Prop} (h : Q k) : ∃ k', V.bl k = .bl k' ∧ Q k' := ⟨k, rfl, h⟩
theorem rel_ty (n : String) : RelV (.ty n) (.type n) := rfl
theorem rel_int (i : Int) (t : Tok) : RelV (.int i) (.int i t) := ⟨t, rfl⟩
theorem rd_not {t : TT} {σ : St} {H : Hp} {Q : Bool → Hp → Prop} (h : t σ H fun c H1 => Q (!c) H1) : tNot t σ H Q := h
theorem rd_and {t u : TT} {σ : St} {H : Hp} {Q : Bool → Hp → Prop} (h : t σ H fun c H1 => if c = true then u σ H1 Q else Q false H1) : tAnd t u σ H Q := h
theorem rd_or {t u : TT} {σ : St} {H : Hp} {Q : Bool → Hp → Prop} (h : t σ H fun c H1 => if c = true then Q true H1 else u σ H1 Q) : tOr t u σ H Q := h
theorem rd_andV {σ : St} {H : Hp} {Q : VK} (h : ta σ H fun x H1 => ∃ c, x = .bl c ∧ if c = true then tb σ H1 Q else Q (.bl false) H1) : tAndV ta tb σ H Q := h
theorem rd_orV {σ : St} {H : Hp} {Q : VK} (h : ta σ H fun x H1 => ∃ c, x = .bl c ∧ if c = true then Q (.bl true) H1 else tb σ H1 Q) : tOrV ta tb σ H Q := h
theorem rd_notV {σ : St} {H : Hp} {Q : VK} (h : ta σ H fun x H1 => ∃ c, x = .bl c ∧ Q (.bl (!c)) H1) : tNotV ta σ H Q := h
theorem rd_chain {r r' : R2} {σ : St} {H : Hp} {Q : VK} (h : ta σ H fun x H1 => tb σ H1 fun y H2 => r x y H2 fun z H3 => ∃ k, z = .bl k ∧ (if k = true then tc σ H3 fun w' H4 => r' y w' H4 Q else Q (.bl false) H3)) : tChain r r' ta tb tc σ H Q := h
theorem rd_call {sp : Sp} {dvs : List V} {E : XK} {t : TA} {σ : St} {H : Hp} {Q : VK} (h : t σ H fun vs H1 => sp (vs ++ dvs) H1 Q E) : tCall sp dvs E t σ H Q := h
theorem rd_cb {r : List V → Hp → VK → Prop} {t : TA} {σ : St} {H : Hp} {Q : VK} (h : t σ H fun vs H1 => r vs H1 Q) : tCB r t σ H Q := h
theorem rd_nil {σ : St} {H : Hp} {Q : List V → Hp → Prop} (h : Q [] H) : tNil σ H Q := h
theorem rd_cons {tr : TA} {σ : St} {H : Hp} {Q : List V → Hp → Prop} (h : ta σ H fun x H1 => tr σ H1 fun xs H2 => Q (x :: xs) H2) : tCons ta tr σ H Q := h
theorem rd_tup {t : TA} {σ : St} {H : Hp} {Q : VK} (h : t σ H fun xs H1 => xs.length ≤ sizeLine ∧ ∀ p, H1 p = none → Q (.ref p) (upd H1 p (.tup xs))) : tTup t σ H Q := h
theorem rd_lst {t : TA} {σ : St} {H : Hp} {Q : VK} (h : t σ H fun xs H1 => xs.length ≤ sizeLine ∧ ∀ p, H1 p = none → Q (.ref p) (upd H1 p (.lst xs))) : tLst t σ H Q := h
theorem rd_seq {t u : TS} {D : Ends} {σ : St} {H : Hp} (h : t { D with nx := u D } σ H) : tSeq t u D σ H := h
theorem rd_next {D : Ends} {σ : St} {H : Hp} (h : D.nx σ H) : tNext D σ H := h
theorem rd_ret {te : TE} {D : Ends} {σ : St} {H : Hp} (h : te σ H D.rt) : tRet te D σ H := h
theorem rd_ifS {c : TT} {t u : TS} {D : Ends} {σ : St} {H : Hp} (h : c σ H fun b H1 => if b = true then t D σ H1 else u D σ H1) : tIfS c t u D σ H := h
theorem rd_asg {te : TE} {g : TG} {D : Ends} {σ : St} {H : Hp} (h : te σ H fun x H1 => g x σ H1 D.nx) : tAsg te g D σ H := h
theorem rd_drop {te : TE} {D : Ends} {σ : St} {H : Hp} (h : te σ H fun _ H1 => D.nx σ H1) : tDrop te D σ H := h
theorem rd_gname {i : Nat} {v : V} {σ : St} {H : Hp} {Q : St → Hp → Prop} (h : Q (σ.set i (some v)) H) : gName i v σ H Q := h
theorem rd_gtup {K : PySem.W.Frag} {n : Nat} {t : TGs} {a : Addr} {xs : List V} {σ : St} {H : Hp} {Q : St → Hp → Prop} (hs : SqT K H a xs) (hl : xs.length = n) (h : t xs σ H Q) : gTup K n t (.ref a) σ H Q := ⟨a, xs, rfl, hs, hl, h⟩
theorem rd_gcons {t : TG} {u : TGs} {v : V} {r : List V} {σ : St} {H : Hp} {Q : St → Hp → Prop} (h : t v σ H fun σ' H' => u r σ' H' Q) : gCons t u (v :: r) σ H Q := ⟨v, r, rfl, h⟩
theorem rd_gnil {σ : St} {H : Hp} {Q : St → Hp → Prop} (h : Q σ H) : gNil [] σ H Q := ⟨rfl, h⟩
theorem rd_ixT {K : PySem.W.Frag} {p : Addr} {xs : List V} {i : Int} {v : V} {H : Hp} {Q : VK} (hs : SqT K H p xs) (e : atI xs i = some v) (h : Q v H) : rIxT K (.ref p) (.int i) H Q := ⟨p, xs, i, v, rfl, rfl, hs, e, h⟩
theorem rd_ixL {K : PySem.W.Frag} {p : Addr} {xs : List V} {i : Int} {v : V} {H : Hp} {Q : VK} (hs : SqL K H p xs) (e : atI xs i = some v) (h : Q v H) : rIxL K (.ref p) (.int i) H Q := ⟨p, xs, i, v, rfl, rfl, hs, e, h⟩
theorem rd_isi {K : PySem.W.Frag} {x : V} {c : String} {t : Value} {b : Bool} {H : Hp} {Q : VK} (ty : TyOf K H x t) (e : PySem.W.kitOne K t (.type c) = some b) (h : Q (.bl b) H) : rIsi K [x, .ty c] H Q := ⟨x, c, t, b, rfl, ty, e, h⟩
theorem iteD {c A B : Prop} [Decidable c] (hc : c) (h : A) : if decide c = true then A else B := by
  rw [decide_eq_true hc]; exact iteT h
theorem iteN {c A B : Prop} [Decidable c] (hc : ¬ c) (h : B) : if decide c = true then A else B := by
  rw [decide_eq_false hc]; exact iteF h
theorem iteNN {c A B : Prop} [Decidable c] (hc : ¬ c) (h : A) : if (!decide c) = true then A else B := by
  rw [decide_eq_false hc]; exact iteT h
theorem ite2d {c A B : Prop} [Decidable c] (h1 : c → A) (h2 : ¬ c → B) : if decide c = true then A else B := by
  by_cases h : c
  · exact iteD h (h1 h)
  · exact iteN h (h2 h)
theorem Same.tup {K : PySem.W.Frag} {H H' : Hp} {a : Addr} {xs : List V} (e : Same H H') (h : SqT K H a xs) : SqT K H' a xs := by
  rcases h with (h | ⟨o, h⟩) | h
  · exact .inl (.inl (e _ _ h))
  · exact .inl (.inr ⟨o, e _ _ h⟩)
  · exact .inr h
theorem same_new {H : Hp} {p : Addr} (h : H p = none) (o : HO) : Same H (upd H p o) := fun b u q => by rw [upd_ne (ne_of_none q h)]; exact q
theorem cdiv_small {i j : Int} (h0 : 0 < j) (h1 : j < 18446744073709551616) : CDivB i j := ⟨h0, Bt.mono (k := 64) (by unfold Bt; omega) (by decide)⟩
theorem pow2_pos (k : Nat) : (0 : Int) < 1 * 2 ^ k := by
  have e : (1 : Int) * 2 ^ k = ((2 ^ k : Nat) : Int) := by rw [Int.natCast_pow]; simp
  rw [e]
  have := Nat.two_pow_pos k
  omega
end
end L2

namespace Att
open PySem PySem.W PySem.Calls PyProof.Rows
theorem weight_item : ∀ {ns : List Int} {n : Int}, n ∈ ns → Builtin.Int.intBits n ≤ WData.weightAll (ns.map WData.int)
  | m :: ns, n, h => by
    rw [List.map_cons]
    show _ ≤ WData.weight (.int m) + 1 + WData.weightAll (ns.map WData.int)
    rcases List.mem_cons.mp h with rfl | h
    · have e : WData.weight (.int n) = Builtin.Int.intBits n := by first | rfl | (unfold Builtin.Int.intBits; rfl) | simp [WData.weight, Builtin.Int.intBits]
      omega
    · have := weight_item h
      omega
theorem bits_of_lay {ns : List Int} (h : WData.layableAll [WData.list (ns.map WData.int)] = true) : ∀ n ∈ ns, L2.Bt 1048576 n := fun n hn => by
  have h1 : WData.layable (WData.list (ns.map WData.int)) = true := (Bool.and_eq_true_iff.mp h).1
  have h2 : WData.weight (WData.list (ns.map WData.int)) ≤ 2 ^ 20 := of_decide_eq_true (Bool.and_eq_true_iff.mp h1).2
  have h3 := weight_item hn
  have e : WData.weight (WData.list (ns.map WData.int)) = WData.weightAll (ns.map WData.int) := by first | rfl | simp [WData.weight]
  refine PySem.intBits_le_iff.mp ?_
  omega
theorem attach_callB {l : OpenLaw} {n : Nat} {q : Program} {loose : List Str} {XP : (Str → Option Value) → Heap → Prop} {YP : World → Heap → Prop} {d : DefRec}
    (hn : l.most = some n) (hdf : d.params.defaults = [])
    (call : ∀ (w : World) (s₀ s₁ : Shared) (mg mb : Str → Option Value) (fa : Addr) (o : Obj) (pm cd doc : Value) (a : Addr) (vs : List Value) (ns : List Int),
      Ground q loose [] XP w s₀ mg mb s₁.heap → YP w s₁.heap →
      s₁.heap.get? fa = some o → o.data = .func (docDef d.name d.params d.body d.scope pm cd doc) → s₁.heap.CodeRec cd d.name → mg d.name = some (.ref fa) →
      s₁.heap.get? a = some { cls := .type "list", data := .seq vs.toArray } → IntsAre vs ns → ns.length ≤ n → (∀ n ∈ ns, L2.Bt 1048576 n) → s₁.gens = #[] →
      codeAny (model l.prog w) callerA (.call (.ref fa) ⟨[.ref a], []⟩) (fun r s' => r = .ok (.ret (.bool true)) ∧ OldK s₁.heap s'.heap ∧ s'.os = s₁.os ∧ AllBare s'.gens) s₁) :
    WalkO q loose XP YP l.row.toRowW d [] (fun f vs => PySem.call f vs) := by
  intro w s₀ s₁ mg mb G Y fa o pm cd doc dV kV ho hd hcd hD hmg hg args vals as hpre hlay hrd hwl hlo
  obtain rfl : dV = .none := Dflts.none hD hdf
  obtain rfl : kV = .none := Dflts.noKw hD
  obtain ⟨a, vs, ns, rfl, rfl, hobj, hints, hlen⟩ := script_of hn hpre hwl
  refine enter_call (codeAny_mono (call w s₀ s₁ mg mb fa o pm cd doc a vs ns G Y ho (fd_plain hd) hcd hmg hobj hints hlen (bits_of_lay hlay) hg) fun r s' hq => ?_)
  obtain ⟨rfl, h2, h3, h4⟩ := hq
  exact ⟨.inl ⟨.bool true, .bool true, [], rfl, fun _ => rfl, .bool true, post_true l _, fun _ => ⟨List.Pairwise.nil, fun _ hm => (nomatch hm)⟩⟩, h2, h3, h4⟩
end Att
namespace L2
open PySem PySem.Spec PyProof.Rows
/-- law's promise: a list of at most 63 ints of at most 2^20 bits is handed in, True comes out -/
def spLaw (K : PySem.W.Frag) : Sp := fun vs H Q _ => ∃ (a : Addr) (ns : List Int), vs = [.ref a] ∧ SqL K H a (ns.map V.int) ∧ ns.length ≤ 63 ∧ (∀ n ∈ ns, Bt 1048576 n) ∧ ∀ H', Q (.bl true) H'
theorem walk_ofB {l : PySem.W.OpenLaw} {k : Nat} {q : Program} {loose : List Str} {XP : (Str → Option Value) → Heap → Prop} {YP : World → Heap → Prop} {d : DefRec} {K : Params → PySem.W.Frag}
    (hn : l.most = some 63) (hdf : d.params.defaults = []) (hr : Room k callerA)
    (hY : ∀ (w : World) (h : Heap), YP w h → (K w.params).In h)
    (F : ∀ (w : World) (mg : Str → Option Value) (fa : Addr) (h : Heap), (K w.params).In h → h.Ns mainGlobals mg → mg d.name = some (.ref fa) →
      ∃ fd : FuncData, (∀ (s : Shared) (u : Value), BindsTo s fd ⟨[u], []⟩ [("_law_script", u)]) ∧
        ∀ base : Heap, (K w.params).In base → base.Ns mainGlobals mg → FnOk l.prog w (K w.params) mg base CX0 k fa fd ["_law_script"] (spLaw (K w.params))) :
    PySem.W.WalkO q loose XP YP l.row.toRowW d [] (fun f vs => PySem.call f vs) := by
  refine Att.attach_callB hn hdf fun w s₀ s₁ mg mb fa o pm cd doc a vs ns G Y ho hd hcd hmg hobj hints hlen hbits hg => ?_
  have KX := hY w _ Y
  obtain ⟨fd, hb, hF⟩ := F w mg fa _ KX G.T.g hmg
  exact law_call KX G.T.g G.T.b G.T.builtins G.T.nolimit hg hobj hints (Nat.le_trans hlen (by decide)) hr hF hb (fun H hO hS => ⟨a, ns, rfl, hS, hlen, hbits, fun _ => rfl⟩) fun H e s' => fun z => z
end L2

set_option Elab.async false
set_option linter.all false
set_option maxRecDepth 100000
set_option maxHeartbeats 4000000
namespace L2
open PySem PySem.Spec PyProof.Rows
/-- the context of a comprehension's block: its own name first, then the names around it -/
def compCx (X : Cx) (M : List Str) (x : Str) (scope : Scope) (cl : List (Str × Addr)) (C : Addr) (s₀ : Shared) (H₀ : Hp) (fp : List Addr) : Cx :=
  { X with N := x :: M, s₀ := s₀, H₀ := H₀, env := compEnvC scope cl C X.env, outer := X.stack, ex := fp, fn := fun _ => false, pn := [], xe := fun _ _ => False }
structure CompOk (X : Cx) (M : List Str) (x : Str) (scope : Scope) (cl : List (Str × Addr)) : Prop where
  clos : closureFor scope X.env = pure cl
  cell : ∀ y ∈ scope.names, y.2 ≠ .cell
  kind : scope.kind = .function
  names : ∀ y ∈ scope.names, y.2 = .local → scope.names.lookup y.1 = some .local
  xl : scope.names.lookup x = some .local
  nd : (x :: M).Nodup
  len : M.length = X.N.length
  sub : ∀ y c, cl.lookup y = some c → X.env.cells.lookup y = some c
  has : ∀ y, ((relabel scope X.env).names.lookup y = some .cell ∨ (relabel scope X.env).names.lookup y = some .free) → ∃ c, cl.lookup y = some c
  vis : ∀ (i : Nat) (y : Str), M[i]? = some y → Vis (relabel scope X.env) y → X.N[i]? = some y ∧ ((relabel scope X.env).names.lookup y = some .cell ∨ (relabel scope X.env).names.lookup y = some .free) ∧ (X.env.scope.names.lookup y = some .cell ∨ X.env.scope.names.lookup y = some .free)
/-- the tests of a clause -/
def PIfs (X : Cx) (ifs : List Expr) (t : TT) : Prop :=
  ∀ (pins : List (Addr × Obj)) (s : Shared) (σ : St) (H : Hp) (Q : Bool → Hp → Prop), Inv X pins σ H s → t σ H Q →
    wpAny (model X.prog X.w) X.A (forIn ifs true fun c r => if r = true then do let ok ← isTrue c X.env (eval c X.env); pure (ForInStep.yield ok) else pure (ForInStep.yield r)) (TP X pins σ Q) X.xe s
def tTrue : TT := fun _ H Q => Q true H
section
variable {X : Cx}
theorem pifs_nil : PIfs X [] tTrue := fun pins s σ H Q I h => by
  rw [List.forIn_nil]
  exact wpAny_pure ⟨H, I, h⟩
theorem pifs_one {c : Expr} {t : TT} (hc : PT X c t) : PIfs X [c] t := fun pins s σ H Q I h => by
  rw [List.forIn_cons]
  refine wpAny_bind ?_
  rw [if_pos rfl]
  refine wpAny_bind (thn (hc pins s σ H Q I h) fun b s1 q => wpAny_pure ?_)
  dsimp only
  rw [List.forIn_nil]
  exact wpAny_pure q
/-- W: the invariant by the turn, a measure, the items so far, the heap (in which the list stands at D) -/
def tComp (wi : TI) (tt : TT) (te : TE) : TE := fun σ H Q => wi σ H fun J H1 => ∀ D, H1 D = none → ∃ W : Nat → Nat → List V → Hp → Prop, (∃ m, W 0 m [] (upd H1 D (.lst []))) ∧
  ∀ i m ys H2, W i m ys H2 → H2 D = some (.lst ys) ∧ ((J.stop i H2 ∧ Q (.ref D) H2) ∨ (J.go i H2 ∧ ys.length < sizeLine ∧ ∃ m', m' < m ∧ ∀ x H3, J.yld i H2 x H3 →
    tt (some x :: σ) H3 fun b H4 => if b = true then te (some x :: σ) H4 fun y H5 => H5 D = some (.lst ys) ∧ W (i + 1) m' (ys ++ [y]) (upd H5 D (.lst (ys ++ [y]))) else W (i + 1) m' ys H4))

theorem comp_ok {M : List Str} {pins : List (Addr × Obj)} {σ : St} {H : Hp} {s : Shared} {x : Str} {scope : Scope} {cl : List (Str × Addr)} {C : Addr} {fp : List Addr} (I : Inv X pins σ H s) (ok : CompOk X M x scope cl) (hC : s.heap.objs.size ≤ C)
    (hf : ∀ b ∈ fp, FpOk X pins H b) (hb : ∀ b ∈ fp, b < s.heap.objs.size) : (compCx X M x scope cl C s H fp).Ok where
  mod := I.ok.mod
  kind := ok.kind
  glob := I.ok.glob
  blt := I.ok.blt
  above := hC
  inj := fun y z c h1 h2 => I.ok.inj y z c (ok.sub y c h1) (ok.sub z c h2)
  has := ok.has
  cab := fun y c h => by cases h
  hd := I.ok.hd
  frames := I.ok.frames
  stk := .inl rfl
  exf := fun b h => ⟨Nat.ne_of_lt (Nat.lt_of_lt_of_le (hb b h) hC), fun y c e => (hf b h).2.2.2.2.1 y c (ok.sub y c e)⟩
  bs := I.bs
  bsz := Nat.le_trans I.ok.bsz I.sz
  noex := fun b o e h => by
    rcases (hf b h).2.2.2.1 with z | z
    · exact I.ok.noex b o e z
    · exact absurd (Nat.lt_of_lt_of_le (Heap.lt_size (I.ok.bs b o e).1) z) (Nat.lt_irrefl _)
  exfs := fun b h z => by
    rcases List.mem_cons.mp (I.stkSub b z) with e | e
    · exact (hf b h).2.1 e
    · exact (hf b h).2.2.1 e
  funs := I.stack
  frf := I.stkFree

def CompR (tt : TT) (te : TE) (σ : St) (Q : VK) : It → Hp → Prop := fun J H1 => ∀ D, H1 D = none → ∃ W : Nat → Nat → List V → Hp → Prop, (∃ m, W 0 m [] (upd H1 D (.lst []))) ∧
  ∀ i m ys H2, W i m ys H2 → H2 D = some (.lst ys) ∧ ((J.stop i H2 ∧ Q (.ref D) H2) ∨ (J.go i H2 ∧ ys.length < sizeLine ∧ ∃ m', m' < m ∧ ∀ x H3, J.yld i H2 x H3 →
    tt (some x :: σ) H3 fun b H4 => if b = true then te (some x :: σ) H4 fun y H5 => H5 D = some (.lst ys) ∧ W (i + 1) m' (ys ++ [y]) (upd H5 D (.lst (ys ++ [y]))) else W (i + 1) m' ys H4))
theorem comp_core {M : List Str} {elt iter : Expr} {x : Str} {px pos : Pos} {ifs : List Expr} {scope : Scope} {cl : List (Str × Addr)} {tt : TT} {te : TE} (hc : X.calm = true) (ok : CompOk X M x scope cl)
    (ht : ∀ C s₀ H₀ fp, PIfs (compCx X M x scope cl C s₀ H₀ fp) ifs tt) (he : ∀ C s₀ H₀ fp, PE (compCx X M x scope cl C s₀ H₀ fp) elt te)
    {pins : List (Addr × Obj)} {σ : St} {H2 : Hp} {s2 : Shared} {it : Addr} {fp : List Addr} {tn : Nat → Heap → Prop} {J : It} {Q : VK} (I2 : Inv X pins σ H2 s2) (T : Turn X.prog X.w X.K (.Name x px) J fp it tn) (st2 : tn 0 s2.heap) (f2 : ∀ b ∈ fp, FpOk X pins H2 b)
    (hW : CompR tt te σ Q J H2) (post : Value → Addr → Result → Shared → Prop)
    (fin : ∀ D C H3 s4, Inv X pins σ H3 s4 → (∃ m, s4.heap.Ns C m) → FpOk X pins H3 C → Q (.ref D) H3 → post (.ref D) C (.ok .next) s4) :
    wpAny (model X.prog X.w) X.A (newList []) (fun acc s₃ => wpAny (model X.prog X.w) X.A (newFunctionEnv scope X.env.globals cl [] X.env.qual none .none (some X.env)) (fun cenv s₄ =>
      codeAny (model X.prog X.w) X.A (.compStart (.ListComp elt [⟨.Name x px, iter, ifs, 0⟩] scope pos) 0 (.ref it) acc { cenv with scope := relabel scope X.env }) (post acc cenv.locals) s₄) X.xe s₃) X.xe s2 := by
  refine wpAny_newObj_type (wpAny_newFunctionEnv ok.cell (by intro y hy; simp at hy) (fun h₁ hns₁ hsb₁ => ?_) ok.kind)
  dsimp only at hns₁ hsb₁ ⊢
  generalize hH2 : s2.heap.push { cls := .type "list", dict := none, data := .seq ([] : List Value).toArray } = G2 at hns₁ hsb₁ ⊢
  have hC : G2.objs.size = s2.heap.objs.size + 1 := by rw [← hH2, Heap.size_push]
  have hDC : s2.heap.objs.size ≠ G2.objs.size := by rw [hC]; exact Nat.ne_of_lt (Nat.lt_succ_self _)
  have hCle : s2.heap.objs.size ≤ G2.objs.size := by rw [hC]; exact Nat.le_succ _
  have below : ∀ b, b < s2.heap.objs.size → b ≠ G2.objs.size ∧ b ≠ s2.heap.objs.size := fun b hb => ⟨by rw [hC]; exact Nat.ne_of_lt (Nat.lt_succ_of_lt hb), Nat.ne_of_lt hb⟩
  have old : ∀ b o, s2.heap.get? b = some o → h₁.get? b = some o := fun b o e => hsb₁.extBut b o (below b (Heap.lt_size e)).1 (Heap.get?_push_of_some _ (hH2 ▸ Heap.get?_push_of_some _ e))
  have hacc : h₁.get? s2.heap.objs.size = some { cls := .type "list", data := .seq ([] : List Value).toArray } := hsb₁.extBut _ _ hDC (Heap.get?_push_of_some _ (hH2 ▸ Heap.get?_push_size _ rfl))
  have fpb : ∀ b ∈ fp, b < s2.heap.objs.size := fun b hb => by
    obtain ⟨o, e, _⟩ := T.obj _ _ st2 b hb
    exact Heap.lt_size e
  have hD0 : H2 s2.heap.objs.size = none := I2.hok.fresh (Nat.le_refl _)
  have hC0 : H2 G2.objs.size = none := I2.hok.fresh hCle
  generalize hDD : s2.heap.objs.size = D at *
  generalize hCC : G2.objs.size = C at *
  obtain ⟨W, ⟨m0, w0⟩, turn⟩ := hW D hD0
  have okX : (compCx X M x scope cl C s2 H2 fp).Ok := comp_ok I2 ok (by rw [hDD]; exact hCle) f2 (by rw [hDD]; exact fpb)
  have lenN : (none :: σ : St).length = (compCx X M x scope cl C s2 H2 fp).N.length := by
    show (none :: σ).length = (x :: M).length
    rw [List.length_cons, List.length_cons, I2.len, ok.len]
  -- the values of the names around it, seen from within
  have locs : ∀ (h' : Heap) (m : Str → Option Value) (w' : Option V), (∀ y c, X.env.cells.lookup y = some c → ∀ v, s2.heap.IsCell c v → h'.IsCell c v) → w' = none →
      ∀ (i : Nat) (y : Str) (v : V), (x :: M)[i]? = some y → (w' :: σ : St)[i]? = some (some v) → Vis (relabel scope X.env) y → ∃ u, RelV v u ∧ Look (compEnvC scope cl C X.env) h' m y u := by
    intro h' m w' hcell hw i y v e1 e2 e3
    subst hw
    cases i with
    | zero => simp at e2
    | succ i =>
      have e0 : M[i]? = some y := by simpa using e1
      have e2' : σ[i]? = some (some v) := by simpa using e2
      obtain ⟨e1', k1, k2⟩ := ok.vis i y e0 e3
      obtain ⟨m2, _, hl⟩ := I2.loc
      obtain ⟨u, r, l⟩ := hl i y v e1' e2' (k2.elim (fun z => .inr (.inl z)) fun z => .inr (.inr z))
      obtain ⟨c', hc'⟩ := ok.has y k1
      rcases l with ⟨z, _⟩ | ⟨_, c, hcc, z⟩
      · have z' : X.env.scope.names.lookup y = some .local := z
        rcases k2 with q | q <;> (rw [q] at z'; cases z')
      · have q := ok.sub y c' hc'
        rw [hcc] at q
        cases q
        exact ⟨u, r, .inr ⟨k1, c', hc', hcell y c' hcc _ z⟩⟩
  have I0 : Inv (compCx X M x scope cl C s2 H2 fp) [] (none :: σ) (upd H2 D (.lst [])) { s2 with heap := h₁, toks := s2.toks + ([] : List (Str × Value)).length } := by
    refine ⟨okX, rfl, I2.bare, ?_, ⟨_, hns₁, locs h₁ _ none (fun y c e v z => ?_) rfl⟩, fun y c e => ?_, ?_, fun y c e => ?_, fun p hp => ?_, ?_, lenN⟩
    · exact Un.laid old (Nat.le_of_eq hDD) hD0
    · obtain ⟨o, ho, hd⟩ := z
      exact ⟨o, old c o ho, hd⟩
    · obtain ⟨v, o, ho, hd⟩ := I2.cell y c (ok.sub y c e)
      exact ⟨v, o, old c o ho, hd⟩
    · show upd H2 D (.lst []) C = none
      rw [upd_ne (Ne.symm hDC)]
      exact hC0
    · have hn := I2.freeC y c (ok.sub y c e)
      obtain ⟨v, o, ho, hd⟩ := I2.cell y c (ok.sub y c e)
      rw [upd_ne (fun z => by have := Heap.lt_size ho; rw [hDD, z] at this; exact Nat.lt_irrefl _ this)]
      exact hn
    · exact absurd hp (by show p ∉ ([] ++ [] : List (Addr × Obj)); simp)
    · refine I2.hok.laid old (Nat.le_of_eq hDD) ⟨Nat.zero_le _, [], _, .nil, hacc⟩
  have fpk : ∀ {H' : Hp}, (∀ b ∈ fp, H' b = none) → ∀ b ∈ fp, FpOk (compCx X M x scope cl C s2 H2 fp) [] H' b := fun hn b hb => by
    refine ⟨hn b hb, (below b (fpb b hb)).1, okX.exfs b hb, .inl hb, fun y c e => (f2 b hb).2.2.2.2.1 y c (ok.sub y c e), fun p hp => ?_⟩
    exact absurd hp (by show p ∉ ([] ++ [] : List (Addr × Obj)); simp)
  have loop : ∀ s₃ : Shared, s₃ = { s2 with heap := h₁, toks := s2.toks + ([] : List (Str × Value)).length } →
      codeAny (model X.prog X.w) X.A (.compLoop (.ListComp elt [⟨.Name x px, iter, ifs, 0⟩] scope pos) 0 (.ref it) (.ref D) (compEnvC scope cl C X.env))
        (post (.ref D) C) s₃ := by
    rintro s₃ rfl
    refine codeAny_compLoop_tests (fun n s' => ∃ i ys w' H', Inv (compCx X M x scope cl C s2 H2 fp) [] (w' :: σ) H' s' ∧ tn i s'.heap ∧ (∀ b ∈ fp, H' b = none) ∧ W i n ys H') ?_ m0
      ⟨0, [], none, _, I0, T.keep _ _ _ st2 (fun b _ o e => old b o e), fun b hb => by rw [upd_ne (below b (fpb b hb)).2]; exact (f2 b hb).1, w0⟩
    rintro n s3 ⟨i, ys, w3, H3, I3, st3, fr3, wt⟩
    obtain ⟨hD3, hh⟩ := turn i n ys H3 wt
    rcases hh with ⟨stop, q⟩ | ⟨go, hlen, m', hm, step⟩
    · refine thn (T.done (compCx X M x scope cl C s2 H2 fp) rfl rfl rfl hc i [] s3 (w3 :: σ) H3 _ I3 (fpk fr3) st3 stop) fun r s4 ⟨hr, I4⟩ => ?_
      subst hr
      obtain ⟨m4, hn4, _⟩ := id I4.loc
      have hC4 : H3 C = none := I4.free
      exact fin D C H3 s4 (I2.call' (ch := fp) I4.os I4.base I4.hok I4.bare fun b hb => ⟨(f2 b hb).2.2.2.1, (f2 b hb).2.1, (f2 b hb).2.2.2.2.1, (f2 b hb).2.2.2.2.2⟩) ⟨m4, hn4⟩ (I2.fpOk (by rw [hDD]; exact hCle) hC4) q
    · refine wpAny_mono (T.item (compCx X M x scope cl C s2 H2 fp) rfl rfl rfl hc i [] s3 (w3 :: σ) H3 (fun _ _ => False) I3 (fpk fr3) st3 go) (fun r s4 h4 => ?_) (fun _ _ z => z.elim)
      obtain ⟨u, hr, h4⟩ := h4
      subst hr
      refine (show wpAny (model X.prog X.w) X.A (letOwnedTupleGo (.Name x px) (.ref it) u >>= fun _ => assign (.Name x px) (compEnvC scope cl C X.env) u) _ _ _ from wpAny_bind (wpAny_mono h4 (fun _ s4 h4 => ?_) (fun _ _ z => z.elim)))
      obtain ⟨x', H5, I5, r5, y5, st5, fr5⟩ := h4
      have I5' := I5.pinned (fpk fr5) (T.obj _ _ st5)
      refine wpAny_assign_Name (store_ok (X := compCx X M x scope cl C s2 H2 fp) (i := 0) I5' ok.nd rfl (.inl (lookup_relabel_local ok.xl)) r5 (fun s6 I6 => ?_) (.inr (lookup_relabel_local ok.xl)))
      have I6' : Inv (compCx X M x scope cl C s2 H2 fp) ([] ++ pinsAt fp s4.heap) (some x' :: σ) H5 s6 := I6
      have back : ∀ {s7 : Shared} {H7 : Hp} {w7 : Option V}, Inv (compCx X M x scope cl C s2 H2 fp) ([] ++ pinsAt fp s4.heap) (w7 :: σ) H7 s7 → tn (i + 1) s7.heap ∧ (∀ b ∈ fp, H7 b = none) ∧ Inv (compCx X M x scope cl C s2 H2 fp) [] (w7 :: σ) H7 s7 := fun {s7 H7 w7} I7 => by
        refine ⟨T.keep _ _ _ st5 fun b hb o e => (I7.pin (b, o) (List.mem_append_right _ (List.mem_append_right _ (mem_pinsAt hb e)))).1, fun b hb => ?_, I7.unpinned⟩
        obtain ⟨o, e, d⟩ := T.obj _ _ st5 b hb
        exact (I7.pin (b, o) (List.mem_append_right _ (List.mem_append_right _ (mem_pinsAt hb e)))).2.1
      refine wpAny_mono (ht C s2 H2 fp _ s6 _ H5 _ I6' (step x' H5 y5)) (fun ok' s7 h7 => ?_) (fun _ _ z => z.elim)
      obtain ⟨H7, I7, q7⟩ := h7
      cases ok' with
      | false =>
        have q7' : W (i + 1) m' ys H7 := by simpa using q7
        rw [if_neg Bool.false_ne_true]
        obtain ⟨b1, b2, b3⟩ := back I7
        exact ⟨m', hm, i + 1, ys, _, H7, b3, b1, b2, q7'⟩
      | true =>
        rw [if_pos rfl] at q7 ⊢
        refine wpAny_mono (he C s2 H2 fp _ s7 _ H7 _ I7 q7) (fun y s8 h8 => ?_) (fun _ _ z => z.elim)
        obtain ⟨v8, H8, I8, r8, hD8, w8⟩ := h8
        refine wpAny_mono (mt_append (X := compCx X M x scope cl C s2 H2 fp) _ s8 _ H8 (.ref D) [v8] (.ref D) [y] (fun _ H9 => H9 = upd H8 D (.lst (ys ++ [v8]))) I8 rfl (.cons r8 .nil) ⟨D, ys, v8, rfl, rfl, hD8, hlen, rfl⟩) (fun _ s9 h9 => ?_) (fun _ _ z => z.elim)
        obtain ⟨v9, H9, I9, _, e9⟩ := h9
        subst e9
        obtain ⟨b1, b2, b3⟩ := back I9
        exact ⟨m', hm, i + 1, _, _, _, b3, b1, b2, w8⟩
  exact codeAny_compStart_list (loop _ rfl) (T.self _ 0 _ _ _ (T.keep _ _ _ st2 (fun b _ o e => old b o e)) (loop _ rfl))
theorem pe_comp {M : List Str} {elt iter : Expr} {x : Str} {px pos : Pos} {ifs : List Expr} {scope : Scope} {cl : List (Str × Addr)} {wi : TI} {tt : TT} {te : TE} (hc : X.calm = true) (ok : CompOk X M x scope cl) (hi : PI X (.Name x px) iter wi)
    (ht : ∀ C s₀ H₀ fp, PIfs (compCx X M x scope cl C s₀ H₀ fp) ifs tt) (he : ∀ C s₀ H₀ fp, PE (compCx X M x scope cl C s₀ H₀ fp) elt te)
    (hs : ∀ x, foldedSetIterable iter X.env x = pure x := by intro _; rfl) :
    PE X (.ListComp elt [⟨.Name x px, iter, ifs, 0⟩] scope pos) (tComp wi tt te) := by
  intro pins s σ H Q I h
  rw [eval_ListComp]
  refine wpAny_comprehension_free (use := none) rfl hs ok.clos ok.kind ok.names (thn (hi pins s σ H _ I h) fun xv s1 h1 => thn h1 fun itv s2 h2 => ?_)
  obtain ⟨it, fp, tn, J, H2, e, I2, T, st2, f2, hW⟩ := h2
  subst e
  refine comp_core hc ok ht he I2 T st2 f2 hW (compPost (model X.prog X.w) X.A X.xe none (EP X pins σ Q)) fun D C H3 s4 I4 hm fC q => ?_
  obtain ⟨m, hn⟩ := hm
  exact ⟨m, hn, fun h' hsb => ⟨.ref D, H3, I4.turned (t' := s4.toks) (fun b o hb e => hsb.extBut b o hb e) fC.1 fC.2.1 fC.2.2.2.1 fC.2.2.2.2.1 fC.2.2.2.2.2, rfl, q⟩⟩
/-- name = [.. for x in ..] -/
theorem ps_setComp {M : List Str} {elt iter : Expr} {x y : Str} {px py pos spos : Pos} {ifs : List Expr} {scope : Scope} {cl : List (Str × Addr)} {wi : TI} {tt : TT} {te : TE} {i : Nat} (hN : X.N.Nodup) (hiy : X.N[i]? = some y) (hy : Loc X.env.scope y)
    (hc : X.calm = true) (ok : CompOk X M x scope cl) (hi : PI X (.Name x px) iter wi)
    (ht : ∀ C s₀ H₀ fp, PIfs (compCx X M x scope cl C s₀ H₀ fp) ifs tt) (he : ∀ C s₀ H₀ fp, PE (compCx X M x scope cl C s₀ H₀ fp) elt te)
    (hsw : swapsWith (.ListComp elt [⟨.Name x px, iter, ifs, 0⟩] scope pos) (some (.Name y py)) spos.line X.env = pure true := by with_unfolding_all rfl)
    (hf : X.fn y = true ∨ X.env.scope.names.lookup y = some .local := by first | exact .inl rfl | exact .inr rfl | assumption)
    (hs : ∀ x, foldedSetIterable iter X.env x = pure x := by intro _; rfl) :
    PS X (.Assign [.Name y py] (.ListComp elt [⟨.Name x px, iter, ifs, 0⟩] scope pos) spos) (tAsg (tComp wi tt te) (gName i)) := by
  intro pins s σ H D I h
  rw [exec_Assign_Name_used _ _ _ _ hsw]
  refine wpAny_bind (wpAny_standAt (wpAny_bind ?_))
  show wpAny _ X.A (do let _ ← comprehension (.ListComp elt [⟨.Name x px, iter, ifs, 0⟩] scope pos) scope X.env _ (newList []) false (eval iter X.env) (some (assign (.Name y py) X.env))) _ _ s
  refine wpAny_bind (wpAny_mono (wpAny_comprehension_free (use := some (assign (.Name y py) X.env)) (Q := fun _ s' => SP X pins D .next s') rfl hs ok.clos ok.kind ok.names
    (thn (hi pins s σ H _ I h) fun xv s1 h1 => thn h1 fun itv s2 h2 => ?_)) (fun _ s' hq => wpAny_pure (wpAny_pure hq)) fun _ _ e => e)
  obtain ⟨it, fp, tn, J, H2, e, I2, T, st2, f2, hW⟩ := h2
  subst e
  refine comp_core (Q := fun x H1 => gName i x σ H1 D.nx) hc ok ht he I2 T st2 f2 hW (compPost (model X.prog X.w) X.A X.xe (some (assign (.Name y py) X.env)) (fun _ s' => SP X pins D .next s')) fun Dd C H3 s4 I4 hm fC q => ?_
  obtain ⟨m, hn⟩ := hm
  show wpAny _ X.A (assign (.Name y py) X.env (.ref Dd)) _ _ _
  refine wpAny_assign_Name (store_ok2 I4 hN hiy hy (v := .ref Dd) rfl (fun s5 I5 hsb => ?_) hf)
  obtain ⟨a, sb, ha⟩ := hsb
  have hCa : C ≠ a := by
    rcases ha with rfl | ha
    · exact fC.2.1
    · exact (fC.2.2.2.2.1 _ _ ha).symm
  exact ⟨m, hn.sameBut sb hCa, fun h' hsb' => ⟨_, H3, I5.turned (t' := s5.toks) (fun b o hb e => hsb'.extBut b o hb e) fC.1 fC.2.1 fC.2.2.2.1 fC.2.2.2.2.1 fC.2.2.2.2.2, q⟩⟩

theorem vals_bls : ∀ {bs : List Bool} {us : List Value}, Vals (bs.map V.bl) us → us = bs.map Value.bool
  | [], _, .nil => rfl
  | b :: bs, u :: us, .cons r t => by
    cases (show u = Value.bool b from r)
    rw [vals_bls t]
    rfl
theorem range_allB (bs : List Bool) : ((List.range bs.length).all fun i => (bs[i]?).getD true) = bs.all id := by
  induction bs with
  | nil => rfl
  | cons b bs ih =>
    rw [List.length_cons, List.range_succ_eq_map, List.all_cons, List.all_map, List.all_cons, ← ih]
    rfl
theorem kept_it {s : Shared} {h' : Heap} {o : Obj} (hk : ∀ b x, b ∉ [s.heap.objs.size] → (s.heap.push o).get? b = some x → h'.get? b = some x) : ∀ b x, s.heap.get? b = some x → h'.get? b = some x :=
  fun b x e => hk b x (fun hm => by rw [List.mem_singleton.mp hm] at e; exact Nat.lt_irrefl _ (Heap.lt_size e)) (Heap.get?_push_of_some _ e)
theorem call_all (hc : X.calm = true) : CallR X (.builtin "all") (fun xs H Q => ∃ (p : Addr) (bs : List Bool), xs = [.ref p] ∧ SqL X.K H p (bs.map V.bl) ∧ Q (.bl (bs.all id)) H) := by
  intro pins s σ H xs us Q I r h
  obtain ⟨p, bs, rfl, hq, q⟩ := h
  obtain ⟨u, rfl, ru⟩ := vals1 r
  cases (show u = Value.ref p from ru)
  obtain ⟨its, rv, pl, _⟩ := I.list hq
  obtain rfl := vals_bls rv
  have hl := pl.isList
  have hlt : p < s.heap.objs.size := by obtain ⟨_, e, _⟩ := id hl; exact Heap.lt_size e
  refine call_all_walk (wpAny_pyIter_list hl ?_)
  refine ⟨s.heap.objs.size, [s.heap.objs.size, p], [s.heap.objs.size], (bs.map Value.bool).toArray.size, _, _, fun i => (bs[i]?).getD true, rfl, Walks.list (A := X.A.in1) (I.ok.hd hc) _ p (Nat.ne_of_lt hlt) (bs.map Value.bool).toArray,
    ⟨⟨_, Heap.get?_push_size _ rfl, rfl, rfl⟩, hl.push _⟩, fun i v s' Q' E' hP hQ => ?_, fun h' tk hk => ?_⟩
  · have hP' : (bs.map Value.bool)[i]? = some v := by simpa using hP
    rw [List.getElem?_map] at hP'
    cases e : bs[i]? with
    | none => rw [e] at hP'; cases hP'
    | some b =>
      rw [e] at hP'
      cases hP'
      simp only [e, Option.getD_some] at hQ
      exact wpAny_truthy_bool hQ
  · have e : ((List.range (bs.map Value.bool).toArray.size).all fun i => (bs[i]?).getD true) = bs.all id := by
      rw [List.size_toArray, List.length_map]; exact range_allB bs
    rw [e]
    exact ⟨.bl _, H, I.kept (kept_it hk), rfl, q⟩
theorem lookup_mem {κ β : Type} [BEq κ] [LawfulBEq κ] {k : κ} {v : β} : ∀ {l : List (κ × β)}, l.lookup k = some v → (k, v) ∈ l
  | (a, b) :: r, h => by
    rw [List.lookup_cons] at h
    cases e : k == a with
    | true =>
      rw [e] at h
      cases h
      rw [eq_of_beq e]
      exact List.mem_cons_self
    | false =>
      rw [e] at h
      exact List.mem_cons_of_mem _ (lookup_mem h)
theorem relabel_plain {scope : Scope} {env : Env} (h : ∀ y ∈ scope.names, y.2 ≠ .free) : (relabel scope env).names = scope.names :=
  map_eq_self fun x hx => by
    obtain ⟨n, k⟩ := x
    have : (k == NameKind.free) = false := by simpa using h _ hx
    simp [this]
/-- a comprehension that names nothing of the frame around it -/
theorem compOk_nil {x : Str} {scope : Scope} (N : List Str) (hN : X.N = N) (hf : ∀ y ∈ scope.names, y.2 ≠ .free ∧ y.2 ≠ .cell) (hk : scope.kind = .function) (hn : ∀ y ∈ scope.names, y.2 = .local → scope.names.lookup y.1 = some .local)
    (hx : scope.names.lookup x = some .local) (nd : (x :: N).Nodup) (vis : ∀ y ∈ N, scope.names.lookup y ≠ some .local) : CompOk X N x scope [] := by
  have e := relabel_plain (env := X.env) fun y hy => (hf y hy).1
  refine ⟨closureFor_none fun y hy => (hf y hy).1, fun y hy => (hf y hy).2, hk, hn, hx, nd, by rw [hN], fun y c h => (by cases h), fun y h => ?_, fun i y hy h => ?_⟩
  · rw [e] at h
    rcases h with h | h
    · exact absurd rfl (hf _ (lookup_mem h)).2
    · exact absurd rfl (hf _ (lookup_mem h)).1
  · rcases h with h | h | h
    · rw [e] at h; exact absurd h (vis y (List.mem_of_getElem? hy))
    · rw [e] at h; exact absurd rfl (hf _ (lookup_mem h)).2
    · rw [e] at h; exact absurd rfl (hf _ (lookup_mem h)).1
/-- what an iterator goes through, where the heap is as ok says -/
structure Walk (J : It) (ok : Hp → Prop) (xs : List V) : Prop where
  go : ∀ i H, ok H → i < xs.length → J.go i H
  yld : ∀ i H x H', ok H → J.yld i H x H' → i < xs.length → H' = H ∧ xs[i]? = some x
  stop : ∀ i H, ok H → xs.length ≤ i → J.stop i H
theorem walk_l {K : PySem.W.Frag} {a : Addr} {xs : List V} : Walk (Itl K a) (fun H => SqL K H a xs) xs :=
  ⟨fun i H h hi => ⟨xs, xs[i], h, by simp [hi]⟩, fun i H x H' h y hi => ⟨y.1, y.2 xs h⟩, fun i H h hi => ⟨xs, h, hi⟩⟩
theorem walk_t {K : PySem.W.Frag} {a : Addr} {xs : List V} : Walk (Itt K a) (fun H => SqT K H a xs) xs :=
  ⟨fun i H h hi => ⟨xs, xs[i], h, by simp [hi]⟩, fun i H x H' h y hi => ⟨y.1, y.2 xs h⟩, fun i H h hi => ⟨xs, h, hi⟩⟩
theorem walk_r {lo : Int} {n : Nat} : Walk (Itr lo n) (fun _ => True) ((List.range n).map fun i => V.int (lo + (i : Nat))) :=
  ⟨fun i H _ hi => (by show i < n; simpa using hi), fun i H x H' _ y hi => ⟨y.1, by
    have hi' : i < n := by simpa using hi
    rw [y.2]
    simp [hi']⟩, fun i H _ hi => (by show n ≤ i; simpa using hi)⟩
/-- the comprehension's list: f of the items that p lets through; tests and elements leave the heap as it is -/
theorem comp_by {J : It} {ok : Hp → Prop} {xs : List V} {σ : St} {H : Hp} {Q : VK} {tt : TT} {te : TE} (Wk : Walk J ok xs) (hz : xs.length < sizeLine) (hok : ∀ D ys, H D = none → ok (upd H D (.lst ys))) (p : V → Bool) (f : V → V)
    (ht : ∀ x ∈ xs, ∀ D ys (Q' : Bool → Hp → Prop), H D = none → Q' (p x) (upd H D (.lst ys)) → tt (some x :: σ) (upd H D (.lst ys)) Q')
    (he : ∀ x ∈ xs, p x = true → ∀ D ys (Q' : VK), H D = none → Q' (f x) (upd H D (.lst ys)) → te (some x :: σ) (upd H D (.lst ys)) Q')
    (h : ∀ D, H D = none → Q (.ref D) (upd H D (.lst ((xs.filter p).map f)))) :
    ∀ D, H D = none → ∃ W : Nat → Nat → List V → Hp → Prop, (∃ m, W 0 m [] (upd H D (.lst []))) ∧
      ∀ i m ys H2, W i m ys H2 → H2 D = some (.lst ys) ∧ ((J.stop i H2 ∧ Q (.ref D) H2) ∨ (J.go i H2 ∧ ys.length < sizeLine ∧ ∃ m', m' < m ∧ ∀ x H3, J.yld i H2 x H3 →
        tt (some x :: σ) H3 fun b H4 => if b = true then te (some x :: σ) H4 fun y H5 => H5 D = some (.lst ys) ∧ W (i + 1) m' (ys ++ [y]) (upd H5 D (.lst (ys ++ [y]))) else W (i + 1) m' ys H4)) := by
  intro D hD
  refine ⟨fun i m ys H2 => i ≤ xs.length ∧ m = xs.length - i ∧ ys = ((xs.take i).filter p).map f ∧ H2 = upd H D (.lst ys), ⟨_, Nat.zero_le _, rfl, by simp, rfl⟩, ?_⟩
  rintro i m ys H2 ⟨hi, rfl, hys, rfl⟩
  refine ⟨upd_same, ?_⟩
  by_cases hlt : i < xs.length
  · have hl : ys.length ≤ i := by
      rw [hys, List.length_map]
      exact Nat.le_trans (List.length_filter_le _ _) (by rw [List.length_take]; omega)
    refine .inr ⟨Wk.go i _ (hok D ys hD) hlt, by omega, xs.length - (i + 1), by omega, fun x H3 hy => ?_⟩
    obtain ⟨e3, ex⟩ := Wk.yld i _ x H3 (hok D ys hD) hy hlt
    subst e3
    have hm : x ∈ xs := List.mem_of_getElem? ex
    have et : xs.take (i + 1) = xs.take i ++ [x] := by rw [List.take_add_one, ex]; rfl
    refine ht x hm D ys _ hD ?_
    cases hp : p x with
    | false =>
      rw [if_neg Bool.false_ne_true]
      refine ⟨hlt, rfl, ?_, rfl⟩
      rw [et, List.filter_append, hys]
      simp [hp]
    | true =>
      rw [if_pos rfl]
      refine he x hm hp D ys _ hD ⟨upd_same, hlt, rfl, ?_, by rw [upd_upd]⟩
      rw [et, List.filter_append, hys]
      simp [hp]
  · have e : i = xs.length := by omega
    subst e
    refine .inl ⟨Wk.stop _ _ (hok D ys hD) (Nat.le_refl _), ?_⟩
    rw [hys, List.take_length]
    exact h D hD
theorem rd_rng1 {ta : TA} {σ : St} {H : Hp} {R : It → Hp → Prop} (h : ta σ H fun vs H1 => ∃ j : Int, vs = [.int j] ∧ -(2 ^ 62) ≤ j ∧ j < 2 ^ 62 ∧ R (Itr 0 j.toNat) H1) : iRng1 ta σ H R := h
theorem rd_rng2 {ta : TA} {σ : St} {H : Hp} {R : It → Hp → Prop} (h : ta σ H fun vs H1 => ∃ i j : Int, vs = [.int i, .int j] ∧ (-(2 ^ 62) ≤ i ∧ i < 2 ^ 62 ∧ -(2 ^ 62) ≤ j ∧ j < 2 ^ 62) ∧ R (Itr i (j - i).toNat) H1) : iRng2 ta σ H R := h
theorem rd_comp {wi : TI} {tt : TT} {te : TE} {σ : St} {H : Hp} {Q : VK} (h : wi σ H (CompR tt te σ Q)) : tComp wi tt te σ H Q := h
theorem comp_go {J : It} {ok : Hp → Prop} {xs : List V} {σ : St} {H : Hp} {Q : VK} {tt : TT} {te : TE} (Wk : Walk J ok xs) (hz : xs.length < sizeLine) (hok : ∀ D ys, H D = none → ok (upd H D (.lst ys))) (p : V → Bool) (f : V → V)
    (ht : ∀ x ∈ xs, ∀ D ys (Q' : Bool → Hp → Prop), H D = none → Q' (p x) (upd H D (.lst ys)) → tt (some x :: σ) (upd H D (.lst ys)) Q')
    (he : ∀ x ∈ xs, p x = true → ∀ D ys (Q' : VK), H D = none → Q' (f x) (upd H D (.lst ys)) → te (some x :: σ) (upd H D (.lst ys)) Q')
    (h : ∀ D, H D = none → Q (.ref D) (upd H D (.lst ((xs.filter p).map f)))) : CompR tt te σ Q J H := comp_by Wk hz hok p f ht he h
theorem comp_t {K : PySem.W.Frag} {i : Nat} {a : Addr} {xs : List V} {σ : St} {H : Hp} {Q : VK} {tt : TT} {te : TE} (ei : σ[i]? = some (some (.ref a))) (hS : SqT K H a xs) (hz : xs.length < sizeLine) (p : V → Bool) (f : V → V)
    (ht : ∀ x ∈ xs, ∀ D ys (Q' : Bool → Hp → Prop), H D = none → Q' (p x) (upd H D (.lst ys)) → tt (some x :: σ) (upd H D (.lst ys)) Q')
    (he : ∀ x ∈ xs, p x = true → ∀ D ys (Q' : VK), H D = none → Q' (f x) (upd H D (.lst ys)) → te (some x :: σ) (upd H D (.lst ys)) Q')
    (h : ∀ D, H D = none → Q (.ref D) (upd H D (.lst ((xs.filter p).map f)))) : tComp (iTup K (tVar i)) tt te σ H Q :=
  ⟨_, ei, a, rfl, ⟨_, hS⟩, comp_by walk_t hz (fun D ys hD => (same_new hD _).tup hS) p f ht he h⟩
theorem comp_l {K : PySem.W.Frag} {i : Nat} {a : Addr} {xs : List V} {σ : St} {H : Hp} {Q : VK} {tt : TT} {te : TE} (ei : σ[i]? = some (some (.ref a))) (hS : SqL K H a xs) (hz : xs.length < sizeLine) (p : V → Bool) (f : V → V)
    (ht : ∀ x ∈ xs, ∀ D ys (Q' : Bool → Hp → Prop), H D = none → Q' (p x) (upd H D (.lst ys)) → tt (some x :: σ) (upd H D (.lst ys)) Q')
    (he : ∀ x ∈ xs, p x = true → ∀ D ys (Q' : VK), H D = none → Q' (f x) (upd H D (.lst ys)) → te (some x :: σ) (upd H D (.lst ys)) Q')
    (h : ∀ D, H D = none → Q (.ref D) (upd H D (.lst ((xs.filter p).map f)))) : tComp (iList K (tVar i)) tt te σ H Q :=
  ⟨_, ei, a, rfl, ⟨_, hS⟩, comp_by walk_l hz (fun D ys hD => (same_new hD _).seq hS) p f ht he h⟩
theorem rd_true {σ : St} {H : Hp} {Q : Bool → Hp → Prop} (h : Q true H) : tTrue σ H Q := h

/-- a comprehension that names what its frame holds in cells -/
theorem compOk_freeM {x : Str} {scope : Scope} {cl : List (Str × Addr)} (M N : List Str) (hl : M.length = N.length) (hN : X.N = N) (clos : closureFor scope X.env = pure cl) (hc : (scope.names.all fun y => y.2 != .cell) = true) (hk : scope.kind = .function)
    (hn : (scope.names.all fun y => y.2 != .local || scope.names.lookup y.1 == some .local) = true) (hx : scope.names.lookup x = some .local) (nd : (x :: M).Nodup)
    (hs : ∀ p ∈ cl, X.env.cells.lookup p.1 = some p.2)
    (hh : ((relabel scope X.env).names.all fun p => (p.2 != .cell && p.2 != .free) || (cl.lookup p.1).isSome) = true)
    (hv : ((M.zip N).all fun q => match (relabel scope X.env).names.lookup q.1 with
      | some .local => false
      | some .cell => q.1 == q.2 && (X.env.scope.names.lookup q.1 == some .cell || X.env.scope.names.lookup q.1 == some .free)
      | some .free => q.1 == q.2 && (X.env.scope.names.lookup q.1 == some .cell || X.env.scope.names.lookup q.1 == some .free)
      | _ => true) = true) : CompOk X M x scope cl := by
  refine ⟨clos, fun y hy => ?_, hk, fun y hy hl => ?_, hx, nd, by rw [hN]; exact hl, fun y c h => hs _ (lookup_mem h), fun y h => ?_, fun i y hy h => ?_⟩
  · have := List.all_eq_true.mp hc y hy
    simpa using this
  · have := List.all_eq_true.mp hn y hy
    simpa [hl] using this
  · rcases h with h | h
    · have := List.all_eq_true.mp hh _ (lookup_mem h)
      exact Option.isSome_iff_exists.mp (by simpa using this)
    · have := List.all_eq_true.mp hh _ (lookup_mem h)
      exact Option.isSome_iff_exists.mp (by simpa using this)
  · have hi : i < N.length := by
      have := (List.getElem?_eq_some_iff.mp hy).1
      omega
    have hz : (y, N[i]) ∈ M.zip N := by
      have : (M.zip N)[i]? = some (y, N[i]) := List.getElem?_zip_eq_some.mpr ⟨hy, by simp [hi]⟩
      exact List.mem_of_getElem? this
    have z := List.all_eq_true.mp hv _ hz
    have fin : y = N[i] → X.N[i]? = some y := fun e => by rw [hN, e]; simp [hi]
    rcases h with h | h | h
    · dsimp only at z
      rw [h] at z; cases z
    · dsimp only at z
      rw [h] at z
      simp only [Bool.and_eq_true, beq_iff_eq, Bool.or_eq_true] at z
      exact ⟨fin z.1, .inl h, z.2⟩
    · dsimp only at z
      rw [h] at z
      simp only [Bool.and_eq_true, beq_iff_eq, Bool.or_eq_true] at z
      exact ⟨fin z.1, .inr h, z.2⟩
def ItrS (lo c : Int) (n : Nat) : It := ⟨fun i _ => i < n, fun i H x H' => H' = H ∧ x = .int (lo + i * c), fun i _ => n ≤ i⟩
def iRng3 (ta : TA) : TI := fun σ H R => ta σ H fun vs H1 => ∃ i j c : Int, vs = [.int i, .int j, .int c] ∧ 0 < c ∧ c < 1073741824 ∧ Builtin.Range.small i j c = true ∧ ∃ n : Nat, (n : Int) = Builtin.Range.rangeSize i j c ∧ R (ItrS i c n) H1
theorem rd_rng3 {ta : TA} {σ : St} {H : Hp} {R : It → Hp → Prop} (h : ta σ H fun vs H1 => ∃ i j c : Int, vs = [.int i, .int j, .int c] ∧ 0 < c ∧ c < 1073741824 ∧ Builtin.Range.small i j c = true ∧ ∃ n : Nat, (n : Int) = Builtin.Range.rangeSize i j c ∧ R (ItrS i c n) H1) : iRng3 ta σ H R := h
theorem dec_int0 {a b : Int} : decide (V.int a = V.int b) = decide (a = b) := by
  rw [Bool.eq_iff_iff]
  simp
theorem rd_append {K : PySem.W.Frag} {i : Nat} {t : TA} {σ : St} {H : Hp} {Q : VK} {l : Addr} {xs : List V} (e : σ[i]? = some (some (.ref l))) (h : H l = some (.lst xs))
    (g : t σ H fun ys H2 => rAppend (.ref l) ys H2 Q) : tBM K "list" rAppend (tVar i) t σ H Q := ⟨_, e, .inl ⟨rfl, _, SqL.of h⟩, g⟩
theorem rd_app {l : Addr} {xs : List V} {y : V} {H : Hp} {Q : VK} (h : H l = some (.lst xs)) (hz : xs.length < sizeLine) (q : Q .non (upd H l (.lst (xs ++ [y])))) : rAppend (.ref l) [y] H Q := ⟨l, xs, y, rfl, rfl, h, hz, q⟩
theorem rd_for {wi : TI} {g : TG} {tb : TS} {D : Ends} {σ : St} {H : Hp} (h : wi σ H fun J H1 => ∃ W : Nat → Nat → St → Hp → Prop, (∃ m, W 0 m σ H1) ∧ ∀ i m σ H, W i m σ H →
  (J.stop i H ∧ D.nx σ H) ∨ (J.go i H ∧ ∃ N : St → Hp → Prop, (∀ σ' H', N σ' H' → ∃ m', m' < m ∧ W (i + 1) m' σ' H') ∧ ∀ x H', J.yld i H x H' → g x σ H' fun σ2 H2 => tb { D with nx := N, ct := N, bk := D.nx } σ2 H2)) : tFor wi g tb D σ H := h
theorem rd_iL {K : PySem.W.Frag} {tl : TE} {σ : St} {H : Hp} {R : It → Hp → Prop} (h : tl σ H fun x H1 => ∃ a, x = .ref a ∧ (∃ xs, SqL K H1 a xs) ∧ R (Itl K a) H1) : iList K tl σ H R := h
theorem rd_iT {K : PySem.W.Frag} {tl : TE} {σ : St} {H : Hp} {R : It → Hp → Prop} (h : tl σ H fun x H1 => ∃ a, x = .ref a ∧ (∃ xs, SqT K H1 a xs) ∧ R (Itt K a) H1) : iTup K tl σ H R := h
theorem same_app {H H' : Hp} {l : Addr} {o : HO} (h : H l = none) (s : Same H H') : Same H (upd H' l o) := fun b u e => by
  rw [upd_ne (ne_of_none e h)]
  exact s b u e
end
end L2

set_option Elab.async false
set_option linter.all false
set_option maxRecDepth 100000
set_option maxHeartbeats 4000000
namespace L2
open PySem PySem.Spec PyProof.Rows
/-- the object at e: its class, its dict, its head of tracebacks -/
def XObj (h : Heap) (e : Addr) (cls : Value) (dd : Option Addr) (head : Value) : Prop := ∃ vs sl, h.get? e = some ⟨cls, dd, .fields vs, sl⟩ ∧ vs[1]? = some head
/-- a traceback stands at its head, with the flight mark fl -/
def XTr (h base : Heap) (e : Addr) (cls : Value) (dd : Option Addr) (fl : Value) : Prop := ∃ T, XObj h e cls dd (.ref T) ∧ base.get? T = none ∧ T ≠ e ∧ ∃ oT ts, h.get? T = some oT ∧ oT.data = .fields ts ∧ ts[3]? = some fl
structure Sea (base : Heap) (l : List Env) (e : Addr) (h : Heap) : Prop where
  stays : base.StaysIn h
  new : base.get? e = none
  frames : h.FunFrames base l
section
variable {M : Model} {A : Around} {E : Value → Shared → Prop} {s : Shared} {base : Heap} {env : Env} {outer l : List Env} {L e : Addr} {cls : Value} {dd : Option Addr}
theorem fields_set {o : Obj} {vs : Array Value} (hd : o.data = .fields vs) (i : Nat) (x : Value) : Obj.mapFields (·.setIfInBounds i x) o = ⟨o.cls, o.dict, .fields (vs.setIfInBounds i x), o.slots⟩ := by
  obtain ⟨c, d, dt, sl⟩ := o
  cases hd
  rfl
/-- the entry is laid and put at the exception's head -/
theorem entry_x {head : Value} {nx : Bool} {Q : Unit → Shared → Prop} (hfr : A.frames = some (env :: outer)) (hf : env.frame = some L) (S : Sea base (env :: outer) e s.heap) {hd0 : Value} (O : XObj s.heap e cls dd hd0)
    (k : ∀ h', Sea base (env :: outer) e h' → XTr h' base e cls dd (rawInt L) → s.heap.UpToSlots h' → Q () { s with heap := h' }) :
    wpAny M A (do let a ← frameOf env; let pl ← entryPlaceOf L nx; let b ← EntryCells.newEntry head a .none (rawInt L) .none pl; setField (.ref e) 1 b) Q E s := by
  obtain ⟨vs, sl, he, h1⟩ := O
  have nofr : e ∉ (env :: outer).filterMap (·.frame) := fun z => by
    obtain ⟨_, o, ho, hn⟩ := S.frames.mem z
    rw [he] at ho
    cases ho
    exact hn vs rfl
  refine wpAny_bind (wpAny_frameOf_fun hfr S.frames hf fun g1 so => wpAny_bind (wpAny_entryPlaceOf fun pl hpl => ?_))
  unfold EntryCells.newEntry newFields; refine wpAny_bind (wpAny_newObj_type ?_ (hpl.sizeOk5 _ _ _ _ _))
  generalize hob : ({ cls := .type "traceback", dict := none, data := .fields ([head, .ref L, .none, rawInt L, .none] ++ (if pl.isEmpty then List.replicate 6 Value.none else pl)).toArray } : Obj) = tb
  have e1 : g1.get? e = some ⟨cls, dd, .fields vs, sl⟩ := (so.2.1 e nofr).trans he
  have b1 : base.StaysIn g1 := fun b o q => (so.2.1 b fun z => by rw [(S.frames.mem z).1] at q; cases q).trans (S.stays b o q)
  have e2 : (g1.push tb).get? e = some ⟨cls, dd, .fields vs, sl⟩ := Heap.get?_push_of_some _ e1
  have ne : g1.objs.size ≠ e := Nat.ne_of_gt (Heap.lt_size e1)
  have sz : 1 < vs.size := (Array.getElem?_eq_some_iff.mp h1).1
  have tbf : tb.isFreed = false := by rw [← hob]; rfl
  refine wpAny_setField e2 rfl sz (k _ ⟨fun b o q => ?_, S.new, ?_⟩ ?_ ?_)
  · have hbe : b ≠ e := fun z => by rw [z, S.new] at q; cases q
    rw [Heap.get?_update_other _ _ (Ne.symm hbe)]
    exact Heap.get?_push_of_some _ (b1 b o q)
  · refine S.frames.of_keeps fun b o q hn => ?_
    have hbe : b ≠ e := fun z => by rw [z, he] at q; cases q; exact hn vs rfl
    obtain ⟨sl', q'⟩ := so.2.2 b o q
    refine ⟨{ o with slots := sl' }, ?_, rfl⟩
    rw [Heap.get?_update_other _ _ (Ne.symm hbe)]
    exact Heap.get?_push_of_some _ q'
  · refine ⟨g1.objs.size, ⟨vs.setIfInBounds 1 (.ref g1.objs.size), sl, ?_, ?_⟩, b1.fresh, ne, tb, ([head, .ref L, .none, rawInt L, .none] ++ (if pl.isEmpty then List.replicate 6 Value.none else pl)).toArray, ?_, by rw [← hob], ?_⟩
    · rw [Heap.get?_update_self _ e2 (by rw [fields_set rfl]; rfl), fields_set rfl]
    · rw [Array.getElem?_setIfInBounds_self_of_lt sz]
    · rw [Heap.get?_update_other _ _ (Ne.symm ne)]
      exact Heap.get?_push_size _ tbf
    · simp
  · intro b o q hn
    have hbe : b ≠ e := fun z => by rw [z, he] at q; cases q; exact hn vs rfl
    obtain ⟨sl', q'⟩ := so.2.2 b o q
    refine ⟨sl', ?_⟩
    rw [Heap.get?_update_other _ _ (Ne.symm hbe)]
    exact Heap.get?_push_of_some _ q'
/-- the exception is new: no frame has noted it -/
theorem note_new {Q : Unit → Shared → Prop} (hfr : A.frames = some (env :: outer)) (hf : env.frame = some L) (S : Sea base (env :: outer) e s.heap) (O : XObj s.heap e cls dd .none)
    (k : ∀ h', Sea base (env :: outer) e h' → XTr h' base e cls dd (rawInt L) → s.heap.UpToSlots h' → Q () { s with heap := h' }) : wpAny M A (noteFrame (.ref e) env) Q E s := by
  obtain ⟨vs, sl, he, h1⟩ := id O
  unfold noteFrame
  simp only [hf]
  refine wpAny_bind (wpAny_field he rfl h1 ?_)
  rw [if_neg (by decide)]
  exact entry_x hfr hf S O k
/-- it flies in from a callee -/
theorem note_on {Q : Unit → Shared → Prop} (hfr : A.frames = some (env :: outer)) (hf : env.frame = some L) (S : Sea base (env :: outer) e s.heap) (O : XTr s.heap base e cls dd .none)
    (k : ∀ h', Sea base (env :: outer) e h' → XTr h' base e cls dd (rawInt L) → s.heap.UpToSlots h' → Q () { s with heap := h' }) : wpAny M A (noteFrame (.ref e) env) Q E s := by
  obtain ⟨T, ⟨vs, sl, he, h1⟩, tb, ne, oT, ts, hT, dT, h3⟩ := O
  unfold noteFrame
  simp only [hf]
  refine wpAny_bind (wpAny_field he rfl h1 ?_)
  rw [if_pos (show (Value.ref T != Value.none) = true by simp)]
  refine wpAny_bind (wpAny_field hT dT h3 ?_)
  rw [if_neg (show ¬ ((Value.none == rawInt L) = true) by simp [rawInt])]
  refine wpAny_bind (wpAny_setField hT dT (Array.getElem?_eq_some_iff.mp h3).1 ?_)
  have oth : ∀ b, b ≠ T → (s.heap.update T (Obj.mapFields (·.setIfInBounds 3 Value.none))).get? b = s.heap.get? b := fun b hb => Heap.get?_update_other _ _ (Ne.symm hb)
  have nT : ∀ b o, s.heap.get? b = some o → (∀ ws, o.data ≠ .fields ws) → b ≠ T := fun b o q hn z => by
    rw [z, hT] at q
    cases q
    exact hn ts dT
  refine entry_x (hd0 := .ref T) (s := { s with heap := s.heap.update T (Obj.mapFields (·.setIfInBounds 3 Value.none)) }) hfr hf ⟨fun b o q => ?_, S.new, ?_⟩ ⟨vs, sl, (oth e (Ne.symm ne)).trans he, h1⟩ fun h' a b c => k h' a b fun x o q hn => ?_
  · exact (oth b fun z => by rw [z, tb] at q; cases q).trans (S.stays b o q)
  · exact S.frames.of_keeps fun b o q hn => ⟨o, (oth b (nT b o q hn)).trans q, rfl⟩
  · exact c x o ((oth x (nT x o q hn)).trans q) hn
/-- this frame has noted it already -/
theorem note_again {Q : Unit → Shared → Prop} (hf : env.frame = some L) (O : XTr s.heap base e cls dd (rawInt L)) (k : Q () s) : wpAny M A (noteFrame (.ref e) env) Q E s := by
  obtain ⟨T, ⟨vs, sl, he, h1⟩, tb, ne, oT, ts, hT, dT, h3⟩ := O
  unfold noteFrame
  simp only [hf]
  refine wpAny_bind (wpAny_field he rfl h1 ?_)
  rw [if_pos (show (Value.ref T != Value.none) = true by simp)]
  refine wpAny_bind (wpAny_field hT dT h3 ?_)
  rw [if_pos (show (rawInt L == rawInt L) = true by simp)]
  exact wpAny_pure k
theorem flight_off {fl : Value} {Q : Unit → Shared → Prop} (S : Sea base l e s.heap) (O : XTr s.heap base e cls dd fl)
    (k : ∀ h', Sea base l e h' → XTr h' base e cls dd .none → s.heap.UpToSlots h' → Q () { s with heap := h' }) : wpAny M A (setFlight (.ref e) none) Q E s := by
  obtain ⟨T, ⟨vs, sl, he, h1⟩, tb, ne, oT, ts, hT, dT, h3⟩ := O
  have sz : 3 < ts.size := (Array.getElem?_eq_some_iff.mp h3).1
  unfold setFlight
  refine wpAny_bind (wpAny_field he rfl h1 ?_)
  rw [if_pos (show (Value.ref T != Value.none) = true by simp)]
  have oth : ∀ b, b ≠ T → (s.heap.update T (Obj.mapFields (·.setIfInBounds 3 ((none : Option Addr).elim Value.none fun f => rawInt f)))).get? b = s.heap.get? b := fun b hb => Heap.get?_update_other _ _ (Ne.symm hb)
  have nT : ∀ b o, s.heap.get? b = some o → (∀ ws, o.data ≠ .fields ws) → b ≠ T := fun b o q hn z => by
    rw [z, hT] at q
    cases q
    exact hn ts dT
  refine wpAny_setField hT dT sz (k _ ⟨fun b o q => ?_, S.new, ?_⟩ ⟨T, ⟨vs, sl, (oth e (Ne.symm ne)).trans he, h1⟩, tb, ne, _, ts.setIfInBounds 3 .none, Heap.get?_update_self _ hT ?_, ?_, ?_⟩ fun b o q hn => ⟨o.slots, (oth b (nT b o q hn)).trans q⟩)
  · exact (oth b fun z => by rw [z, tb] at q; cases q).trans (S.stays b o q)
  · exact S.frames.of_keeps fun b o q hn => ⟨o, (oth b (nT b o q hn)).trans q, rfl⟩
  · rw [fields_set dT]; rfl
  · rw [fields_set dT]; rfl
  · rw [Array.getElem?_setIfInBounds_self_of_lt sz]
theorem Sea.tail (S : Sea base (env :: outer) e s.heap) : Sea base outer e s.heap := ⟨S.stays, S.new, S.frames.2.2⟩
theorem leave_new {Q : Unit → Shared → Prop} (hfr : A.frames = some (env :: outer)) (hf : env.frame = some L) (S : Sea base (env :: outer) e s.heap) (O : XObj s.heap e cls dd .none)
    (k : ∀ h', Sea base outer e h' → XTr h' base e cls dd .none → s.heap.UpToSlots h' → Q () { s with heap := h' }) : wpAny M A (leaving env (.ref e)) Q E s := by
  unfold leaving
  refine wpAny_bind (note_new hfr hf S O fun h1 S1 O1 u1 => ?_)
  exact flight_off (s := { s with heap := h1 }) S1 O1 fun h2 S2 O2 u2 => k h2 (Sea.tail (s := { s with heap := h2 }) S2) O2 (u1.trans u2)
theorem leave_on {Q : Unit → Shared → Prop} (hfr : A.frames = some (env :: outer)) (hf : env.frame = some L) (S : Sea base (env :: outer) e s.heap) (O : XTr s.heap base e cls dd .none)
    (k : ∀ h', Sea base outer e h' → XTr h' base e cls dd .none → s.heap.UpToSlots h' → Q () { s with heap := h' }) : wpAny M A (leaving env (.ref e)) Q E s := by
  unfold leaving
  refine wpAny_bind (note_on hfr hf S O fun h1 S1 O1 u1 => ?_)
  exact flight_off (s := { s with heap := h1 }) S1 O1 fun h2 S2 O2 u2 => k h2 (Sea.tail (s := { s with heap := h2 }) S2) O2 (u1.trans u2)
end
end L2

set_option Elab.async false
set_option linter.all false
set_option maxRecDepth 100000
set_option maxHeartbeats 4000000
namespace L2
open PySem PySem.Spec PyProof.Rows
/-- B holds what stood in h (but the frames at fs), what H does not track unchanged -/
def Old (fs : List Addr) (H : Hp) (h B : Heap) : Prop := ∀ b u, h.get? b = some u → b ∉ fs → ∃ u', B.get? b = some u' ∧ (H b = none → u' = u)
/-- B holds what is tracked -/
def Tra (H : Hp) (h B : Heap) : Prop := ∀ b o, H b = some o → ∃ u, h.get? b = some u ∧ B.get? b = some u
section
variable {P : Program} {w : World} {fs : List Addr} {H H' : Hp} {h h1 h2 B : Heap}
theorem un_flown (u : Un fs [] H H' h h1) (o : Old fs H h B) (st : B.StaysIn h2) (up : h1.UpToSlots h2) (fr : ∀ b ∈ fs, ∃ ob, h1.get? b = some ob ∧ ∀ vs, ob.data ≠ .fields vs) : Un fs [] H H' h h2 where
  keep := fun b ob q n hb hx => by
    obtain ⟨u', e, z⟩ := o b ob q hb
    rw [z n] at e
    exact st _ _ e
  slot := fun b ob q n hb hx => by
    obtain ⟨sl, e⟩ := u.slot b ob q n hb hx
    obtain ⟨o2, e2, nf⟩ := fr b hb
    rw [e] at e2
    cases e2
    obtain ⟨sl', e3⟩ := up b _ e nf
    exact ⟨sl', e3⟩
  free := u.free
  there := fun b ob q hx => by
    by_cases hb : b ∈ fs
    · obtain ⟨o2, e2, nf⟩ := fr b hb
      obtain ⟨sl, e3⟩ := up b _ e2 nf
      exact ⟨_, e3⟩
    · obtain ⟨u', e, _⟩ := o b ob q hb
      exact ⟨u', st _ _ e⟩
  tups := u.tups
  frzs := u.frzs
  tbls := u.tbls
theorem hok_flown (ok : HOk P w H' h1) (t : Tra H' h1 B) (st : B.StaysIn h2) : HOk P w H' h2 := fun a o e => by
  refine (ok a o e).stay (fun b u hb q => ?_) (fun _ q => q) fun _ _ q => q
  have go : ∀ ob, H' b = some ob → h2.get? b = some u := fun ob z => by
    obtain ⟨u', e1, e2⟩ := t b ob z
    rw [q] at e1
    cases e1
    exact st _ _ e2
  rcases hb with z | z
  · exact go o (z ▸ e)
  · exact go _ z
theorem Tra.later (t : Tra H' h1 B) (st : B.StaysIn h2) : Tra H' h2 B := fun b o e => by
  obtain ⟨u, _, q⟩ := t b o e
  exact ⟨u, st _ _ q, q⟩
end
/-- how an exception lies behind a call -/
def CX1 (P : Program) (w : World) : CXT := fun outer H s E e s' => ∃ (ea : Addr) (cls : Value) (dx : Option Addr) (B : Heap) (H' : Hp), e = .ref ea ∧ s'.os = s.os ∧ AllBare s'.gens ∧ Un (frs outer) [] H H' s.heap s'.heap ∧
  HOk P w H' s'.heap ∧ Sea B outer ea s'.heap ∧ XTr s'.heap B ea cls dx .none ∧ Old (frs outer) H s.heap B ∧ Tra H' s'.heap B ∧ E cls dx H'
/-- how a new exception lies, ahead of the first frame that notes it -/
def CXM (P : Program) (w : World) : CXT := fun outer H s E e s' => ∃ (ea : Addr) (cls : Value) (dx : Option Addr) (B : Heap) (H' : Hp), e = .ref ea ∧ s'.os = s.os ∧ AllBare s'.gens ∧ Un (frs outer) [] H H' s.heap s'.heap ∧
  HOk P w H' s'.heap ∧ Sea B outer ea s'.heap ∧ XObj s'.heap ea cls dx .none ∧ Old (frs outer) H s.heap B ∧ Tra H' s'.heap B ∧ E cls dx H'
/-- what a context makes of exceptions; EE: what is wanted of the class, the dict, the names and the heap -/
structure Thr (X : Cx) (EE : Value → Option Addr → St → Hp → Prop) : Prop where
  call : ∀ (pins : List (Addr × Obj)) (σ : St) (H : Hp) (s : Shared) (e : Value) (s' : Shared), Inv X pins σ H s → CX1 X.prog X.w X.stack H s (fun c d H' => EE c d σ H') e s' → X.xe e s'
  made : ∀ (pins : List (Addr × Obj)) (σ : St) (H : Hp) (s : Shared) (e : Value) (s' : Shared), Inv X pins σ H s → CXM X.prog X.w X.stack H s (fun c d H' => EE c d σ H') e s' → X.xe e s'
section
variable {X : Cx} {pins : List (Addr × Obj)} {σ : St} {H H' : Hp} {s : Shared}
theorem frames_are (I : Inv X pins σ H s) {s' : Shared} (u : Un (frs X.stack) [] H H' s.heap s'.heap) : ∀ b ∈ frs X.stack, ∃ ob, s'.heap.get? b = some ob ∧ ∀ vs, ob.data ≠ .fields vs := fun b hb => by
  obtain ⟨_, o, ho, hn⟩ := I.stack.mem hb
  obtain ⟨sl, e⟩ := u.any ho (I.stkFree b hb) (by simp)
  exact ⟨_, e, hn⟩
/-- from a body's frame to its callers' -/
theorem un_out {s2 : Heap} (I : Inv X pins σ H s) (hx : X.ex = []) (hst : X.stack = X.env :: X.outer) (hfr : X.env.frame = some X.env.locals) (u : Un (frs X.stack) [] H H' s.heap s2) : Un X.fs [] X.H₀ H' X.s₀.heap s2 := by
  have nl : ∀ b o, X.s₀.heap.get? b = some o → b ≠ X.env.locals := fun b o e => Nat.ne_of_lt (Nat.lt_of_lt_of_le (Heap.lt_size e) I.ok.above)
  have sub : ∀ b, b ∈ frs X.stack → b = X.env.locals ∨ b ∈ X.fs := fun b hb => List.mem_cons.mp (I.stkSub b hb)
  have sup : ∀ b, b ∈ X.fs → b ∈ frs X.stack := fun b hb => by
    rw [hst]
    show b ∈ (X.env :: X.outer).filterMap (·.frame)
    rw [List.filterMap_cons, hfr]
    exact List.mem_cons_of_mem _ hb
  have ie : ∀ b, b ∉ X.ex := fun b => by rw [hx]; simp
  exact {
    keep := fun b o e n hb _ => u.keep b o (I.base.keep b o e n hb (ie b)) (I.base.free b o e n (ie b)) (fun z => (sub b z).elim (nl b o e) hb) (by simp)
    slot := fun b o e n hb _ => by
      obtain ⟨sl, e1⟩ := I.base.slot b o e n hb (ie b)
      obtain ⟨sl', e2⟩ := u.slot b _ e1 (I.base.free b o e n (ie b)) (sup b hb) (by simp)
      exact ⟨sl', e2⟩
    free := fun b o e n _ => by
      obtain ⟨o', e1⟩ := I.base.there b o e (ie b)
      exact u.free b o' e1 (I.base.free b o e n (ie b)) (by simp)
    there := fun b o e _ => by
      obtain ⟨o', e1⟩ := I.base.there b o e (ie b)
      exact u.there b o' e1 (by simp)
    tups := fun b xs e => u.tups b xs (I.base.tups b xs e)
    frzs := fun b o xs e => u.frzs b o xs (I.base.frzs b o xs e)
    tbls := fun b ps e => by
      obtain ⟨m1, e1⟩ := I.base.tbls b ps e
      obtain ⟨m2, e2⟩ := u.tbls b _ e1
      exact ⟨m1 ++ m2, by rw [e2, Array.append_assoc]⟩ }
theorem old_out {B : Heap} (I : Inv X pins σ H s) (hx : X.ex = []) (o : Old (frs X.stack) H s.heap B) : Old X.fs X.H₀ X.s₀.heap B := fun b u e hb => by
  have ie : b ∉ X.ex := by rw [hx]; simp
  have hs : b ∉ frs X.stack := fun z => (List.mem_cons.mp (I.stkSub b z)).elim (fun q => Nat.lt_irrefl _ (Nat.lt_of_lt_of_le (Heap.lt_size e) (q ▸ I.ok.above))) hb
  obtain ⟨o', e1⟩ := I.base.there b u e ie
  obtain ⟨u', e2, z⟩ := o b o' e1 hs
  refine ⟨u', e2, fun n => ?_⟩
  have e3 := I.base.keep b u e n hb ie
  rw [e1] at e3
  cases e3
  exact z (I.base.free b _ e n ie)
end
theorem ObjOk.obj {P : Program} {w : World} {H : Hp} {h : Heap} {a : Addr} {o : HO} (x : ObjOk P w H h a o) : ∃ u, h.get? a = some u := by
  cases o with
  | lst xs => obtain ⟨_, _, _, _, e⟩ := x; exact ⟨_, e⟩
  | tup xs => obtain ⟨_, _, _, ob, e, _⟩ := x; exact ⟨_, e⟩
  | dK kvs => obtain ⟨_, _, _, _, ob, _, _, e, _⟩ := x; exact ⟨_, e⟩
  | dT kvs => obtain ⟨_, _, _, _, ob, _, _, e, _⟩ := x; exact ⟨_, e⟩
  | set S n => obtain ⟨ob, _, _, _, e, _⟩ := x; exact ⟨_, e⟩
  | ins C dx fs => obtain ⟨_, _, _, e, _⟩ := x; exact ⟨_, e⟩
  | own y => exact x
  | xd fs => obtain ⟨_, ⟨ob, _, _, e, _⟩, _⟩ := x; exact ⟨_, e⟩
  | rng lo hi => obtain ⟨_, _, _, e⟩ := x; exact ⟨_, e⟩
  | frz ob u => exact ⟨_, x.1⟩
  | tbl ps => exact ⟨_, x⟩
  | met f y => exact ⟨_, x⟩
  | ext φ => exact x.2.1
/-- an exception just made -/
theorem cxm_made {X : Cx} {pins : List (Addr × Obj)} {σ : St} {H H' : Hp} {s s' : Shared} {e : Addr} {cls : Value} {dx : Option Addr} {E : XK} (I : Inv X pins σ H s) (I' : Inv X pins σ H' s') (un : Un (frs X.stack) [] H H' s.heap s'.heap) (os : s'.os = s.os) (O : XObj s'.heap e cls dx .none) (hn : s.heap.get? e = none) (hn' : H' e = none)
    (q : E cls dx H') : CXM X.prog X.w X.stack H s E (.ref e) s' := by
  refine ⟨e, cls, dx, PySem.W.hideAll s'.heap (e :: frs X.stack), H', rfl, os, I'.bare, un, I'.hok, ⟨fun b o z => PySem.W.of_hideAll _ z, PySem.W.hideAll_none _ (by simp), ?_⟩, O, fun b u z hb => ?_, fun b o z => ?_, q⟩
  · refine PySem.W.funFrames_hide I'.stack fun env he a ha => List.mem_cons_of_mem _ ?_
    exact List.mem_filterMap.mpr ⟨env, he, ha⟩
  · have ne : b ∉ e :: frs X.stack := fun hm => (List.mem_cons.mp hm).elim (fun r => by rw [r, hn] at z; cases z) hb
    obtain ⟨u', e1⟩ := un.there b u z (by simp)
    refine ⟨u', PySem.W.hideAll_get _ e1 ne, fun n => ?_⟩
    have e2 := un.keep b u z n hb (by simp)
    rw [e1] at e2
    cases e2
    rfl
  · obtain ⟨u, hu⟩ := (I'.hok b o z).obj
    refine ⟨u, hu, PySem.W.hideAll_get _ hu fun hm => ?_⟩
    rcases List.mem_cons.mp hm with r | r
    · rw [r, hn'] at z; cases z
    · rw [I'.stkFree b r] at z; cases z
/-- a def's body: an exception leaves the frame -/
theorem thr_fn {P : Program} {w : World} {K : PySem.W.Frag} {mg : Str → Option Value} {base : Heap} {N : List Str} {qual : Str} {scope : Scope} {f : Addr} {cd : Value} {A : Around} {outer : List Env} {s₀ : Shared} {H₀ : Hp} {E : XK} :
    Thr (cxOf (CX1 P w) P w K mg base N qual scope f cd A outer s₀ H₀ E) (fun c d _ H' => E c d H') where
  call := by
    rintro pins σ H s e s' I ⟨ea, cls, dx, B, H', rfl, os, bare, un, hok, sea, tr, old, tra, q⟩
    refine leave_on (A := (cxOf (CX1 P w) P w K mg base N qual scope f cd A outer s₀ H₀ E).A) (I.ok.frames) rfl sea tr fun h2 S2 O2 u2 => ?_
    refine ⟨ea, cls, dx, B, H', rfl, os.trans I.os, bare, ?_, hok_flown hok tra S2.stays, S2, O2, old_out I rfl old, tra.later S2.stays, q⟩
    exact un_out I rfl rfl rfl (un_flown un old S2.stays u2 (frames_are I un))
  made := by
    rintro pins σ H s e s' I ⟨ea, cls, dx, B, H', rfl, os, bare, un, hok, sea, tr, old, tra, q⟩
    refine leave_new (A := (cxOf (CX1 P w) P w K mg base N qual scope f cd A outer s₀ H₀ E).A) (I.ok.frames) rfl sea tr fun h2 S2 O2 u2 => ?_
    refine ⟨ea, cls, dx, B, H', rfl, os.trans I.os, bare, ?_, hok_flown hok tra S2.stays, S2, O2, old_out I rfl old, tra.later S2.stays, q⟩
    exact un_out I rfl rfl rfl (un_flown un old S2.stays u2 (frames_are I un))
end L2

set_option Elab.async false
set_option linter.all false
set_option maxRecDepth 100000
set_option maxHeartbeats 4000000
namespace L2
open PySem PySem.Spec PyProof.Rows
section
variable {P : Program} {w : World} {K : PySem.W.Frag} {mg : Str → Option Value} {base : Heap}
theorem Fun.okE {x qual : Str} {st : Stmt} {f : Addr} {fd : FuncData} {N ps : List Str} {k : Nat} {sp : Sp} (F : Fun K x qual st f fd) (S : FnScope N ps (defScope st)) (len : ∀ vs H Q E, sp vs H Q E → vs.length = ps.length)
    (hbody : ∀ (cdv : Value) (A : Around) (outer : List Env) (s : Shared) (H : Hp) (vs : List V) (Q : VK) (E : XK), Room k (A.deeper (envOfC qual (defScope st) s.heap.objs.size f cdv)) → sp vs H Q E →
      Thr (cxOf (CX1 P w) P w K mg base N qual (defScope st) f cdv A outer s H E) (fun c d _ H' => E c d H') →
      ∃ t, PSs (cxOf (CX1 P w) P w K mg base N qual (defScope st) f cdv A outer s H E) (defBody st) t ∧ t { nx := fun _ H' => Q .non H', rt := Q } (start N vs) H) : FnOk P w K mg base (CX1 P w) (k + 1) f fd ps sp := by
  obtain ⟨oc, od, kV, doc, pm, an, cdv, ct, osl, rfl, lk, hcd⟩ := F.ex
  exact fn_of lk hcd S len fun A outer s H vs Q E hr hsp => hbody cdv A outer s H vs Q E hr hsp thr_fn
end
structure CalE (P : Program) (w : World) (K : PySem.W.Frag) (mg : Str → Option Value) (base : Heap) (k : Nat) (x : Str) (ps : List Str) (sp : Sp) : Prop where
  ex : ∃ (f : Addr) (fd : FuncData), FnOk P w K mg base (CX1 P w) k f fd ps sp ∧ Binds K fd ps [] ∧ PySem.W.keepIn K (.ref f) = true ∧ mg x = some (.ref f)
def tCallE (sp : Sp) (EE : Value → Option Addr → St → Hp → Prop) (t : TA) : TE := fun σ H Q => t σ H fun vs H1 => sp (vs ++ []) H1 Q (fun c d H' => EE c d σ H')
section
variable {X : Cx} {EE : Value → Option Addr → St → Hp → Prop}
theorem pe_calE {k : Nat} {x : Str} {ps : List Str} {sp : Sp} {e : Expr} {es : List Expr} {t : TA} {p pos : Pos} (T : Thr X EE) (C : CalE X.prog X.w X.K X.mg X.base k x ps sp) (hr : Room k X.A) (hg : Gl X x) (ha : PA X (e :: es) t)
    (hdb : (x == ("__debug__" : Str)) = false := by decide) (he : starEach (e :: es) X.env = (false, eval e X.env) :: starEach es X.env := by rfl) (hpl : (backTo pos (starEach es X.env)).any (·.1) = false := by rfl) :
    PE X (.Call (.Name x p) (e :: es) [] pos) (tCallE sp EE t) := by
  intro pins s σ H Q I h
  obtain ⟨f, fd, F, b, kp, m⟩ := C.ex
  refine wpAny_Call_Name_kw (ld_glob I hg m ?_ hdb)
  refine PySem.W.callWith_K (h₀ := X.base) I.ok.mod.kin kp (thn (ha pos pins s σ H _ I h) fun us s1 ⟨vs, H1, I1, r, q⟩ => ⟨I1.kIn, ?_⟩) he hpl
  dsimp only at q
  rw [List.append_nil] at q
  have hl : us.length = ps.length := by rw [← r.length]; exact F.len _ _ _ _ q
  have hb := b s1 us I1.kIn (by rw [List.append_nil]; exact hl)
  rw [List.append_nil] at hb
  show wpAny _ _ (call (.ref f) us) _ _ _
  refine wpAny_call (codeAny_mono (F.run X.A X.stack s1 H1 ⟨us, []⟩ us vs Q _ hr I1.env0 hb r q) fun z s' hq => ?_)
  cases z with
  | error e => exact T.call pins σ H1 s1 e s' I1 hq
  | ok fl =>
    cases fl with
    | ret u => exact I1.after hq
    | next => exact False.elim hq
    | brk => exact False.elim hq
    | cont => exact False.elim hq
theorem exc_cls {K : PySem.W.Frag} {h : Heap} {C : Addr} {bmB : List Value} {newId : String} (KX : K.In h) (q : PySem.W.excIn K C bmB newId = true) :
    ∃ bm N nm qn bs hd sn sub ab col dd k0 k1 k2 k3 k5 mN, h.get? C = some (excClassObj nm qn C N bs bm hd sn sub ab col dd k0 k1 k2 k3 k5 newId) ∧ h.Ns N mN ∧ mN "__init__" = none ∧ OwnTail h bmB bm := by
  unfold PySem.W.excIn at q
  split at q
  · rename_i dd cd sl ho
    split at q
    · rename_i C' bm k0 k1 k2 k3 n k5 hm hs
      simp only [Bool.and_eq_true, beq_iff_eq, Bool.not_eq_true'] at q
      obtain ⟨⟨⟨⟨⟨e1, e2⟩, hdel⟩, ht⟩, hok⟩, hni⟩ := q
      subst e1 e2
      obtain ⟨nm, bs, mro, ns, qn, hd, sn, sub, ab, col, del⟩ := cd
      dsimp only at hm hdel hok hni
      subst hm hdel
      obtain ⟨l⟩ := sl
      dsimp only at hs
      subst hs
      exact ⟨bm, ns, nm, qn, bs, hd, sn, sub, ab, col, dd, k0, k1, k2, k3, k5, _, KX _ _ ho, .of_isNs (PySem.W.isNs_of_in KX hok), PySem.W.nsMap_none_of_in KX hok hni, PySem.W.tail_of_in KX ht⟩
    · cases q
  · cases q
abbrev bmV : List Value := [.type "ValueError", .type "Exception", .type "BaseException", .type "object"]
/-- a class of the text under ValueError, without an __init__ of its own or of those between -/
structure XCls (K : PySem.W.Frag) (mg : Str → Option Value) (x : Str) (C : Addr) : Prop where
  bound : mg x = some (.ref C)
  exc : PySem.W.excIn K C bmV "ValueError.__new__" = true
def tRaise (C : Addr) (EE : Value → Option Addr → St → Hp → Prop) (ta : TA) : TS := fun _ σ H => ta σ H fun vs H1 => vs.length ≤ sizeLine ∧ EE (.ref C) none σ H1
theorem ps_raise {x : Str} {C : Addr} {e : Expr} {es : List Expr} {t : TA} {np cpos pos : Pos} (T : Thr X EE) (hc : X.calm = true) (O : XCls X.K X.mg x C) (hg : Gl X x) (ha : PA X (e :: es) t)
    (hdb : (x == ("__debug__" : Str)) = false := by decide) (he : starEach (e :: es) X.env = (false, eval e X.env) :: starEach es X.env := by rfl) (hpl : (backTo cpos (starEach es X.env)).any (·.1) = false := by rfl) :
    PS X (.Raise (some (.Call (.Name x np) (e :: es) [] cpos)) none pos) (tRaise C EE t) := by
  intro pins s σ H D I h
  obtain ⟨tl, N, nm, qn, bs, hd, sn, sub, ab, col, dd, k0, k1, k2, k3, k5, mN, hC, hN, hni, TL⟩ := exc_cls I.ok.mod.kin O.exc
  have FV := PySem.F.excBase_ValueError
  refine wpAny_Raise_call_subU (C := C) (nm := nm) (q := qn) (N := N) (bs := bs) (bm := tl) (hdct := hd) (sn := sn) (sub := sub) (ab := ab) (col := col) (dd := dd) (k0 := k0) (k1 := k1) (k2 := k2) (k3 := k3) (k5 := k5)
    FV (by decide +kernel) FV (mN := mN) (TL.hasType FV.hasBase) (I.ok.hd hc) ?_ hni (ld_glob I hg O.bound ⟨rfl, ?_⟩ hdb)
  · rw [he]
    show (false || (backTo cpos (starEach es X.env)).any (·.1)) = false
    rw [hpl]; rfl
  have hh := thn (ha cpos pins s σ H _ I h) (Q' := fun vs s₂ => vs.length ≤ sizeLine ∧ (∀ b o, X.base.get? b = some o → s₂.heap.get? b = some o) ∧ ∀ h' ea, Heap.MadeExcOf s₂.heap h' ea (.ref C) vs → X.xe (.ref ea) { s₂ with heap := h' }) fun us s1 ⟨vs, H1, I1, r, hz, q⟩ => by
    refine ⟨by rw [← r.length]; exact hz, I1.bk, fun h' ea M => ?_⟩
    obtain ⟨ta, e1, _, _⟩ := M.there
    have I2 : Inv X pins σ H1 { s1 with heap := h' } := I1.kept (t' := s1.toks) M.keeps
    have hn : H1 ea = none := by
      cases z : H1 ea with
      | none => rfl
      | some o =>
        obtain ⟨u, hu⟩ := (I1.hok ea o z).obj
        rw [M.new] at hu; cases hu
    exact T.made pins σ H1 s1 _ _ I1 (cxm_made I1 I2 (Un.kept M.keeps) rfl ⟨_, #[], e1, rfl⟩ M.new hn q)
  rw [he] at hh ⊢
  exact Calls.evalArgs_plain (thn hh fun vs s₂ h₂ => ⟨rfl, h₂.1, h₂.2.1 _ _ hC, hN.keeps h₂.2.1, TL.keeps h₂.2.1, h₂.2.2⟩)
end
end L2

set_option Elab.async false
set_option linter.all false
set_option maxRecDepth 100000
set_option maxHeartbeats 4000000
namespace L2
open PySem PySem.Spec PyProof.Rows
theorem Inv.re {X Y : Cx} {pins pins' : List (Addr × Obj)} {σ : St} {H : Hp} {s : Shared} (I : Inv X pins σ H s) (ok : Y.Ok) (e1 : Y.prog = X.prog) (e2 : Y.w = X.w) (e3 : Y.s₀ = X.s₀) (e4 : Y.outer = X.outer) (e5 : Y.ex = X.ex) (e6 : Y.H₀ = X.H₀) (e7 : Y.env = X.env) (e8 : Y.N = X.N)
    (hp : ∀ p ∈ Y.pn ++ pins', p ∈ X.pn ++ pins) : Inv Y pins' σ H s := by
  obtain ⟨P, w, K, mg, base, A, N, s₀, H₀, env, outer, stack, ex, fn, calm, pn, xe⟩ := X
  obtain ⟨P', w', K', mg', base', A', N', s₀', H₀', env', outer', stack', ex', fn', calm', pn', xe'⟩ := Y
  dsimp only at e1 e2 e3 e4 e5 e6 e7 e8
  subst e1 e2 e3 e4 e5 e6 e7 e8
  exact ⟨ok, I.os, I.bare, I.base, I.loc, I.cell, I.free, I.freeC, fun p h => I.pin p (hp p h), I.hok, I.len⟩
/-- within a try: another wish, the pins kept -/
abbrev Cx.tr (X : Cx) (xe : Value → Shared → Prop) (pn : List (Addr × Obj)) : Cx := { X with xe := xe, pn := pn }
/-- within a handler: the exception is marked, nothing is raised -/
abbrev Cx.hd (X : Cx) (e : Addr) : Cx := { X with A := X.A.mark (some (.ref e)), calm := false, xe := fun _ _ => False }
theorem Cx.Ok.tr {X : Cx} (ok : X.Ok) (xe : Value → Shared → Prop) (pn : List (Addr × Obj)) : (X.tr xe pn).Ok :=
  ⟨ok.mod, ok.kind, ok.glob, ok.blt, ok.above, ok.inj, ok.has, ok.cab, ok.hd, ok.frames, ok.stk, ok.exf, ok.bs, ok.bsz, ok.noex, ok.exfs, ok.funs, ok.frf⟩
theorem Cx.Ok.hdl {X : Cx} (ok : X.Ok) (e : Addr) : (X.hd e).Ok :=
  ⟨ok.mod, ok.kind, ok.glob, ok.blt, ok.above, ok.inj, ok.has, ok.cab, (fun h => nomatch h), ok.frames, ok.stk, ok.exf, ok.bs, ok.bsz, ok.noex, ok.exfs, ok.funs, ok.frf⟩
/-- the exception object at ea, tracked: its class and its dict -/
def ExcO (a : Addr) (cls : Value) (dx : Option Addr) : HO := .ext fun h => ∃ vs sl, h.get? a = some ⟨cls, dx, .fields vs, sl⟩
structure Fl (X : Cx) (pins : List (Addr × Obj)) (σ : St) (H : Hp) (s' : Shared) (ea : Addr) (cls : Value) (dx : Option Addr) : Prop where
  ex : ∃ (s₀ : Shared) (H₀ : Hp) (B : Heap), Inv X pins σ H₀ s₀ ∧ s'.os = s₀.os ∧ AllBare s'.gens ∧ Un (frs X.stack) [] H₀ H s₀.heap s'.heap ∧ HOk X.prog X.w H s'.heap ∧ Sea B X.stack ea s'.heap ∧ XTr s'.heap B ea cls dx .none ∧ Old (frs X.stack) H₀ s₀.heap B ∧ Tra H s'.heap B
section
variable {X : Cx} {pins : List (Addr × Obj)} {σ : St} {H : Hp} {s : Shared} {ea : Addr} {cls : Value} {dx : Option Addr}
theorem Fl.inv (F : Fl X pins σ H s ea cls dx) : Inv X pins σ H s := by
  obtain ⟨s₀, H₀, B, I, os, bare, un, hok, _⟩ := F.ex
  exact I.call' (ch := []) os un hok bare (fun b z => nomatch z)
theorem Fl.obj (F : Fl X pins σ H s ea cls dx) : ∃ vs sl, s.heap.get? ea = some ⟨cls, dx, .fields vs, sl⟩ := by
  obtain ⟨s₀, H₀, B, I, os, bare, un, hok, sea, ⟨T, ⟨vs, sl, e, _⟩, _⟩, _⟩ := F.ex
  exact ⟨vs, sl, e⟩
/-- it was not there at the call -/
theorem Fl.free (F : Fl X pins σ H s ea cls dx) : H ea = none := by
  obtain ⟨s₀, H₀, B, I, os, bare, un, hok, sea, _, _, tra⟩ := F.ex
  cases z : H ea with
  | none => rfl
  | some o =>
    obtain ⟨u, _, q⟩ := tra ea o z
    rw [sea.new] at q; cases q
/-- the exception's flight is ended, and it is tracked from here on -/
theorem Fl.land {Q : Unit → Shared → Prop} {A : Around} {E : Value → Shared → Prop} (F : Fl X pins σ H s ea cls dx) (k : ∀ s', Inv X pins σ (upd H ea (ExcO ea cls dx)) s' → Q () s') : wpAny (model X.prog X.w) A (setFlight (.ref ea) none) Q E s := by
  have hn := F.free
  obtain ⟨s₀, H₀, B, I, os, bare, un, hok, sea, tr, old, tra⟩ := F.ex
  refine flight_off sea tr fun h2 S2 O2 u2 => k _ ?_
  have un2 := un_flown un old S2.stays u2 (frames_are I un)
  have hok2 := hok_flown hok tra S2.stays
  obtain ⟨T, ⟨vs, sl, e, _⟩, _⟩ := O2
  have nf : ea ∉ frs X.stack := fun z => by
    obtain ⟨_, o, ho, hn⟩ := S2.frames.mem z
    rw [e] at ho
    cases ho
    exact hn vs rfl
  have new0 : s₀.heap.get? ea = none := by
    cases z : s₀.heap.get? ea with
    | none => rfl
    | some u =>
      obtain ⟨u', q, _⟩ := old ea u z nf
      rw [S2.new] at q; cases q
  have ne : ∀ b u, s₀.heap.get? b = some u → b ≠ ea := fun b u q z => by rw [z, new0] at q; cases q
  refine I.call' (ch := []) (s' := { s with heap := h2 }) os ?_ ?_ bare (fun b z => nomatch z)
  · exact ⟨un2.keep, un2.slot, fun b o q n hx => by rw [upd_ne (ne b o q)]; exact un2.free b o q n hx, un2.there, fun b xs q => by rw [upd_ne (ne_of_none (un2.tups b xs q) hn)]; exact un2.tups b xs q,
      fun b o u q => by rw [upd_ne (ne_of_none (un2.frzs b o u q) hn)]; exact un2.frzs b o u q, fun b ps q => by
        obtain ⟨more, z⟩ := un2.tbls b ps q
        exact ⟨more, by rw [upd_ne (ne_of_none z hn)]; exact z⟩⟩
  · intro a o q
    by_cases ha : a = ea
    · subst ha
      rw [upd_same] at q
      cases q
      refine ⟨⟨vs, sl, e⟩, ⟨_, e⟩, ?_⟩
      rintro h1 h3 ⟨vs', sl', q⟩ kk
      exact ⟨vs', sl', kk _ q⟩
    · rw [upd_ne ha] at q
      refine (hok2 a o q).stay (fun b u _ z => z) (fun b z => ?_) fun b xs z => ?_
      · rw [upd_ne (ne_of_none z hn)]; exact z
      · rw [upd_ne (ne_of_none z hn)]; exact z
structure HCls (K : PySem.W.Frag) (mg : Str → Option Value) (x : Str) (C : Addr) : Prop where
  bound : mg x = some (.ref C)
  ty : PySem.W.typeIn K (.ref C) = some (.type "type")
  cls : (PySem.W.clsIn K C).isSome = true
  base : PySem.W.mroIn K C (.type "BaseException") = some true
theorem exc_match {K : PySem.W.Frag} {mg : Str → Option Value} {x : Str} {M : Model} {A : Around} {E : Value → Shared → Prop} {s : Shared} {e C C' : Addr} {dx : Option Addr} {vs : Array Value} {sl : Array (Option Value)} {b : Bool} {Q : Bool → Shared → Prop} (KX : K.In s.heap) (O : HCls K mg x C)
    (he : s.heap.get? e = some ⟨.ref C', dx, .fields vs, sl⟩) (hm : PySem.W.mroIn K C' (.ref C) = some b) (q : Q b s) : wpAny M A (excMatches (.ref e) (.ref C)) Q E s := by
  have L1 : PySem.W.Looks M s.heap (isInstance (.ref C) (.type "tuple")) false := (PySem.W.looks_typeIn KX O.ty).andThen (.of_pure tc_notTuple)
  have L2 : PySem.W.Looks M s.heap (isType (.ref C)) true := by
    have hc := O.cls
    unfold PySem.W.clsIn at hc
    split at hc
    · rename_i c' d' cd' sl' ho
      intro A' Q' E' s' k q
      unfold isType loadHead
      exact wpAny_bind (wpAny_loadPart (k _ _ (KX _ _ ho)) (wpAny_pure q))
    · cases hc
  have L3 := PySem.W.looks_mroIn (M := M) KX O.base
  have L4 : PySem.W.Looks M s.heap (typeOf (.ref e)) (.ref C') := (PySem.W.Looks.ld he).andThen .now
  have L5 := PySem.W.looks_mroIn (M := M) KX hm
  unfold excMatches
  refine wpAny_bind (L1.here ?_)
  simp only [Bool.false_eq_true, if_false]
  refine wpAny_bind (wpAny_pure ?_)
  refine wpAny_bind ?_
  rw [List.forIn_cons]
  refine wpAny_bind (wpAny_bind ?_)
  unfold isExcClass
  refine wpAny_bind (L2.here ?_)
  rw [if_pos rfl]
  refine L3.here ?_
  simp only [Bool.not_true, Bool.false_eq_true, if_false]
  refine wpAny_pure ?_
  dsimp only
  rw [List.forIn_nil]
  refine wpAny_pure (wpAny_bind (L4.here (wpAny_bind ?_)))
  rw [List.forIn_cons]
  refine wpAny_bind (wpAny_bind (L5.here ?_))
  cases b with
  | true =>
    rw [if_pos rfl]
    exact wpAny_pure (wpAny_pure (wpAny_pure q))
  | false =>
    rw [if_neg Bool.false_ne_true]
    refine wpAny_pure ?_
    dsimp only
    rw [List.forIn_nil]
    exact wpAny_pure (wpAny_pure q)
end
end L2

set_option Elab.async false
set_option linter.all false
set_option maxRecDepth 100000
set_option maxHeartbeats 4000000
namespace L2
open PySem PySem.Spec PyProof.Rows
theorem SP.re {X Y : Cx} {pins pins' : List (Addr × Obj)} {D : Ends} {f : Flow} {s : Shared} (h : SP X pins D f s) (k : ∀ σ H, Inv X pins σ H s → Inv Y pins' σ H s) : SP Y pins' D f s := by
  cases f with
  | next => obtain ⟨σ, H, I, q⟩ := h; exact ⟨σ, H, k _ _ I, q⟩
  | brk => obtain ⟨σ, H, I, q⟩ := h; exact ⟨σ, H, k _ _ I, q⟩
  | cont => obtain ⟨σ, H, I, q⟩ := h; exact ⟨σ, H, k _ _ I, q⟩
  | ret u => obtain ⟨v, σ, H, I, r, q⟩ := h; exact ⟨v, σ, H, k _ _ I, r, q⟩
section
variable {X : Cx} {pins : List (Addr × Obj)} {σ : St} {H : Hp} {s : Shared}
theorem Inv.toHd (I : Inv X pins σ H s) (e : Addr) : Inv (X.hd e) pins σ H s := I.re (I.ok.hdl e) rfl rfl rfl rfl rfl rfl rfl rfl fun _ h => h
theorem Inv.ofHd {e : Addr} (o : X.Ok) (I : Inv (X.hd e) pins σ H s) : Inv X pins σ H s := I.re o rfl rfl rfl rfl rfl rfl rfl rfl fun _ h => h
theorem Inv.toTr (I : Inv X pins σ H s) (xe : Value → Shared → Prop) : Inv (X.tr xe (X.pn ++ pins)) [] σ H s := I.re (I.ok.tr _ _) rfl rfl rfl rfl rfl rfl rfl rfl fun p h => by simpa using h
theorem Inv.ofTr {pins' : List (Addr × Obj)} {xe : Value → Shared → Prop} (o : X.Ok) (I : Inv (X.tr xe (X.pn ++ pins)) pins' σ H s) : Inv X pins σ H s :=
  I.re o rfl rfl rfl rfl rfl rfl rfl rfl fun p h => List.mem_append_left _ h
/-- a name goes -/
theorem unbind_ok {M : Model} {A : Around} {E : Value → Shared → Prop} {i : Nat} {n : Str} {pos : Pos} {Q : Unit → Shared → Prop} (I : Inv X pins σ H s) (hN : X.N.Nodup) (hi : X.N[i]? = some n) (hk : X.env.scope.names.lookup n = some .local)
    (h : ∀ s', Inv X pins (σ.set i none) H s' → Q () s') : wpAny M A (do bindName X.env n .none; unbindBehindTheSuite X.env n pos) Q E s := by
  obtain ⟨m, hn, hl⟩ := id I.loc
  have hcls : (X.env.scope.kind == .class || (X.env.scope.kind == .module && X.env.locals != X.env.globals)) = false := by rw [I.ok.kind]; rfl
  have hiσ : i < σ.length := by rw [I.len]; exact (List.getElem?_eq_some_iff.mp hi).1
  have cne := I.cne
  refine wpAny_nameGoes_keeps hk hn hcls fun h' v hn' hs => h _ ?_
  obtain ⟨oL, _, _, hoL, _⟩ := id hn
  have nl : ∀ b o, X.s₀.heap.get? b = some o → h'.get? b = s.heap.get? b := fun b o e => hs.2 b (Nat.ne_of_lt (Nat.lt_of_lt_of_le (Heap.lt_size e) I.ok.above))
  refine ⟨I.ok, I.os, I.bare, ⟨fun b o e z hb hx => (nl b o e).trans (I.base.keep b o e z hb hx), fun b o e z hb hx => ?_, I.base.free, fun b o e hx => ?_, I.base.tups, I.base.frzs, I.base.tbls⟩, ⟨_, hn', fun j y v' e1 e2 e3 => ?_⟩, fun y c e => ?_, I.free, I.freeC, fun p hp => ?_, fun b ob e => ?_, by simpa using I.len⟩
  · obtain ⟨sl, e1⟩ := I.base.slot b o e z hb hx
    exact ⟨sl, (nl b o e).trans e1⟩
  · obtain ⟨o', e1⟩ := I.base.there b o e hx
    exact ⟨o', (nl b o e).trans e1⟩
  · by_cases hj : j = i
    · subst hj
      rw [List.getElem?_set_self hiσ] at e2
      cases e2
    · rw [List.getElem?_set_ne (Ne.symm hj)] at e2
      obtain ⟨u', r', q⟩ := hl j y v' e1 e2 e3
      refine ⟨u', r', ?_⟩
      rcases q with ⟨k, e⟩ | ⟨k, c, e, z⟩
      · refine .inl ⟨k, ?_⟩
        have hy : y ≠ n := fun z => hj (nodup_ix hN e1 (z ▸ hi))
        simp [hy, e]
      · exact .inr ⟨k, c, e, z.sameBut hs (cne y c e)⟩
  · obtain ⟨w', z⟩ := I.cell y c e
    exact ⟨w', z.sameBut hs (cne y c e)⟩
  · obtain ⟨e, z, ne, nf, d⟩ := I.pin p hp
    exact ⟨(hs.2 p.1 ne).trans e, z, ne, nf, d⟩
  · refine (I.hok b ob e).stay (fun c w' hc q => (hs.2 c ?_).trans q) (fun _ q => q) fun _ _ q => q
    rintro rfl
    rcases hc with rfl | hc
    · rw [I.free] at e; cases e
    · rw [I.free] at hc; cases hc
end
abbrev TH := Value → Option Addr → Addr → Ends → St → Hp → Prop
def PHs (X : Cx) (hs : List ExceptHandler) (t : TH) : Prop := ∀ (pins : List (Addr × Obj)) (s : Shared) (σ : St) (H : Hp) (D : Ends) (ea : Addr) (cls : Value) (dx : Option Addr), Fl X pins σ H s ea cls dx → t cls dx ea D σ H →
  wpAny (model X.prog X.w) X.A (handleBy (.ref ea) X.env hs) (SP X pins D) X.xe s
def tNoHand : TH := fun _ _ _ _ _ _ => False
/-- except C as n: n stands in slot i, and goes behind the suite -/
def gone (i : Nat) (D : Ends) : Ends := { nx := fun σ H => D.nx (σ.set i none) H, rt := D.rt, bk := fun σ H => D.bk (σ.set i none) H, ct := fun σ H => D.ct (σ.set i none) H }
def tHandAs (K : PySem.W.Frag) (C : Addr) (i : Nat) (ts : Addr → TS) (tr : TH) : TH := fun cls dx ea D σ H => ∃ C' b, cls = .ref C' ∧ PySem.W.mroIn K C' (.ref C) = some b ∧ if b = true then ts ea (gone i D) (σ.set i (some (.ref ea))) (upd H ea (ExcO ea cls dx)) else tr cls dx ea D σ H
section
variable {X : Cx}
theorem phs_nil : PHs X [] tNoHand := fun _ _ _ _ _ _ _ _ _ h => h.elim
theorem phs_consA {x n : Str} {C : Addr} {i : Nat} {b₀ : Stmt} {suite : List Stmt} {np pos : Pos} {rest : List ExceptHandler} {ts : Addr → TS} {tr : TH} (O : HCls X.K X.mg x C) (hg : Gl X x) (hN : X.N.Nodup) (hi : X.N[i]? = some n) (hk : X.env.scope.names.lookup n = some .local)
    (hs : ∀ ea, PSs (X.hd ea) (b₀ :: suite) (ts ea)) (hr : PHs X rest tr) (hdb : (x == ("__debug__" : Str)) = false := by decide) : PHs X (.ExceptHandler (some (.Name x np)) (some n) (b₀ :: suite) pos :: rest) (tHandAs X.K C i ts tr) := by
  intro pins s σ H D ea cls dx F h
  obtain ⟨C', b, rfl, hm, q⟩ := h
  obtain ⟨vs, sl, he⟩ := F.obj
  have I := F.inv
  refine wpAny_handleBy_cons (codeAny_handlers_test ?_) (by intro z; cases z)
  refine ld_glob (X := X.hd ea) (I.toHd ea) hg O.bound ?_ hdb
  refine exc_match I.kIn O he hm ?_
  cases b with
  | true =>
    rw [if_pos rfl] at q
    refine codeAny_handlers_suite_as (F.land fun s' I' => ?_)
    refine store_ok (v := .ref ea) I' hN hi (.inl hk) rfl (fun s3 I3 => ?_) (.inr hk)
    refine wpAny_mono (hs ea pins s3 _ _ (gone i D) (I3.toHd ea) q) (fun f s4 z => ?_) (fun _ _ z => z.elim)
    cases f with
    | next => obtain ⟨σ4, H4, I4, z⟩ := z; exact unbind_ok (I4.ofHd I.ok) hN hi hk fun s5 I5 => ⟨_, _, I5, z⟩
    | brk => obtain ⟨σ4, H4, I4, z⟩ := z; exact unbind_ok (I4.ofHd I.ok) hN hi hk fun s5 I5 => ⟨_, _, I5, z⟩
    | cont => obtain ⟨σ4, H4, I4, z⟩ := z; exact unbind_ok (I4.ofHd I.ok) hN hi hk fun s5 I5 => ⟨_, _, I5, z⟩
    | ret u => obtain ⟨v, σ4, H4, I4, r, z⟩ := z; exact unbind_ok (I4.ofHd I.ok) hN hi hk fun s5 I5 => ⟨v, _, _, I5, r, z⟩
  | false =>
    rw [if_neg Bool.false_ne_true] at q
    exact hr pins s σ H D ea _ dx F q
abbrev XE := Value → Option Addr → St → Hp → Prop
def tTry (tb : XE → TS) (th : TH) : TS := fun D σ H => tb (fun c d σ' H' => ∀ ea, H' ea = none → th c d ea D σ' H') D σ H
theorem ps_try {body : List Stmt} {h₀ : ExceptHandler} {hs : List ExceptHandler} {pos : Pos} {tb : XE → TS} {th : TH} (hst : X.stack = X.env :: X.outer) (hf : X.env.frame = some X.env.locals)
    (hb : ∀ xe pn EE, Thr (X.tr xe pn) EE → PSs (X.tr xe pn) body (tb EE)) (hh : PHs X (h₀ :: hs) th) : PS X (.Try body (h₀ :: hs) [] [] pos) (tTry tb th) := by
  intro pins s σ H D I h
  refine wpAny_Try_except ?_
  have fr : X.A.frames = some (X.env :: X.outer) := by rw [← hst]; exact I.ok.frames
  generalize hxe : (fun (e : Value) (s1 : Shared) => wpAny (model X.prog X.w) X.A (noteFrame e X.env) (fun _ s2 => wpAny (model X.prog X.w) X.A (setFlight e none) (fun _ s3 => wpAny (model X.prog X.w) X.A (handleBy e X.env (h₀ :: hs)) (SP X pins D) X.xe s3) X.xe s2) X.xe s1) = xe
  have fin : ∀ (pins' : List (Addr × Obj)) (σ' : St) (H2 H' : Hp) (s2 s' : Shared) (ea : Addr) (cls : Value) (dx : Option Addr) (B h4 : Heap), Inv (X.tr xe (X.pn ++ pins)) pins' σ' H2 s2 → s'.os = s2.os → AllBare s'.gens → Un (frs X.stack) [] H2 H' s2.heap s'.heap → HOk X.prog X.w H' s'.heap →
      Old (frs X.stack) H2 s2.heap B → Tra H' s'.heap B → Sea B X.stack ea h4 → XTr h4 B ea cls dx .none → s'.heap.UpToSlots h4 → (∀ ea, H' ea = none → th cls dx ea D σ' H') →
      wpAny (model X.prog X.w) X.A (handleBy (.ref ea) X.env (h₀ :: hs)) (SP X pins D) X.xe { s' with heap := h4 } := by
    intro pins' σ' H2 H' s2 s' ea cls dx B h4 I2 os bare un hok old tra S4 O4 u4 q
    have I3 := I2.ofTr I.ok
    refine hh pins _ σ' H' D ea cls dx ⟨s2, H2, B, I3, os, bare, un_flown un old S4.stays u4 (frames_are I3 un), hok_flown hok tra S4.stays, S4, O4, old, tra.later S4.stays⟩ (q ea ?_)
    cases z : H' ea with
    | none => rfl
    | some o =>
      obtain ⟨u, _, e⟩ := tra ea o z
      rw [S4.new] at e; cases e
  have T : Thr (X.tr xe (X.pn ++ pins)) (fun c d σ' H' => ∀ ea, H' ea = none → th c d ea D σ' H') := by
    constructor
    · rintro pins' σ' H2 s2 e s' I2 ⟨ea, cls, dx, B, H', rfl, os, bare, un, hok, sea, tr, old, tra, q⟩
      show xe (.ref ea) s'
      rw [← hxe]
      have sea' : Sea B (X.env :: X.outer) ea s'.heap := by rw [← hst]; exact sea
      refine note_on fr hf sea' tr fun h3 S3 O3 u3 => flight_off (s := { s' with heap := h3 }) S3 O3 fun h4 S4 O4 u4 => ?_
      exact fin pins' σ' H2 H' s2 s' ea cls dx B h4 I2 os bare un hok old tra (by rw [hst]; exact S4) O4 (u3.trans u4) q
    · rintro pins' σ' H2 s2 e s' I2 ⟨ea, cls, dx, B, H', rfl, os, bare, un, hok, sea, tr, old, tra, q⟩
      show xe (.ref ea) s'
      rw [← hxe]
      have sea' : Sea B (X.env :: X.outer) ea s'.heap := by rw [← hst]; exact sea
      refine note_new fr hf sea' tr fun h3 S3 O3 u3 => flight_off (s := { s' with heap := h3 }) S3 O3 fun h4 S4 O4 u4 => ?_
      exact fin pins' σ' H2 H' s2 s' ea cls dx B h4 I2 os bare un hok old tra (by rw [hst]; exact S4) O4 (u3.trans u4) q
  refine wpAny_mono (hb xe _ _ T [] s σ H D (I.toTr xe) h) (fun f s1 z => ?_) (fun e s1 z => ?_)
  · have z' : SP X pins D f s1 := z.re fun _ _ J => J.ofTr I.ok
    cases f with
    | next => exact wpAny_execs_nil z'
    | brk => exact z'
    | cont => exact z'
    | ret u => exact z'
  · exact z
end
end L2

set_option Elab.async false
set_option linter.all false
set_option maxRecDepth 100000
set_option maxHeartbeats 4000000
namespace L2
open PySem PySem.Spec PyProof.Rows
section
variable {prog : Program} {w : World} {A : Around} {E : Value → Shared → Prop} {s : Shared} {K : PySem.W.Frag} {x D : Addr} {ox : Obj} {odo : Option Obj} {name : Str}
/-- what the class of an exception must have of the text -/
structure XGet (K : PySem.W.Frag) (D : Addr) : Prop where
  ga : PySem.W.findIn K (.ref D) "__getattribute__" = some (some (.builtin "BaseException.__getattribute__"))
  gk : PySem.W.findIn K (.ref D) "__getattr__" = some none
  be : PySem.W.mroIn K D (.type "BaseException") = some true
  ob : PySem.W.mroIn K D (.type "object") = some true
  ca : PySem.W.findIn K (.ref D) "__class__" = some (some (.builtin "object.__class__"))
  cl : (PySem.W.clsIn K D).isSome = true
  sp : PySem.W.specialIn K (.builtin "object.__class__") "__get__" = some (some (.builtin "getset_descriptor.__get__"))
  tk : PySem.W.takesIn K (.builtin "object.__class__") = some true
theorem xget_check {M : Model} {nv : Value} {Q : Unit → Shared → Prop} (KX : K.In s.heap) (I : PySem.W.InstAt s.heap x ox D odo) (G : XGet K D) (q : Q () s) : wpAny M A (checkBuiltinCall "BaseException.__getattribute__" ⟨[.ref x, nv], []⟩) Q E s := by
  have hk : builtinKind "BaseException.__getattribute__" = some .slot := by decide +kernel
  have hs : splitId "BaseException.__getattribute__" = some ("BaseException", "__getattribute__") := by decide +kernel
  have ha := F.args_bexc_ga (.ref x) nv
  obtain ⟨hh, g, d, t, os⟩ := s
  have L0 := I.type (M := M)
  have L1 := PySem.W.looks_mroIn (M := M) KX G.be
  simp only [checkBuiltinCall, hk, hs]
  repeat lk
  exact q
theorem xget_entryB {nv : Tok} {gv a : Value} {Q : Fin → Shared → Prop} (KX : K.In s.heap) (I : PySem.W.InstAt s.heap x ox D odo) (hf : PySem.W.findObj K D odo name = some (.bind gv a))
    (q : wpAny (model prog w) A (Builtin.ObjectAttr.bindTo gv a (.ref x) (.ref D)) Q E s) :
    wpAny (model prog w) A (Builtin.«object.__getattribute__» ⟨[.ref x, .str name nv], []⟩) Q E s := by
  obtain ⟨hh, g, d, t, os⟩ := s
  have L0 := I.type (M := model prog w)
  have L1 := PySem.W.looks_find (M := model prog w) KX I hf
  refine wpAny_bind (wpAny_pure (wpAny_bind (wpAny_pure (wpAny_bind (L0.at (wpAny_bind (L1.at ?_)))))))
  exact q
theorem xget_by {nv : Tok} {fill expr : Bool} {Q : Value → Shared → Prop} (KX : K.In s.heap) (I : PySem.W.InstAt s.heap x ox D odo) (G : XGet K D)
    (h : wpAny (model prog w) A.in1 (Builtin.«object.__getattribute__» ⟨[.ref x, .str name nv], []⟩) (fun fin s' => match fin with | .done (.ret v) => wpAny (model prog w) A (handedOut v) Q E s' | _ => False) (fun _ _ => False) s) :
    wpAny (model prog w) A (getAttrBy (.ref x) (.str name nv) fill expr) Q E s := by
  obtain ⟨hh, g, d, t, os⟩ := s
  have L0 := I.type (M := model prog w)
  have L1 := PySem.W.looks_findIn (M := model prog w) KX G.ga
  have L2 := PySem.W.looks_findIn (M := model prog w) KX G.gk
  have FX := F.excAttr_ValueError
  unfold getAttrBy
  refine wpAny_holding (wpAny_bind (L0.at (wpAny_bind (L1.at ?_))))
  have e0 : (Value.builtin "BaseException.__getattribute__" == Value.builtin "object.__getattribute__") = false := by decide +kernel
  have e1 : (onTheHeap (Value.ref D) && Value.builtin "BaseException.__getattribute__" == Value.builtin "object.__getattribute__") = false := by rw [e0]; rfl
  dsimp only
  rw [e1, if_neg Bool.false_ne_true]
  unfold getAttrByItsOwn hookBefore
  refine wpAny_bind ?_
  rw [if_pos (show onTheHeap (Value.ref D) = true from rfl)]
  refine L2.at ?_
  refine wpAny_bind (wpAny_attempt (wpAny_holding ?_))
  unfold callGetattribute
  rw [if_neg (by cases expr <;> decide)]
  unfold boundAndCalled
  rw [FX.ga.bind (.ref x)]
  refine wpAny_bind (wpAny_pure ?_)
  refine wpAny_call (codeAny_call_builtin FX.ga.plain F.entry_bexc_ga (xget_check KX I G ?_))
  refine wpAny_mono h (fun fin s' z => ?_) (fun _ _ z => z.elim)
  rcases fin with (_ | _ | _ | _) | _ <;> first | exact z | exact z.elim
theorem xget_class {Q : Option Value → Shared → Prop} (KX : K.In s.heap) (I : PySem.W.InstAt s.heap x ox D odo) (G : XGet K D) (hf : PySem.W.findObj K D odo "__class__" = some (.bind (.builtin "getset_descriptor.__get__") (.builtin "object.__class__")))
    (q : Q (some (.ref D)) { s with toks := s.toks + 1 }) : wpAny (model prog w) A (getAttr? (.ref x) "__class__") Q E s := by
  unfold getAttr? getAttrBy?
  refine wpAny_bind (wpAny_mkText (wpAny_bind (wpAny_attempt (xget_by (s := { s with toks := s.toks + 1 }) KX I G (xget_entryB (s := { s with toks := s.toks + 1 }) KX I hf ?_)))))
  show wpAny _ _ (holding [_] (call (.builtin "getset_descriptor.__get__") [.builtin "object.__class__", .ref x, .ref D]) >>= ret) _ _ _
  refine wpAny_bind (wpAny_holding (wpAny_call (PySem.W.class_get (s := { s with toks := s.toks + 1 }) KX I G.ob ?_)))
  refine wpAny_pure ?_
  show wpAny _ _ (handedOut _) _ _ _
  rw [PySem.W.handedOut_of rfl]
  exact wpAny_pure (wpAny_pure q)
theorem find_dataX {a g : Value} (hc : (PySem.W.clsIn K D).isSome = true) (ha : PySem.W.findIn K (.ref D) name = some (some a)) (hg : PySem.W.specialIn K a "__get__" = some (some g)) (ht : PySem.W.takesIn K a = some true) : PySem.W.findObj K D odo name = some (.bind g a) := by
  obtain ⟨cd, hcd⟩ := Option.isSome_iff_exists.mp hc
  unfold PySem.W.findObj
  rw [hcd, Option.bind_some, ha, Option.bind_some]; simp [hg, ht]
theorem kitx_exc (G : XGet K D) : PySem.W.KitX K (.ref x) (.ref D) (fun h => ∃ ox odo, PySem.W.InstAt h x ox D odo) where
  ty := fun _ _ _ ⟨ox, odo, I⟩ => I.type
  it := fun M h KX _ => by
    have hc := G.cl
    unfold PySem.W.clsIn at hc
    split at hc
    · rename_i c' d' cd' sl' ho
      intro A' Q' E' s' k q
      unfold isType loadHead
      exact wpAny_bind (wpAny_loadPart (k _ _ (KX _ _ ho)) (wpAny_pure q))
    · cases hc
  ne := fun h tp dd its n sl KX htp => by
    have hc := G.cl
    refine Bool.eq_false_iff.mpr fun q => ?_
    have e : D = tp := Value.ref.inj (beq_iff_eq.mp q)
    subst e
    unfold PySem.W.clsIn at hc
    split at hc
    · rename_i c' d' cd' sl' ho
      have z := (KX _ _ ho).symm.trans htp
      cases z
    · cases hc
  ca := fun {prog w A E Q s} KX ⟨ox, odo, I⟩ k => xget_class KX I G (find_dataX G.cl G.ca G.sp G.tk) k
end
/-- a class as a value -/
def clsV : V → Option Value
  | .ref c => some (.ref c)
  | .ty n => some (.type n)
  | _ => none
/-- the exception's dict, where it has one -/
def XDict (H : Hp) : Option Addr → Prop
  | none => True
  | some d => ∃ fs, H d = some (.xd fs)
def rIsiX (K : PySem.W.Frag) : List V → Hp → VK → Prop := fun xs H Q => ∃ a cv C c b dx, xs = [.ref a, cv] ∧ H a = some (ExcO a (.ref C) dx) ∧ XDict H dx ∧ XGet K C ∧ clsV cv = some c ∧ PySem.W.kitOne K (.ref C) c = some b ∧ Q (.bl b) H
section
variable {X : Cx}
theorem call_isiX : CallR X (.builtin "isinstance") (rIsiX X.K) := by
  intro pins s σ H xs us Q I r h
  obtain ⟨a, cv, C, c, b, dx, rfl, hH, hd, G, hc, e, q⟩ := h
  obtain ⟨u, w', rfl, r1, r2⟩ := vals2 r
  cases (show u = Value.ref a from r1)
  have hw : w' = c := by
    cases cv with
    | ref c' => cases hc; exact r2
    | ty n => cases hc; exact r2
    | _ => cases hc
  subst hw
  obtain ⟨⟨vs, sl, ho⟩, _⟩ := (show ObjOk X.prog X.w H s.heap a (ExcO a (.ref C) dx) from I.hok a _ hH)
  have J : ∃ ox odo, PySem.W.InstAt s.heap a ox C odo := by
    cases dx with
    | none => exact ⟨_, none, ho, rfl, rfl, trivial⟩
    | some d =>
      obtain ⟨fs, hd⟩ := hd
      obtain ⟨od, hod⟩ := (I.hok d _ hd).obj
      exact ⟨_, some od, ho, rfl, rfl, hod⟩
  exact PySem.W.kia_one (kitx_exc G) I.kIn J e (fun z => nomatch z) fun tk => ⟨.bl b, H, I.tok tk, rfl, q⟩
theorem rd_isiX {K : PySem.W.Frag} {a C : Addr} {cv : V} {c : Value} {b : Bool} {dx : Option Addr} {H : Hp} {Q : VK} (hH : H a = some (ExcO a (.ref C) dx)) (hd : XDict H dx) (G : XGet K C) (hc : clsV cv = some c) (e : PySem.W.kitOne K (.ref C) c = some b) (q : Q (.bl b) H) : rIsiX K [.ref a, cv] H Q :=
  ⟨a, cv, C, c, b, dx, rfl, hH, hd, G, hc, e, q⟩
end
end L2

set_option Elab.async false
set_option linter.all false
set_option maxRecDepth 100000
set_option maxHeartbeats 4000000
namespace L2
open PySem PySem.Spec PyProof.Rows
structure RoomN (k : Nat) (A : Around) : Prop where
  dp : A.depth + 3 * k + 5 < recursionLimit
  un : A.units + 16 * k + 200 < cLine
  gd : A.guards = some []
theorem RoomN.mono {j k : Nat} {A : Around} (r : RoomN k A) (h : j ≤ k) : RoomN j A := ⟨by have := r.dp; omega, by have := r.un; omega, r.gd⟩
theorem RoomN.deeper {k : Nat} {A : Around} (r : RoomN (k + 1) A) (env : Env) : RoomN k (A.deeper env) :=
  ⟨by have := r.dp; show A.depth + 1 + 3 * k + 5 < _; omega, by have := r.un; show A.units + 3 + 16 * k + 200 < _; omega, r.gd⟩
theorem Room.marked {k : Nat} {A : Around} (r : Room k A) (e : Option Value) : RoomN k (A.mark e) := ⟨r.dp, r.un, r.gd⟩
theorem Room.toN {k : Nat} {A : Around} (r : Room k A) : RoomN k A := ⟨r.dp, r.un, r.gd⟩
theorem RoomN.depth {k : Nat} {A : Around} (r : RoomN k A) : A.depth < recursionLimit := by have := r.dp; omega
section
variable {P : Program} {w : World} {K : PySem.W.Frag} {mg : Str → Option Value} {base : Heap}
end
section
variable {X : Cx}
end
theorem has_cls {K : PySem.W.Frag} {C : Addr} (h : PySem.W.hasDictIn K C = true) : (PySem.W.clsIn K C).isSome = true := by
  obtain ⟨cd, e, _⟩ := PySem.W.any_some h
  rw [e]; rfl
theorem rel_ref (a : Addr) : RelV (.ref a) (.ref a) := rfl
theorem rd_callE {sp : Sp} {EE : XE} {t : TA} {σ : St} {H : Hp} {Q : VK} (h : t σ H fun vs H1 => sp (vs ++ []) H1 Q (fun c d H' => EE c d σ H')) : tCallE sp EE t σ H Q := h
theorem rd_raise {C : Addr} {EE : XE} {ta : TA} {D : Ends} {σ : St} {H : Hp} (h : ta σ H fun vs H1 => vs.length ≤ sizeLine ∧ EE (.ref C) none σ H1) : tRaise C EE ta D σ H := h
theorem rd_try {tb : XE → TS} {th : TH} {D : Ends} {σ : St} {H : Hp} (h : tb (fun c d σ' H' => ∀ ea, H' ea = none → th c d ea D σ' H') D σ H) : tTry tb th D σ H := h
theorem rd_handA {K : PySem.W.Frag} {C C' : Addr} {i : Nat} {ts : Addr → TS} {tr : TH} {dx : Option Addr} {ea : Addr} {D : Ends} {σ : St} {H : Hp} (hm : PySem.W.mroIn K C' (.ref C) = some true) (h : ts ea (gone i D) (σ.set i (some (.ref ea))) (upd H ea (ExcO ea (.ref C') dx))) : tHandAs K C i ts tr (.ref C') dx ea D σ H :=
  ⟨C', true, rfl, hm, by rw [if_pos rfl]; exact h⟩
theorem rd_handAN {K : PySem.W.Frag} {C C' : Addr} {i : Nat} {ts : Addr → TS} {tr : TH} {dx : Option Addr} {ea : Addr} {D : Ends} {σ : St} {H : Hp} (hm : PySem.W.mroIn K C' (.ref C) = some false) (h : tr (.ref C') dx ea D σ H) : tHandAs K C i ts tr (.ref C') dx ea D σ H :=
  ⟨C', false, rfl, hm, by rw [if_neg Bool.false_ne_true]; exact h⟩
section
variable {X : Cx}
end
end L2

set_option Elab.async false
set_option linter.all false
set_option maxRecDepth 100000
set_option maxHeartbeats 4000000
namespace L2
open PySem PySem.Spec PyProof.Rows
section
variable {prog : Program} {w : World} {A : Around} {E : Value → Shared → Prop} {h : Heap} {g : Array GenState} {d : Drawn} {t : Nat} {os : OsState} {K : PySem.W.Frag} {f : Addr}
variable {nm q : Str} {C N : Addr} {bs bm : List Value} {hdct : Bool} {sn : List Str} {sub : List Value} {ab : Bool} {col : Option Bool} {dd : Option Addr} {k0 k1 k2 k3 k5 : Option Value}
end
end L2

set_option Elab.async false
set_option linter.all false
set_option maxRecDepth 100000
set_option maxHeartbeats 4000000
namespace L2
open PySem PySem.Spec PyProof.Rows
section
variable {prog : Program} {w : World} {A : Around} {E : Value → Shared → Prop} {h : Heap} {g : Array GenState} {d : Drawn} {t : Nat} {os : OsState} {K : PySem.W.Frag} {e : Addr}
variable {nm q : Str} {C N : Addr} {bs bm : List Value} {hdct : Bool} {sn : List Str} {sub : List Value} {ab : Bool} {col : Option Bool} {dd : Option Addr} {k0 k1 k2 k3 k5 : Option Value} {newId : String}
variable {x CF : Addr} {cd : ClassData} {name : Str} {v : Value} {vs : Array Value} {sl : Array (Option Value)}
end
end L2

set_option Elab.async false
set_option linter.all false
set_option maxRecDepth 100000
set_option maxHeartbeats 4000000
namespace L2
open PySem PySem.Spec PyProof.Rows
structure XOwn (K : PySem.W.Frag) (C CF : Addr) : Prop where
  obj : ∃ dd cd k0 k1 k2 k3 k5, K.lookup C = some ⟨.type "type", dd, .cls cd, #[k0, k1, k2, k3, some (.builtin "ValueError.__new__"), k5]⟩ ∧ cd.mro = .ref C :: .ref CF :: bmV ∧ cd.hasDel = false ∧ cd.hasDict = true
  base : PySem.W.excIn K CF bmV "ValueError.__new__" = true
  sa : PySem.W.findIn K (.ref C) "__setattr__" = some (some (.builtin "object.__setattr__"))
section
variable {K : PySem.W.Frag} {C CF : Addr} {h : Heap}
theorem XOwn.cls (O : XOwn K C CF) : ∃ cd, PySem.W.clsIn K C = some cd ∧ cd.mro = .ref C :: .ref CF :: bmV ∧ cd.hasDict = true := by
  obtain ⟨dd, cd, k0, k1, k2, k3, k5, e, m, _, hd⟩ := O.obj
  refine ⟨cd, ?_, m, hd⟩
  unfold PySem.W.clsIn
  rw [e]
theorem XOwn.tail (O : XOwn K C CF) (KX : K.In h) : OwnTail h bmV (.ref CF :: bmV) := by
  obtain ⟨tl, N, nm, qn, bs, hd, sn, sub, ab, col, dd, k0, k1, k2, k3, k5, mN, hC, hN, hni, TL⟩ := exc_cls KX O.base
  exact .own hC hN hni .base
theorem XOwn.at (O : XOwn K C CF) (KX : K.In h) : ∃ N nm qn bs hd sn sub ab col dd k0 k1 k2 k3 k5, h.get? C = some (excClassObj nm qn C N bs (.ref CF :: bmV) hd sn sub ab col dd k0 k1 k2 k3 k5 "ValueError.__new__") := by
  obtain ⟨dd, cd, k0, k1, k2, k3, k5, e, m, hdel, hd⟩ := O.obj
  obtain ⟨nm, bs, mro, ns, qn, hd, sn, sub, ab, col, del⟩ := cd
  dsimp only at m hdel
  subst m hdel
  exact ⟨_, _, _, _, _, _, _, _, _, _, _, _, _, _, _, KX _ _ e⟩
end
/-- a new exception at a, tracked: its class and its dict; it has not been raised -/
def ExcN (a : Addr) (cls : Value) (dx : Option Addr) : HO := .ext fun h => ∃ vs sl t1, h.get? a = some ⟨cls, dx, .fields vs, sl⟩ ∧ vs[0]? = some (.ref t1) ∧ vs[1]? = some .none
section
variable {X : Cx} {pins : List (Addr × Obj)} {σ : St} {H : Hp} {s : Shared} {h' : Heap}
def sXF1 (K : PySem.W.Frag) (ta tv : TE) (f : Str) : TS := fun D σ H => tv σ H fun y H1 => ta σ H1 fun x H2 => ∃ a C CF, x = .ref a ∧ H2 a = some (ExcN a (.ref C) none) ∧ XOwn K C CF ∧ PySem.W.findIn K (.ref C) f = some none ∧
  ∀ d, H2 d = none → D.nx σ (upd (upd H2 d (.xd [(f, y)])) a (ExcN a (.ref C) (some d)))
def sXF2 (K : PySem.W.Frag) (ta tv : TE) (f : Str) : TS := fun D σ H => tv σ H fun y H1 => ta σ H1 fun x H2 => ∃ a C CF d fs, x = .ref a ∧ H2 a = some (ExcN a (.ref C) (some d)) ∧ H2 d = some (.xd fs) ∧ fs.length ≤ 900 ∧ XOwn K C CF ∧ PySem.W.findIn K (.ref C) f = some none ∧
  D.nx σ (upd H2 d (.xd (putF f y fs)))
variable {o value : Expr} {f : Str} {pos pos' : Pos} {ta tv : TE}
def tXI (K : PySem.W.Frag) (t : TA) : TE := fun σ H Q => t σ H fun vs H1 => ∃ a C CF dx rest, vs = .ref a :: rest ∧ H1 a = some (ExcN a (.ref C) dx) ∧ XOwn K C CF ∧ rest.length ≤ sizeLine ∧ Q .non H1
end
section
variable {M : Model} {A : Around} {E : Value → Shared → Prop}
end
end L2

set_option Elab.async false
set_option linter.all false
set_option maxRecDepth 100000
set_option maxHeartbeats 4000000
namespace L2
open PySem PySem.Spec PyProof.Rows
section
variable {X : Cx} {EE : Value → Option Addr → St → Hp → Prop}
end
end L2

set_option Elab.async false
set_option linter.all false
set_option maxRecDepth 100000
set_option maxHeartbeats 4000000
namespace L2
open PySem PySem.Spec PyProof.Rows
def intT (i : Int) : Str := Str.ofString (toString i)
def shI (is : List Int) : Str := tupleText (is.map intT)
/-- the text that an f-string makes of a value -/
inductive FmtV (K : PySem.W.Frag) (H : Hp) : V → Str → Prop
  | int {i : Int} : i.natAbs.log2 < 1920 → FmtV K H (.int i) (intT i)
  | str {z : Str} : z.length ≤ sizeLine → FmtV K H (.str z) z
  | tup {a : Addr} {is : List Int} : SqT K H a (is.map V.int) → (∀ i ∈ is, i.natAbs.log2 < 1920) → (shI is).length ≤ sizeLine → FmtV K H (.ref a) (shI is)
theorem shownAll_ints : ∀ is : List Int, PyData.shownAll (is.map PyData.int) = is.map intT
  | [] => by simp [PyData.shownAll]
  | i :: is => by simp only [List.map_cons, PyData.shownAll, PyData.shown, shownAll_ints is]; rfl
theorem showableAll_ints : ∀ is : List Int, (∀ i ∈ is, i.natAbs.log2 < 1920) → PyData.showableAll (is.map PyData.int) = true
  | [], _ => by simp [PyData.showableAll]
  | i :: is, h => by
    simp only [List.map_cons, PyData.showableAll, PyData.showable, showableAll_ints is fun j hj => h j (List.mem_cons_of_mem _ hj), Bool.and_true, decide_eq_true_eq]
    exact h i (List.mem_cons_self ..)
theorem hasDictAll_ints : ∀ is : List Int, PyData.hasDictAll (is.map PyData.int) = false
  | [] => by simp [PyData.hasDictAll]
  | i :: is => by simp only [List.map_cons, PyData.hasDictAll, PyData.hasDict, hasDictAll_ints is, Bool.or_self]
theorem depthAll_ints : ∀ is : List Int, PyData.depthAll (is.map PyData.int) ≤ 1
  | [] => by simp [PyData.depthAll]
  | i :: is => by
    have := depthAll_ints is
    simp only [List.map_cons, PyData.depthAll, PyData.depth]
    omega
theorem readsAll_ints {h : Heap} : ∀ {is : List Int} {us : List Value}, Vals (is.map V.int) us → ReadsAll h us (is.map PyData.int) []
  | [], _, .nil => .nil
  | i :: is, _, .cons r t => by
    obtain ⟨tk, rfl⟩ := (show ∃ tk, _ = Value.int i tk from r)
    exact .cons (as := []) (bs := []) (.int i tk) (readsAll_ints t)
section
variable {X : Cx} {pins : List (Addr × Obj)} {σ : St} {H : Hp} {s : Shared}
theorem fmt_ok {k : Nat} {x : V} {u : Value} {y : Str} {Q : VK} (hr : RoomN k X.A) (I : Inv X pins σ H s) (r : RelV x u) (f : FmtV X.K H x y) (q : Q (.str y) H) : wpAny (model X.prog X.w) X.A (formatField u Str.empty) (EP X pins σ Q) X.xe s := by
  cases f with
  | int h =>
    obtain ⟨t, rfl⟩ := (show ∃ t, u = Value.int _ t from r)
    exact wpAny_formatField_int h ⟨.str (intT _), H, I.tok _, ⟨_, rfl⟩, q⟩
  | str h =>
    obtain ⟨t, rfl⟩ := (show ∃ t, u = Value.str y t from r)
    exact wpAny_formatField_str ⟨.str y, H, I, ⟨_, rfl⟩, q⟩ ⟨.str y, H, I.tok _, ⟨_, rfl⟩, q⟩ h
  | @tup a is hs hi hz =>
    cases (show u = Value.ref a from r)
    obtain ⟨its, vr, ⟨o, ho, hc, n, hd⟩, hl⟩ := I.tuple hs
    have rd : Reads s.heap (.ref a) (.tuple (is.map PyData.int)) [] := .tuple ho hc hd (readsAll_ints vr)
    have e : (PyData.tuple (is.map PyData.int)).shown = shI is := by simp only [PyData.shown, shownAll_ints]; rfl
    have hdp : (PyData.tuple (is.map PyData.int)).depth ≤ 3 := by
      have := depthAll_ints is
      simp only [PyData.depth]
      omega
    refine formatField_of_reads rd (by simp only [PyData.showable]; exact showableAll_ints is hi) (PyData.noDict_hsm (by simp only [PyData.hasDict]; exact hasDictAll_ints is)) hr.gd (by have := hr.un; omega) (fun _ _ z => z) (fun h' u tk hk => ?_) (by rw [e]; exact hz)
    rw [e]
    exact ⟨.str (shI is), H, I.kept hk, ⟨_, rfl⟩, q⟩
end
def tFmt (K : PySem.W.Frag) (tv : TE) : TE := fun σ H Q => tv σ H fun x H1 => ∃ y, FmtV K H1 x y ∧ Q (.str y) H1
abbrev TJ := Str → St → Hp → VK → Prop
def PJ (X : Cx) (es : List Expr) (t : TJ) : Prop := ∀ (pins : List (Addr × Obj)) (s : Shared) (σ : St) (H : Hp) (out : Str) (Q : VK), Inv X pins σ H s → t out σ H Q → wpAny (model X.prog X.w) X.A (joinParts out (evalEach es X.env)) (EP X pins σ Q) X.xe s
def jNil : TJ := fun out _ H Q => out.length ≤ sizeLine ∧ Q (.str out) H
def jCons (te : TE) (t : TJ) : TJ := fun out σ H Q => te σ H fun x H1 => ∃ y, x = .str y ∧ (out ++ y).length ≤ sizeLine ∧ t (out ++ y) σ H1 Q
def tJoin (t : TJ) : TE := fun σ H Q => t Str.empty σ H Q
section
variable {X : Cx} {k : Nat} {e e₂ : Expr} {es : List Expr} {te : TE} {t : TJ} {pos : Pos}
theorem pe_fmt (hr : RoomN k X.A) (h : PE X e te) : PE X (.FormattedValue e (-1) none pos) (tFmt X.K te) := by
  intro pins s σ H Q I hw
  refine FormattedValue_plain (thn (h pins s σ H _ I hw) fun u s1 ⟨x, H1, I1, r, y, f, q⟩ => ?_)
  exact fmt_ok hr I1 r f q
theorem pj_nil : PJ X [] jNil := fun pins s σ H out Q I h => joinParts_nil ⟨.str out, H, I.tok _, ⟨_, rfl⟩, h.2⟩ h.1
theorem pj_cons (h1 : PE X e te) (h2 : PJ X es t) : PJ X (e :: es) (jCons te t) := by
  intro pins s σ H out Q I h
  show wpAny _ _ (joinParts out (eval e X.env :: evalEach es X.env)) _ _ _
  refine joinParts_cons (thn (h1 pins s σ H _ I h) fun u s1 ⟨x, H1, I1, r, y, ex, hz, q⟩ => ?_)
  subst ex
  obtain ⟨tk, rfl⟩ := (show ∃ tk, u = Value.str y tk from r)
  exact ⟨hz, h2 pins s1 σ H1 (out ++ y) Q I1 q⟩
theorem pe_join (h : PJ X (e :: e₂ :: es) t) : PE X (.JoinedStr (e :: e₂ :: es) pos) (tJoin t) := fun pins s σ H Q I hw => JoinedStr_many (h pins s σ H Str.empty Q I hw)
end
def tXGet (K : PySem.W.Frag) (ta : TE) (f : Str) : TE := fun σ H Q => ta σ H fun x H1 => ∃ a C d fs v, x = .ref a ∧ H1 a = some (ExcO a (.ref C) (some d)) ∧ H1 d = some (.xd fs) ∧ XGet K C ∧ PySem.W.hasDictIn K C = true ∧ PySem.W.findIn K (.ref C) f = some none ∧ fs.lookup f = some v ∧ Q v H1
section
variable {X : Cx} {e : Expr} {f : Str} {pos : Pos} {ta : TE}
end
end L2

set_option Elab.async false
set_option linter.all false
set_option maxRecDepth 100000
set_option maxHeartbeats 4000000
namespace L2
open PySem PySem.Spec PyProof.Rows
section
variable {X : Cx} {EE : Value → Option Addr → St → Hp → Prop}
structure CalM (P : Program) (w : World) (K : PySem.W.Frag) (mg : Str → Option Value) (base : Heap) (CX : CXT) (k : Nat) (C : Addr) (m : Str) (ps : List Str) (sp : Sp) : Prop where
  ex : ∃ (f : Addr) (fd : FuncData), FnOk P w K mg base CX k f fd ps sp ∧ Binds K fd ps [] ∧ Meth K C m f
structure CalI (P : Program) (w : World) (K : PySem.W.Frag) (mg : Str → Option Value) (base : Heap) (CX : CXT) (k : Nat) (x : Str) (C : Addr) (ps : List Str) (sp : Sp) : Prop where
  ex : ∃ (f : Addr) (fd : FuncData), FnOk P w K mg base CX k f fd ps sp ∧ Binds K fd ps [] ∧ Mk K C f ∧ mg x = some (.ref C)
variable {C : Addr} {m x : Str} {k : Nat} {ps : List Str} {sp : Sp} {o e : Expr} {es : List Expr} {ta : TE} {t : TA} {apos pos p : Pos}
theorem pe_mcal {pl : Sem Bool} (O : CalM X.prog X.w X.K X.mg X.base CX0 k C m ps sp) (c : Cls X.K C) (hr : Room k X.A) (he : PE X o ta) (ha : PA X (e :: es) t)
    (hst : starEach (e :: es) X.env = (false, eval e X.env) :: starEach es X.env := by rfl) (hpl : (backTo pos (starEach es X.env)).any (·.1) = false := by rfl)
    (ht : eval (.Call (.Attribute o m apos) (e :: es) [] pos) X.env = (do
      let ov ← eval o X.env
      standAt apos.atName
      let (f, first) ← holding [ov] (getMethod ov m pl)
      callWith pos f first (backTo pos (starEach (e :: es) X.env)) (backToKw pos (keywordEach [] X.env))) := by rfl) :
    PE X (.Call (.Attribute o m apos) (e :: es) [] pos) (tMeth C m sp [] E0 ta t) := by
  obtain ⟨f, fd, F, hb, M⟩ := O.ex
  exact pe_meth (pl := pl) he c M F hr hb .nil pass0 ha hst hpl ht
/-- o.m(..) that may raise -/
def tMethE (C : Addr) (m : Str) (sp : Sp) (EE : Value → Option Addr → St → Hp → Prop) (ta : TE) (t : TA) : TE := fun σ H Q => ta σ H fun x H1 => ∃ a dx fs, x = .ref a ∧ H1 a = some (.ins C dx fs) ∧ fs.lookup m = none ∧
  t σ H1 fun vs H2 => sp (x :: (vs ++ [])) H2 Q (fun c d H' => EE c d σ H')
def tMakeE (C : Addr) (sp : Sp) (EE : Value → Option Addr → St → Hp → Prop) (t : TA) : TE := fun σ H Q => t σ H fun vs H1 => ∀ x dx, H1 x = none → H1 dx = none → dx ≠ x →
  sp (.ref x :: (vs ++ [])) (upd (upd H1 dx (.own x)) x (.ins C dx [])) (fun v H2 => v = .non ∧ Q (.ref x) H2) (fun c d H' => EE c d σ H')
theorem pe_mkE (T : Thr X EE) (O : CalI X.prog X.w X.K X.mg X.base (CX1 X.prog X.w) k x C ps sp) (hr : Room (k + 1) X.A) (hg : Gl X x) (ha : PA X (e :: es) t)
    (hdb : (x == ("__debug__" : Str)) = false := by decide) (he : starEach (e :: es) X.env = (false, eval e X.env) :: starEach es X.env := by rfl) (hpl : (backTo pos (starEach es X.env)).any (·.1) = false := by rfl) :
    PE X (.Call (.Name x p) (e :: es) [] pos) (tMakeE C sp EE t) := by
  intro pins s0 σ H0 Q I0 h0
  obtain ⟨f, fd, F, hb, M, hm⟩ := O.ex
  refine wpAny_Call_Name_kw (ld_glob I0 hg hm ?_ hdb)
  refine PySem.W.callWith_K (h₀ := X.base) I0.ok.mod.kin M.kp (thn (ha pos pins s0 σ H0 _ I0 h0) fun us s ⟨vs, H, I, r, h⟩ => ⟨I.kIn, ?_⟩) he hpl
  have hq := h (s.heap.objs.size + 1) s.heap.objs.size (I.hok.fresh (Nat.le_succ _)) (I.hok.fresh (Nat.le_refl _)) (Nat.ne_of_lt (Nat.lt_succ_self _))
  have I2 := Inv.made (C := C) I
  have r2 : Vals (V.ref (s.heap.objs.size + 1) :: (vs ++ [])) (Value.ref (s.heap.objs.size + 1) :: (us ++ [])) := .cons rfl (r.append .nil)
  have hl : (Value.ref (s.heap.objs.size + 1) :: us ++ []).length = ps.length := by
    have e := r2.length
    rw [F.len _ _ _ _ hq] at e
    exact e.symm
  have hb2 : BindsTo _ fd ⟨Value.ref (s.heap.objs.size + 1) :: us, []⟩ (ps.zip (Value.ref (s.heap.objs.size + 1) :: (us ++ []))) := hb _ (Value.ref (s.heap.objs.size + 1) :: us) I2.kIn hl
  show wpAny _ _ (call (.ref C) us) _ _ _
  refine wpAny_call (make_map (f := f) I.kIn M.makes M.init (beq_iff_eq.mp M.fn) (codeAny_mono (F.run _ X.stack _ _ ⟨Value.ref (s.heap.objs.size + 1) :: us, []⟩ (Value.ref (s.heap.objs.size + 1) :: (us ++ [])) _ _ _ (hr.make C us [])
    (I2.env0.make C us []) hb2 r2 hq) fun r s' hq' => ?_))
  cases r with
  | error e => exact T.call pins σ _ _ e s' I2 hq'
  | ok fl =>
    cases fl with
    | ret u =>
      obtain ⟨v, H', I3, rv, ev, q3⟩ := I2.after hq'
      subst ev
      exact ⟨rv, ⟨V.ref (s.heap.objs.size + 1), H', I3, rfl, q3⟩⟩
    | next => exact False.elim hq'
    | brk => exact False.elim hq'
    | cont => exact False.elim hq'
end
end L2

set_option Elab.async false
set_option linter.all false
set_option maxRecDepth 100000
set_option maxHeartbeats 4000000
namespace L2
open PySem PySem.Spec PyProof.Rows
theorem intT_len {i : Int} (h : i.natAbs.log2 < 1920) : (intT i).length ≤ 1921 := by
  have e := int_text_length_le (k := 1920) (by decide) h
  unfold intT
  rw [PySem.ofString_length]; omega
theorem fits {s : Str} {n : Nat} (h : s.length ≤ n) (hn : n ≤ 100000) : s.length ≤ sizeLine := Nat.le_trans h (Nat.le_trans hn (by decide))
theorem rd_join {t : TJ} {σ : St} {H : Hp} {Q : VK} (h : t Str.empty σ H Q) : tJoin t σ H Q := h
theorem rd_jnil {out : Str} {σ : St} {H : Hp} {Q : VK} (h : out.length ≤ sizeLine) (q : Q (.str out) H) : jNil out σ H Q := ⟨h, q⟩
/-- a text in the braces -/
theorem rd_js {K : PySem.W.Frag} {j : Nat} {z : Str} {t : TJ} {out : Str} {σ : St} {H : Hp} {Q : VK} (n m : Nat) (hn : out.length ≤ n) (hm : z.length ≤ m) (hz : n + m ≤ 100000) (hv : σ[j]? = some (some (.str z))) (h : (out ++ z).length ≤ n + m → t (out ++ z) σ H Q) :
    jCons (tFmt K (tVar j)) t out σ H Q := by
  have e : (out ++ z).length ≤ n + m := by rw [strLen_append]; omega
  exact ⟨.str z, hv, z, .str (fits hm (by omega)), z, rfl, fits e hz, h e⟩
theorem rd_xinit {K : PySem.W.Frag} {t : TA} {σ : St} {H : Hp} {Q : VK} (h : t σ H fun vs H1 => ∃ a C CF dx rest, vs = .ref a :: rest ∧ H1 a = some (ExcN a (.ref C) dx) ∧ XOwn K C CF ∧ rest.length ≤ sizeLine ∧ Q .non H1) : tXI K t σ H Q := h
theorem rd_xf1 {K : PySem.W.Frag} {ta tv : TE} {f : Str} {D : Ends} {σ : St} {H : Hp} (h : tv σ H fun y H1 => ta σ H1 fun x H2 => ∃ a C CF, x = .ref a ∧ H2 a = some (ExcN a (.ref C) none) ∧ XOwn K C CF ∧ PySem.W.findIn K (.ref C) f = some none ∧
  ∀ d, H2 d = none → D.nx σ (upd (upd H2 d (.xd [(f, y)])) a (ExcN a (.ref C) (some d)))) : sXF1 K ta tv f D σ H := h
theorem rd_xf2 {K : PySem.W.Frag} {ta tv : TE} {f : Str} {D : Ends} {σ : St} {H : Hp} (h : tv σ H fun y H1 => ta σ H1 fun x H2 => ∃ a C CF d fs, x = .ref a ∧ H2 a = some (ExcN a (.ref C) (some d)) ∧ H2 d = some (.xd fs) ∧ fs.length ≤ 900 ∧ XOwn K C CF ∧ PySem.W.findIn K (.ref C) f = some none ∧
  D.nx σ (upd H2 d (.xd (putF f y fs)))) : sXF2 K ta tv f D σ H := h
theorem rd_xget {K : PySem.W.Frag} {ta : TE} {f : Str} {σ : St} {H : Hp} {Q : VK} (h : ta σ H fun x H1 => ∃ a C d fs v, x = .ref a ∧ H1 a = some (ExcO a (.ref C) (some d)) ∧ H1 d = some (.xd fs) ∧ XGet K C ∧ PySem.W.hasDictIn K C = true ∧ PySem.W.findIn K (.ref C) f = some none ∧ fs.lookup f = some v ∧ Q v H1) : tXGet K ta f σ H Q := h
end L2

set_option Elab.async false
set_option linter.all false
set_option maxRecDepth 100000
set_option maxHeartbeats 4000000
namespace L2
open PySem PySem.Spec PyProof.Rows
section
variable {X : Cx}
theorem rd_par {i j : Nat} {ta : TA} {D : Ends} {σ : St} {H : Hp} (h : ta σ H fun vs H1 => ∃ v w, vs = [v, w] ∧ D.nx ((σ.set i (some v)).set j (some w)) H1) : tPar i j ta D σ H := h
theorem rd_ifE {t : TT} {ta tb : TE} {σ : St} {H : Hp} {Q : VK} (h : t σ H fun c H1 => if c = true then ta σ H1 Q else tb σ H1 Q) : tIf t ta tb σ H Q := h
def rSum (K : PySem.W.Frag) : List V → Hp → VK → Prop := fun xs H Q => ∃ (p : Addr) (ns : List Int), xs = [.ref p] ∧ SqL K H p (ns.map V.int) ∧ Q (.int ns.sum) H
theorem call_sum (hc : X.calm = true) : CallR X (.builtin "sum") (rSum X.K) := by
  intro pins s σ H xs us Q I r h
  obtain ⟨p, ns, rfl, hq, q⟩ := h
  obtain ⟨u, rfl, ru⟩ := vals1 r
  cases (show u = Value.ref p from ru)
  obtain ⟨its, rv, pl, _⟩ := I.list hq
  have hi := intsAre_of rv
  obtain ⟨xs, hx⟩ := hi.allInts.items
  have hl' : s.heap.IsList p (intItems xs) := hx ▸ pl.isList
  refine sum_intListG (I.ok.hd hc) hl' fun h' tk t' hk => ?_
  have e1 : ns = xs.toList.map (·.1) := by
    rw [← nums_intItems, ← hx]
    exact (show numsOf its.toArray.toList = ns from hi.numsOf).symm
  have e2 : preSum (numAt xs) xs.size = ns.sum := by
    rw [preSum_eq, List.take_of_length_le (by simp), e1]
  rw [e2]
  exact ⟨.int ns.sum, H, I.kept hk, ⟨_, rfl⟩, q⟩
def rMinL (K : PySem.W.Frag) : List V → Hp → VK → Prop := fun xs H Q => ∃ (p : Addr) (ns : List Int), xs = [.ref p] ∧ SqL K H p (ns.map V.int) ∧ ns ≠ [] ∧ ∀ m, m ∈ ns → (∀ a ∈ ns, m ≤ a) → Q (.int m) H
def rMaxL (K : PySem.W.Frag) : List V → Hp → VK → Prop := fun xs H Q => ∃ (p : Addr) (ns : List Int), xs = [.ref p] ∧ SqL K H p (ns.map V.int) ∧ ns ≠ [] ∧ ∀ m, m ∈ ns → (∀ a ∈ ns, a ≤ m) → Q (.int m) H
theorem call_minL (hc : X.calm = true) : CallR X (.builtin "min") (rMinL X.K) := by
  intro pins s σ H xs us Q I r h
  obtain ⟨p, ns, rfl, hq, hne, q⟩ := h
  obtain ⟨u, rfl, ru⟩ := vals1 r
  cases (show u = Value.ref p from ru)
  obtain ⟨its, rv, pl, _⟩ := I.list hq
  have hi := intsAre_of rv
  obtain ⟨xs, e⟩ := hi.allInts.items
  have hns : ns = xs.toList.map (·.1) := by
    rw [← nums_intItems, ← e]
    exact (show numsOf its.toArray.toList = ns from hi.numsOf).symm
  have hsz : 0 < xs.size := by
    have h3 := List.length_pos_iff.mpr hne; rw [hns, List.length_map, Array.length_toList] at h3; exact h3
  have hl' : s.heap.IsList p (intItems xs) := e ▸ pl.isList
  refine min_intList (I.ok.hd hc) hl' hsz fun v h' tk hv hk => ?_
  obtain ⟨t, rfl⟩ := intItems_at hv
  obtain ⟨h1, h2⟩ := argBest_lt (numAt xs) (xs.size - 1)
  refine ⟨.int _, H, I.kept hk, ⟨_, rfl⟩, q _ ?_ fun a ha => ?_⟩
  · rw [hns, numAt_eq]; exact getD_mem (by rw [List.length_map, Array.length_toList]; omega)
  · rw [hns] at ha
    obtain ⟨j, hj, rfl⟩ := mem_getD ha
    rw [List.length_map, Array.length_toList] at hj
    rw [← numAt_eq]; exact h2 j (by omega)
theorem call_maxL (hc : X.calm = true) : CallR X (.builtin "max") (rMaxL X.K) := by
  intro pins s σ H xs us Q I r h
  obtain ⟨p, ns, rfl, hq, hne, q⟩ := h
  obtain ⟨u, rfl, ru⟩ := vals1 r
  cases (show u = Value.ref p from ru)
  obtain ⟨its, rv, pl, _⟩ := I.list hq
  have hi := intsAre_of rv
  obtain ⟨xs, e⟩ := hi.allInts.items
  have hns : ns = xs.toList.map (·.1) := by
    rw [← nums_intItems, ← e]
    exact (show numsOf its.toArray.toList = ns from hi.numsOf).symm
  have hsz : 0 < xs.size := by
    have h3 := List.length_pos_iff.mpr hne; rw [hns, List.length_map, Array.length_toList] at h3; exact h3
  have hl' : s.heap.IsList p (intItems xs) := e ▸ pl.isList
  refine max_intList (I.ok.hd hc) hl' hsz fun v h' tk hv hk => ?_
  obtain ⟨t, rfl⟩ := intItems_at hv
  obtain ⟨h1, h2⟩ := argBest_gt (numAt xs) (xs.size - 1)
  refine ⟨.int _, H, I.kept hk, ⟨_, rfl⟩, q _ ?_ fun a ha => ?_⟩
  · rw [hns, numAt_eq]; exact getD_mem (by rw [List.length_map, Array.length_toList]; omega)
  · rw [hns] at ha
    obtain ⟨j, hj, rfl⟩ := mem_getD ha
    rw [List.length_map, Array.length_toList] at hj
    rw [← numAt_eq]; exact h2 j (by omega)
end
section
variable {X : Cx} {M : List Str} {x : Str} {scope : Scope} {cl : List (Str × Addr)} {C : Addr} {s₀ : Shared} {H₀ : Hp} {fp : List Addr}
theorem ix_list_c : IxR (compCx X M x scope cl C s₀ H₀ fp) (rIxL X.K) := ix_list
theorem ix_tup_c : IxR (compCx X M x scope cl C s₀ H₀ fp) (rIxT X.K) := ix_tup
end
section
variable {X : Cx} {tg : Expr}
def iRng2A (ta : TA) : TI := fun σ H R => ta σ H fun vs H1 => ∃ i j : Int, vs = [.int i, .int j] ∧ R (Itr i (j - i).toNat) H1
theorem rd_rng2A {ta : TA} {σ : St} {H : Hp} {R : It → Hp → Prop} (h : ta σ H fun vs H1 => ∃ i j : Int, vs = [.int i, .int j] ∧ R (Itr i (j - i).toNat) H1) : iRng2A ta σ H R := h
end
end L2

set_option Elab.async false
set_option linter.all false
set_option maxRecDepth 100000
set_option maxHeartbeats 4000000
namespace L2
open PySem PySem.Spec PyProof.Rows
section
variable {X : Cx}
def rBits : V → List V → Hp → VK → Prop := fun x vs H Q => ∃ n : Int, x = .int n ∧ vs = [] ∧ Q (.int ((Builtin.Int.intBits n : Nat) : Int)) H
end
theorem rd_bitsV {K : PySem.W.Frag} {n : Int} {H : Hp} {Q : VK} (h : Q (.int ((Builtin.Int.intBits n : Nat) : Int)) H) : tyV K "int" (.int n) H ∧ rBits (.int n) [] H Q := ⟨rfl, n, rfl, rfl, h⟩
theorem rd_bm0 {K : PySem.W.Frag} {T : String} {r : V → List V → Hp → VK → Prop} {to : TE} {σ : St} {H : Hp} {Q : VK} (h : to σ H fun x H1 => tyV K T x H1 ∧ r x [] H1 Q) : tBM0 K T r to σ H Q := h
theorem rd_bm {K : PySem.W.Frag} {T : String} {r : V → List V → Hp → VK → Prop} {to : TE} {t : TA} {σ : St} {H : Hp} {Q : VK} (h : to σ H fun x H1 => tyV K T x H1 ∧ t σ H1 fun xs H2 => r x xs H2 Q) : tBM K T r to t σ H Q := h
theorem rd_gsub {to ti : TE} {t : TSet} {v : V} {σ : St} {H : Hp} {Q : St → Hp → Prop} (h : to σ H fun o H1 => ti σ H1 fun i H2 => t o i v H2 fun H3 => Q σ H3) : gSub to ti t v σ H Q := h
theorem rd_cat {l b : Addr} {xs zs : List V} {H : Hp} {Q : VK} (h : H l = some (.lst xs)) (g : H b = some (.lst zs)) (hz : xs.length + zs.length ≤ sizeLine) (q : ∀ p, H p = none → Q (.ref p) (upd H p (.lst (xs ++ zs)))) : rCat (.ref l) (.ref b) H Q :=
  ⟨l, b, xs, zs, rfl, rfl, h, g, hz, q⟩
def tTruI (ta : TE) : TT := fun σ H Q => ta σ H fun x H' => ∃ i : Int, x = .int i ∧ Q (i != 0) H'
theorem rd_truI {i : Int} {H : Hp} {Q : Bool → Hp → Prop} (h : Q (i != 0) H) : ∃ j : Int, V.int i = .int j ∧ Q (j != 0) H := ⟨i, rfl, h⟩
theorem rd_tru {ta : TE} {σ : St} {H : Hp} {Q : Bool → Hp → Prop} (h : ta σ H fun x H' => ∃ i : Int, x = .int i ∧ Q (i != 0) H') : tTruI ta σ H Q := h
section
variable {X : Cx} {M : List Str} {x : Str} {scope : Scope} {cl : List (Str × Addr)} {C : Addr} {s₀ : Shared} {H₀ : Hp} {fp : List Addr}
end
end L2

set_option Elab.async false
set_option linter.all false
set_option maxRecDepth 100000
set_option maxHeartbeats 4000000
namespace L2
open PySem PySem.Spec PyProof.Rows
theorem rd_slice {r : V → Option Int → Option Int → Hp → VK → Prop} {te : TE} {tl th : TO} {σ : St} {H : Hp} {Q : VK} (h : te σ H fun x H1 => tl σ H1 fun l H2 => th σ H2 fun u H3 => r x l u H3 Q) : tSl r te tl th σ H Q := h
theorem rd_slL {K : PySem.W.Frag} {a : Addr} {xs : List V} {lo hi : Option Int} {H : Hp} {Q : VK} (h : SqL K H a xs) (q : ∀ p, H p = none → Q (.ref p) (upd H p (.lst (cutV xs lo hi)))) : rSlL K (.ref a) lo hi H Q := ⟨a, xs, rfl, h, q⟩
theorem rd_part {t : TE} {σ : St} {H : Hp} {Q : Option Int → Hp → Prop} (h : t σ H fun x H1 => ∃ i, x = .int i ∧ Q (some i) H1) : tPart t σ H Q := h
theorem rd_exI {i : Int} {P : Int → Prop} (h : P i) : ∃ j, V.int i = .int j ∧ P j := ⟨i, rfl, h⟩
theorem rd_noPart {σ : St} {H : Hp} {Q : Option Int → Hp → Prop} (h : Q none H) : tNoPart σ H Q := h
end L2

set_option Elab.async false
set_option linter.all false
set_option maxRecDepth 100000
set_option maxHeartbeats 4000000
namespace L2
open PySem PySem.Spec PyProof.Rows
section
variable {X : Cx}
def tLR (ta : TA) : TE := fun σ H Q => ta σ H fun vs H1 => ∃ (i j c : Int) (n : Nat), (vs = [.int i, .int j, .int c] ∨ (vs = [.int i, .int j] ∧ c = 1)) ∧ 0 < c ∧ c < 1073741824 ∧ Builtin.Range.small i j c = true ∧ Builtin.Range.rangeSize i j c = (n : Int) ∧ n ≤ 1000000 ∧
  ∀ l, H1 l = none → Q (.ref l) (upd H1 l (.lst ((List.range n).map fun (k : Nat) => V.int (i + (k : Int) * c))))
end
theorem rd_lr {ta : TA} {σ : St} {H : Hp} {Q : VK} (h : ta σ H fun vs H1 => ∃ (i j c : Int) (n : Nat), (vs = [.int i, .int j, .int c] ∨ (vs = [.int i, .int j] ∧ c = 1)) ∧ 0 < c ∧ c < 1073741824 ∧ Builtin.Range.small i j c = true ∧ Builtin.Range.rangeSize i j c = (n : Int) ∧ n ≤ 1000000 ∧
  ∀ l, H1 l = none → Q (.ref l) (upd H1 l (.lst ((List.range n).map fun (k : Nat) => V.int (i + (k : Int) * c))))) : tLR ta σ H Q := h
end L2

set_option Elab.async false
set_option linter.all false
set_option maxRecDepth 100000
set_option maxHeartbeats 4000000
namespace L2
open PySem PySem.Spec PyProof.Rows
theorem comp_inv {J : It} {ok : Hp → Prop} {xs : List V} {σ : St} {H : Hp} {Q : VK} {tt : TT} {te : TE} (Wk : Walk J ok xs) (hz : xs.length < sizeLine) (Pv : Addr → Nat → List V → Hp → Prop)
    (h0 : ∀ D, H D = none → Pv D 0 [] (upd H D (.lst [])))
    (hD : ∀ D i ys H2, H D = none → Pv D i ys H2 → H2 D = some (.lst ys) ∧ ys.length ≤ i ∧ ok H2)
    (hs : ∀ D i x ys H2, H D = none → xs[i]? = some x → Pv D i ys H2 → tt (some x :: σ) H2 fun b H4 => if b = true then te (some x :: σ) H4 fun y H5 => H5 D = some (.lst ys) ∧ Pv D (i + 1) (ys ++ [y]) (upd H5 D (.lst (ys ++ [y]))) else Pv D (i + 1) ys H4)
    (h : ∀ D ys H2, H D = none → Pv D xs.length ys H2 → Q (.ref D) H2) : CompR tt te σ Q J H := by
  intro D hD0
  refine ⟨fun i m ys H2 => i ≤ xs.length ∧ m = xs.length - i ∧ Pv D i ys H2, ⟨_, Nat.zero_le _, rfl, h0 D hD0⟩, ?_⟩
  rintro i m ys H2 ⟨hi, rfl, p⟩
  obtain ⟨d1, d2, d3⟩ := hD D i ys H2 hD0 p
  refine ⟨d1, ?_⟩
  by_cases hlt : i < xs.length
  · refine .inr ⟨Wk.go i _ d3 hlt, by omega, xs.length - (i + 1), by omega, fun x H3 hy => ?_⟩
    obtain ⟨e3, ex⟩ := Wk.yld i _ x H3 d3 hy hlt
    subst e3
    have := hs D i x ys H3 hD0 ex p
    refine cast ?_ this
    congr 1
    funext b H4
    cases b with
    | false => simp only [Bool.false_eq_true, if_false]; exact propext ⟨fun z => ⟨hlt, trivial, z⟩, fun z => z.2.2⟩
    | true =>
      simp only [if_true]
      congr 1
      funext y H5
      exact propext ⟨fun z => ⟨z.1, hlt, trivial, z.2⟩, fun z => ⟨z.1, z.2.2.2⟩⟩
  · have e : i = xs.length := by omega
    subst e
    exact .inl ⟨Wk.stop _ _ d3 (Nat.le_refl _), h D ys H2 hD0 p⟩
end L2

set_option Elab.async false
set_option linter.all false
set_option maxRecDepth 100000
set_option maxHeartbeats 4000000
namespace L2
open PySem PySem.Spec PyProof.Rows
section
variable {X : Cx}
section
variable {prog : Program} {w : World} {A : Around} {R : Result → Shared → Prop}
end
end
end L2
namespace L2
open PySem PySem.Spec PyProof.Rows
theorem rd_fld {K : PySem.W.Frag} {ta : TE} {f : Str} {σ : St} {H : Hp} {Q : VK} (h : ta σ H fun x H1 => ∃ a C dx fs v, x = .ref a ∧ H1 a = some (.ins C dx fs) ∧ Cls K C ∧ NoAttr K C f ∧ fs.lookup f = some v ∧ Q v H1) : tFld K ta f σ H Q := h
theorem rd_sfld {K : PySem.W.Frag} {ta tv : TE} {f : Str} {D : Ends} {σ : St} {H : Hp} (h : tv σ H fun y H1 => ta σ H1 fun x H2 => ∃ a C dx fs, x = .ref a ∧ H2 a = some (.ins C dx fs) ∧ Cls K C ∧ NoAttr K C f ∧ fs.length < 1000 ∧ D.nx σ (upd H2 a (.ins C dx (putF f y fs)))) : sFld K ta tv f D σ H := h
theorem rd_meth {C : Addr} {m : Str} {sp : Sp} {ta : TE} {t : TA} {σ : St} {H : Hp} {Q : VK} (h : ta σ H fun x H1 => ∃ a dx fs, x = .ref a ∧ H1 a = some (.ins C dx fs) ∧ fs.lookup m = none ∧ t σ H1 fun vs H2 => sp (x :: (vs ++ [])) H2 Q E0) : tMeth C m sp [] E0 ta t σ H Q := h
end L2

set_option Elab.async false
set_option linter.all false
set_option maxRecDepth 100000
set_option maxHeartbeats 4000000
namespace L2
open PySem PySem.Spec PyProof.Rows
section
variable {X : Cx} {M xs : List Str} {scope : Scope} {cl : List (Str × Addr)} {C : Addr} {s₀ : Shared} {H₀ : Hp} {fp : List Addr}
end
end L2

set_option Elab.async false
set_option linter.all false
set_option maxRecDepth 100000
set_option maxHeartbeats 4000000
namespace L2
open PySem PySem.Spec PyProof.Rows
structure FunD (K : PySem.W.Frag) (x qual : Str) (st : Stmt) (f : Addr) (fd : FuncData) (ds : Array Value) : Prop where
  ex : ∃ (oc : Value) (od : Option Addr) (T : Addr) (to : Obj) (tn : Nat) (kV doc pm : Value) (an : Option Addr) (cdv ct : Value) (osl : Array (Option Value)),
    fd = PySem.W.fnOf x qual (defArgs st) (defBody st) (defScope st) (.ref T) kV doc pm an cdv ct ∧ K.lookup f = some ⟨oc, od, .func fd, osl⟩ ∧ PySem.W.codeIn K cdv qual = true ∧ K.lookup T = some to ∧ to.data = .seq ds tn
  kp : PySem.W.keepIn K (.ref f) = true
section
variable {P : Program} {w : World} {K : PySem.W.Frag} {mg : Str → Option Value} {base : Heap} {x qual : Str} {st : Stmt} {f : Addr} {fd : FuncData} {N ps : List Str} {k : Nat} {sp : Sp} {ds : Array Value}
theorem FunD.ok (F : FunD K x qual st f fd ds) (S : FnScope N ps (defScope st)) (len : ∀ vs H Q E, sp vs H Q E → vs.length = ps.length)
    (hbody : ∀ (cdv : Value) (A : Around) (outer : List Env) (s : Shared) (H : Hp) (vs : List V) (Q : VK) (E : XK), Room k (A.deeper (envOfC qual (defScope st) s.heap.objs.size f cdv)) → sp vs H Q E →
      ∃ t, PSs (cxOf CX0 P w K mg base N qual (defScope st) f cdv A outer s H E).nox (defBody st) t ∧ t { nx := fun _ H' => Q .non H', rt := Q } (start N vs) H) : FnOk P w K mg base CX0 (k + 1) f fd ps sp := by
  obtain ⟨oc, od, T, to, tn, kV, doc, pm, an, cdv, ct, osl, rfl, lk, hcd, _⟩ := F.ex
  refine fn_of lk hcd S len fun A outer s H vs Q E hr hsp => ?_
  obtain ⟨t, h, q⟩ := hbody cdv A outer s H vs Q E hr hsp
  exact ⟨t, h.nox, q⟩
theorem FunD.okE (F : FunD K x qual st f fd ds) (S : FnScope N ps (defScope st)) (len : ∀ vs H Q E, sp vs H Q E → vs.length = ps.length)
    (hbody : ∀ (cdv : Value) (A : Around) (outer : List Env) (s : Shared) (H : Hp) (vs : List V) (Q : VK) (E : XK), Room k (A.deeper (envOfC qual (defScope st) s.heap.objs.size f cdv)) → sp vs H Q E →
      Thr (cxOf (CX1 P w) P w K mg base N qual (defScope st) f cdv A outer s H E) (fun c d _ H' => E c d H') →
      ∃ t, PSs (cxOf (CX1 P w) P w K mg base N qual (defScope st) f cdv A outer s H E) (defBody st) t ∧ t { nx := fun _ H' => Q .non H', rt := Q } (start N vs) H) : FnOk P w K mg base (CX1 P w) (k + 1) f fd ps sp := by
  obtain ⟨oc, od, T, to, tn, kV, doc, pm, an, cdv, ct, osl, rfl, lk, hcd, _⟩ := F.ex
  exact fn_of lk hcd S len fun A outer s H vs Q E hr hsp => hbody cdv A outer s H vs Q E hr hsp thr_fn
theorem FunD.binds (F : FunD K x qual st f fd ds)
    (h : ∀ (T : Addr) (kV doc pm : Value) (an : Option Addr) (cdv ct : Value) (us : List Value), us.length = ps.length → bindArgs (PySem.W.fnOf x qual (defArgs st) (defBody st) (defScope st) (.ref T) kV doc pm an cdv ct) ⟨us, []⟩ = pure (ps.zip us)) : Binds K fd ps [] := by
  obtain ⟨oc, od, T, to, tn, kV, doc, pm, an, cdv, ct, osl, rfl, lk, hcd, _⟩ := F.ex
  exact .all (h T kV doc pm an cdv ct)
/-- fewer arguments than parameters: the last defaults fill up -/
theorem FunD.bindsD {dv : List Value} (n : Nat) (hn : n + dv.length = ps.length) (F : FunD K x qual st f fd ds)
    (h : ∀ (T : Addr) (kV doc pm : Value) (an : Option Addr) (cdv ct : Value) (us : List Value), us.length = n →
      ∃ k : Option (Array Value) → Sem (List (Str × Value)), bindArgs (PySem.W.fnOf x qual (defArgs st) (defBody st) (defScope st) (.ref T) kV doc pm an cdv ct) ⟨us, []⟩ = seqItems? (.ref T) >>= k ∧ k (some ds) = pure (ps.zip (us ++ dv))) : Binds K fd ps dv := by
  obtain ⟨oc, od, T, to, tn, kV, doc, pm, an, cdv, ct, osl, rfl, lk, hcd, ht, hs⟩ := F.ex
  intro s us KX hl
  obtain ⟨k, h1, h2⟩ := h T kV doc pm an cdv ct us (by rw [List.length_append] at hl; omega)
  exact PySem.W.binds_K KX rfl ht hs h1 h2
theorem fun_mkD {oc : Value} {od an : Option Addr} {osl : Array (Option Value)} {kV doc pm cdv ct : Value} {T : Addr} {to : Obj} {tn : Nat} (l : K.lookup f = some ⟨oc, od, .func (PySem.W.fnOf x qual (defArgs st) (defBody st) (defScope st) (.ref T) kV doc pm an cdv ct), osl⟩)
    (c : PySem.W.codeIn K cdv qual = true) (k : PySem.W.keepIn K (.ref f) = true) (t : K.lookup T = some to) (d : to.data = .seq ds tn) : FunD K x qual st f (PySem.W.fnOf x qual (defArgs st) (defBody st) (defScope st) (.ref T) kV doc pm an cdv ct) ds :=
  ⟨⟨oc, od, T, to, tn, kV, doc, pm, an, cdv, ct, osl, rfl, l, c, t, d⟩, k⟩
end
/-- a promise at fewer arguments -/
abbrev spD (dvs : List V) (sp : Sp) : Sp := fun us H Q E => sp (us ++ dvs) H Q E
structure CalD (P : Program) (w : World) (K : PySem.W.Frag) (mg : Str → Option Value) (base : Heap) (CX : CXT) (k : Nat) (x : Str) (ps : List Str) (dvs : List V) (sp : Sp) : Prop where
  ex : ∃ (f : Addr) (fd : FuncData) (ds : List Value), FnOk P w K mg base CX k f fd ps sp ∧ Binds K fd ps ds ∧ Vals dvs ds ∧ PySem.W.keepIn K (.ref f) = true ∧ mg x = some (.ref f)
structure CalID (P : Program) (w : World) (K : PySem.W.Frag) (mg : Str → Option Value) (base : Heap) (CX : CXT) (k : Nat) (x : Str) (C : Addr) (ps : List Str) (dvs : List V) (sp : Sp) : Prop where
  ex : ∃ (f : Addr) (fd : FuncData) (ds : List Value), FnOk P w K mg base CX k f fd ps sp ∧ Binds K fd ps ds ∧ Vals dvs ds ∧ Mk K C f ∧ mg x = some (.ref C)
section
variable {X : Cx} {EE : Value → Option Addr → St → Hp → Prop} {C : Addr} {m x : Str} {k : Nat} {ps : List Str} {dvs : List V} {sp : Sp} {o e : Expr} {es : List Expr} {ta : TE} {t : TA} {apos pos p : Pos}
theorem pe_mkED (T : Thr X EE) (O : CalID X.prog X.w X.K X.mg X.base (CX1 X.prog X.w) k x C ps dvs sp) (hr : Room (k + 1) X.A) (hg : Gl X x) (ha : PA X (e :: es) t)
    (hdb : (x == ("__debug__" : Str)) = false := by decide) (he : starEach (e :: es) X.env = (false, eval e X.env) :: starEach es X.env := by rfl) (hpl : (backTo pos (starEach es X.env)).any (·.1) = false := by rfl) :
    PE X (.Call (.Name x p) (e :: es) [] pos) (tMakeE C (spD dvs sp) EE t) := by
  intro pins s0 σ H0 Q I0 h0
  obtain ⟨f, fd, ds, F, hb, hv, M, hm⟩ := O.ex
  refine wpAny_Call_Name_kw (ld_glob I0 hg hm ?_ hdb)
  refine PySem.W.callWith_K (h₀ := X.base) I0.ok.mod.kin M.kp (thn (ha pos pins s0 σ H0 _ I0 h0) fun us s ⟨vs, H, I, r, h⟩ => ⟨I.kIn, ?_⟩) he hpl
  have hq := h (s.heap.objs.size + 1) s.heap.objs.size (I.hok.fresh (Nat.le_succ _)) (I.hok.fresh (Nat.le_refl _)) (Nat.ne_of_lt (Nat.lt_succ_self _))
  dsimp only [spD] at hq
  rw [List.append_nil] at hq
  have I2 := Inv.made (C := C) I
  have r2 : Vals (V.ref (s.heap.objs.size + 1) :: (vs ++ dvs)) (Value.ref (s.heap.objs.size + 1) :: (us ++ ds)) := .cons rfl (r.append hv)
  have hl : (Value.ref (s.heap.objs.size + 1) :: us ++ ds).length = ps.length := by
    have e := r2.length
    have e2 : (V.ref (s.heap.objs.size + 1) :: (vs ++ dvs)).length = ps.length := F.len _ _ _ _ hq
    rw [e2] at e
    exact e.symm
  have hb2 : BindsTo _ fd ⟨Value.ref (s.heap.objs.size + 1) :: us, []⟩ (ps.zip (Value.ref (s.heap.objs.size + 1) :: (us ++ ds))) := hb _ (Value.ref (s.heap.objs.size + 1) :: us) I2.kIn hl
  show wpAny _ _ (call (.ref C) us) _ _ _
  refine wpAny_call (make_map (f := f) I.kIn M.makes M.init (beq_iff_eq.mp M.fn) (codeAny_mono (F.run _ X.stack _ _ ⟨Value.ref (s.heap.objs.size + 1) :: us, []⟩ (Value.ref (s.heap.objs.size + 1) :: (us ++ ds)) _ _ _ (hr.make C us [])
    (I2.env0.make C us []) hb2 r2 hq) fun r s' hq' => ?_))
  cases r with
  | error e => exact T.call pins σ _ _ e s' I2 hq'
  | ok fl =>
    cases fl with
    | ret u =>
      obtain ⟨v, H', I3, rv, ev, q3⟩ := I2.after hq'
      subst ev
      exact ⟨rv, ⟨V.ref (s.heap.objs.size + 1), H', I3, rfl, q3⟩⟩
    | next => exact False.elim hq'
    | brk => exact False.elim hq'
    | cont => exact False.elim hq'
end
section
variable {X : Cx}
end
end L2
namespace L2
open PySem PySem.Spec PyProof.Rows
theorem rd_makeD {C : Addr} {sp : Sp} {dvs : List V} {t : TA} {σ : St} {H : Hp} {Q : VK} (h : t σ H fun vs H1 => ∀ x dx, H1 x = none → H1 dx = none → dx ≠ x → sp (.ref x :: (vs ++ dvs)) (upd (upd H1 dx (.own x)) x (.ins C dx [])) (fun v H2 => v = .non ∧ Q (.ref x) H2) E0) : tMake C sp dvs E0 t σ H Q := h
theorem rd_makeE {C : Addr} {sp : Sp} {EE : XE} {t : TA} {σ : St} {H : Hp} {Q : VK} (h : t σ H fun vs H1 => ∀ x dx, H1 x = none → H1 dx = none → dx ≠ x → sp (.ref x :: (vs ++ [])) (upd (upd H1 dx (.own x)) x (.ins C dx [])) (fun v H2 => v = .non ∧ Q (.ref x) H2) (fun c d H' => EE c d σ H')) : tMakeE C sp EE t σ H Q := h
theorem rd_methE {C : Addr} {m : Str} {sp : Sp} {EE : XE} {ta : TE} {t : TA} {σ : St} {H : Hp} {Q : VK} (h : ta σ H fun x H1 => ∃ a dx fs, x = .ref a ∧ H1 a = some (.ins C dx fs) ∧ fs.lookup m = none ∧ t σ H1 fun vs H2 => sp (x :: (vs ++ [])) H2 Q (fun c d H' => EE c d σ H')) : tMethE C m sp EE ta t σ H Q := h
end L2

set_option Elab.async false
set_option linter.all false
set_option maxRecDepth 100000
set_option maxHeartbeats 4000000
namespace L2
open PySem PySem.Spec PyProof.Rows
def plainV : V → Bool
  | .byt _ => false
  | .flt _ => false
  | _ => true
inductive EqV (K : PySem.W.Frag) (H : Hp) : Nat → V → V → Prop
  | same {n : Nat} {v : V} : plainV v = true → EqV K H n v v
  | lst {n : Nat} {a b : Addr} {xs ys : List V} : SqL K H a xs → SqL K H b ys → xs.length = ys.length → (∀ (i : Nat) x y, xs[i]? = some x → ys[i]? = some y → EqV K H n x y) → EqV K H (n + 1) (.ref a) (.ref b)
  | tup {n : Nat} {a b : Addr} {xs ys : List V} : SqT K H a xs → SqT K H b ys → xs.length = ys.length → (∀ (i : Nat) x y, xs[i]? = some x → ys[i]? = some y → EqV K H n x y) → EqV K H (n + 1) (.ref a) (.ref b)
theorem vals_at : ∀ {xs : List V} {us : List Value} {i : Nat} {u : Value}, Vals xs us → us[i]? = some u → ∃ x, xs[i]? = some x ∧ RelV x u
  | _, _, i, u, .nil, h => by simp at h
  | _, _, 0, u, .cons r _, h => by
    injection h with h
    subst h
    exact ⟨_, rfl, r⟩
  | _, _, i + 1, u, .cons _ rs, h => vals_at (i := i) rs h
section
variable {X : Cx} {pins : List (Addr × Obj)} {σ : St} {H : Hp} {s : Shared}
theorem EqV.at {n : Nat} {x y : V} (h : EqV X.K H n x y) (I : Inv X pins σ H s) : ∀ {A : Around} {u v : Value}, RelV x u → RelV y v → A.units + n < cLine → SeqAt.EqAt A s u v true := by
  induction h with
  | @same n v hp =>
    intro A u u' r r' _
    cases v with
    | non => cases r; cases r'; exact SeqAt.EqAt.same _
    | bl b => cases r; cases r'; exact SeqAt.EqAt.same _
    | int i =>
      obtain ⟨t, rfl⟩ := r
      obtain ⟨t', rfl⟩ := r'
      have := SeqAt.EqAt.int_int (A := A) (s := s) i t i t'
      rwa [beq_self_eq_true] at this
    | str x =>
      obtain ⟨t, rfl⟩ := r
      obtain ⟨t', rfl⟩ := r'
      have := SeqAt.EqAt.str_str (A := A) (s := s) x t x t'
      rwa [beq_self_eq_true] at this
    | byt b => cases hp
    | flt b => cases hp
    | ref a => cases r; cases r'; exact SeqAt.EqAt.same _
    | ty n => cases r; cases r'; exact SeqAt.EqAt.same _
  | @lst n a b xs ys ha hb hl _ ih =>
    intro A u v r r' hu
    cases r
    cases r'
    by_cases e : a = b
    · subst e
      exact SeqAt.EqAt.same _
    obtain ⟨its, r, pl, _⟩ := I.list ha
    obtain ⟨its', r', pl', _⟩ := I.list hb
    have l1 := r.length
    have l2 := r'.length
    have := SeqAt.RcAt.lists (A := A) (e := fun _ => true) pl.isList pl'.isList (by simp; omega) (by omega) fun j k1 k2 => by
      obtain ⟨x, hx, rx⟩ := vals_at r (i := j) (u := its.toArray[j]) (by simp)
      obtain ⟨y, hy, ry⟩ := vals_at r' (i := j) (u := its'.toArray[j]) (by simp)
      exact ih j x y hx hy rx ry (by show A.units + 1 + n < cLine; omega)
    rw [show ((List.range its.toArray.size).all fun _ => true) = true by simp] at this
    exact SeqAt.EqAt.of_refs e this
  | @tup n a b xs ys ha hb hl _ ih =>
    intro A u v r r' hu
    cases r
    cases r'
    by_cases e : a = b
    · subst e
      exact SeqAt.EqAt.same _
    obtain ⟨its, r, pl, _⟩ := I.tuple ha
    obtain ⟨its', r', pl', _⟩ := I.tuple hb
    have l1 := r.length
    have l2 := r'.length
    have := SeqAt.RcAt.tuples (A := A) (e := fun _ => true) pl pl' (by omega) fun j k1 k2 => by
      obtain ⟨x, hx, rx⟩ := vals_at r (i := j) (u := its.toArray[j]) (by simp)
      obtain ⟨y, hy, ry⟩ := vals_at r' (i := j) (u := its'.toArray[j]) (by simp)
      exact ih j x y hx hy rx ry (by show A.units + 1 + n < cLine; omega)
    rw [show ((List.range (min its.toArray.size its'.toArray.size)).all fun _ => true) = true by simp, Bool.true_and, show (its.toArray.size == its'.toArray.size) = true by simp; omega] at this
    exact SeqAt.EqAt.of_refs e this
end
end L2

set_option Elab.async false
set_option linter.all false
set_option maxRecDepth 100000
set_option maxHeartbeats 4000000
namespace L2
open PySem PySem.Spec PyProof.Rows
structure CalL (P : Program) (w : World) (K : PySem.W.Frag) (mg : Str → Option Value) (base : Heap) (CX : CXT) (k : Nat) (m : Str) (ps : List Str) (L : List (Addr × Sp)) : Prop where
  ex : ∀ p ∈ L, Cls K p.1 ∧ ∃ (f : Addr) (fd : FuncData), FnOk P w K mg base CX k f fd ps p.2 ∧ Binds K fd ps [] ∧ Meth K p.1 m f
theorem CalL.nil {P : Program} {w : World} {K : PySem.W.Frag} {mg : Str → Option Value} {base : Heap} {CX : CXT} {k : Nat} {m : Str} {ps : List Str} : CalL P w K mg base CX k m ps [] := ⟨fun p hp => (nomatch hp)⟩
theorem FnOk.up {P : Program} {w : World} {K : PySem.W.Frag} {mg : Str → Option Value} {base : Heap} {CX : CXT} {k j : Nat} {f : Addr} {fd : FuncData} {ps : List Str} {sp : Sp} (F : FnOk P w K mg base CX k f fd ps sp) (h : k ≤ j) : FnOk P w K mg base CX j f fd ps sp :=
  ⟨F.len, fun A outer s H args us vs Q E hr e0 hb r hs => F.run A outer s H args us vs Q E (hr.mono h) e0 hb r hs⟩
theorem CalL.cons {P : Program} {w : World} {K : PySem.W.Frag} {mg : Str → Option Value} {base : Heap} {CX : CXT} {k j : Nat} {m : Str} {ps : List Str} {C : Addr} {sp : Sp} {L : List (Addr × Sp)} (c : Cls K C) (O : CalM P w K mg base CX j C m ps sp) (h : j ≤ k) (r : CalL P w K mg base CX k m ps L) : CalL P w K mg base CX k m ps ((C, sp) :: L) := by
  refine ⟨fun p hp => ?_⟩
  rcases List.mem_cons.mp hp with e | e
  · subst e
    obtain ⟨f, fd, F, hb, M⟩ := O.ex
    exact ⟨c, f, fd, F.up h, hb, M⟩
  · exact r.ex p e
def tMethL (L : List (Addr × Sp)) (m : Str) (ta : TE) (t : TA) : TE := fun σ H Q => ta σ H fun x H1 => ∃ a C dx fs sp, (C, sp) ∈ L ∧ x = .ref a ∧ H1 a = some (.ins C dx fs) ∧ fs.lookup m = none ∧
  t σ H1 fun vs H2 => sp (x :: (vs ++ [])) H2 Q E0
def tMethLE (L : List (Addr × Sp)) (m : Str) (EE : XE) (ta : TE) (t : TA) : TE := fun σ H Q => ta σ H fun x H1 => ∃ a C dx fs sp, (C, sp) ∈ L ∧ x = .ref a ∧ H1 a = some (.ins C dx fs) ∧ fs.lookup m = none ∧
  t σ H1 fun vs H2 => sp (x :: (vs ++ [])) H2 Q (fun c d H' => EE c d σ H')
section
variable {X : Cx} {EE : Value → Option Addr → St → Hp → Prop} {L : List (Addr × Sp)} {m : Str} {k : Nat} {ps : List Str} {o e : Expr} {es : List Expr} {ta : TE} {t : TA} {apos pos : Pos}
theorem pe_mcalL0 {pl : Sem Bool} (O : CalL X.prog X.w X.K X.mg X.base CX0 k m ps L) (hr : Room k X.A) (he : PE X o ta)
    (ht : eval (.Call (.Attribute o m apos) [] [] pos) X.env = (do
      let ov ← eval o X.env
      standAt apos.atName
      let (f, first) ← holding [ov] (getMethod ov m pl)
      callWith pos f first (backTo pos (starEach [] X.env)) (backToKw pos (keywordEach [] X.env))) := by rfl) :
    PE X (.Call (.Attribute o m apos) [] [] pos) (tMethL L m ta tNil) := by
  intro pins s σ H Q I h
  refine PySem.W.methodCall_KW (pl := pl) (thn (he pins s σ H _ I h) fun u s1 ⟨x, H1, I1, rx, a, C, dx, fs, sp, mem, ex, ea, l, q⟩ => ?_) ht
  subst ex
  obtain rfl : u = Value.ref a := rx
  obtain ⟨c, f, fd, F, hb, hm⟩ := O.ex _ mem
  refine getmeth_ok I1 ea c hm l ?_
  exact PySem.W.callWith_K0 (first := [.ref a]) I1.kIn hm.kp (run_fn (us := [.ref a]) (vs := [.ref a]) F hr hb .nil pass0 I1 (.cons rfl .nil) q)
end
theorem rd_methL {L : List (Addr × Sp)} {m : Str} {ta : TE} {t : TA} {σ : St} {H : Hp} {Q : VK} (h : ta σ H fun x H1 => ∃ a C dx fs sp, (C, sp) ∈ L ∧ x = .ref a ∧ H1 a = some (.ins C dx fs) ∧ fs.lookup m = none ∧ t σ H1 fun vs H2 => sp (x :: (vs ++ [])) H2 Q E0) : tMethL L m ta t σ H Q := h
theorem rd_methLE {L : List (Addr × Sp)} {m : Str} {EE : XE} {ta : TE} {t : TA} {σ : St} {H : Hp} {Q : VK} (h : ta σ H fun x H1 => ∃ a C dx fs sp, (C, sp) ∈ L ∧ x = .ref a ∧ H1 a = some (.ins C dx fs) ∧ fs.lookup m = none ∧ t σ H1 fun vs H2 => sp (x :: (vs ++ [])) H2 Q (fun c d H' => EE c d σ H')) : tMethLE L m EE ta t σ H Q := h
end L2

set_option Elab.async false
set_option linter.all false
namespace L2
theorem len1 {α : Type} {us : List α} (h : us.length = 1) : ∃ a0, us = [a0] := by
  match us, h with
  | [a0], _ => exact ⟨a0, rfl⟩
theorem len2 {α : Type} {us : List α} (h : us.length = 2) : ∃ a0 a1, us = [a0, a1] := by
  match us, h with
  | [a0, a1], _ => exact ⟨a0, a1, rfl⟩
theorem len3 {α : Type} {us : List α} (h : us.length = 3) : ∃ a0 a1 a2, us = [a0, a1, a2] := by
  match us, h with
  | [a0, a1, a2], _ => exact ⟨a0, a1, a2, rfl⟩
theorem len4 {α : Type} {us : List α} (h : us.length = 4) : ∃ a0 a1 a2 a3, us = [a0, a1, a2, a3] := by
  match us, h with
  | [a0, a1, a2, a3], _ => exact ⟨a0, a1, a2, a3, rfl⟩
theorem len5 {α : Type} {us : List α} (h : us.length = 5) : ∃ a0 a1 a2 a3 a4, us = [a0, a1, a2, a3, a4] := by
  match us, h with
  | [a0, a1, a2, a3, a4], _ => exact ⟨a0, a1, a2, a3, a4, rfl⟩
end L2

set_option Elab.async false
set_option linter.all false
set_option maxRecDepth 100000
set_option maxHeartbeats 4000000
namespace L2
open PySem PySem.Spec PyProof.Rows
section
variable {X : Cx}
end
end L2

set_option Elab.async false
set_option linter.all false
set_option maxRecDepth 100000
set_option maxHeartbeats 4000000
namespace L2
open PySem PySem.Spec PyProof.Rows
section
variable {X : Cx}
end
end L2

set_option Elab.async false
set_option linter.all false
set_option maxRecDepth 100000
set_option maxHeartbeats 4000000
namespace L2
open PySem PySem.Spec PyProof.Rows
section
variable {X : Cx}
end
end L2

set_option Elab.async false
set_option linter.all false
set_option maxRecDepth 100000
set_option maxHeartbeats 4000000
namespace L2
open PySem PySem.Spec PyProof.Rows
section
variable {X : Cx}
end
end L2

set_option Elab.async false
set_option linter.all false
set_option maxRecDepth 100000
set_option maxHeartbeats 4000000
namespace L2
open PySem PySem.Spec PyProof.Rows
def signV (c : Nat) : V := .str ⟨#[c]⟩
def Its (z : Str) : It := ⟨fun i _ => i < z.cps.size, fun i H x H' => H' = H ∧ ∃ c, z.cps[i]? = some c ∧ x = signV c, fun i _ => z.cps.size ≤ i⟩
theorem turn_str {P : Program} {w : World} {K : PySem.W.Frag} {tg : Expr} (z : Str) (t : Tok) (it : Addr) : Turn P w K tg (Its z) [it] it (fun i h => h.IsStrIter it "str_ascii_iterator" z t i) where
  mem := by simp
  obj := fun i h st b hb => by
    have e : b = it := by simpa using hb
    subst e
    obtain ⟨o, e, c, d⟩ := st
    exact ⟨o, e, fun v z => by rw [d] at z; cases z⟩
  keep := fun i h h' st k => by
    obtain ⟨o, e, r⟩ := st
    exact ⟨o, k it (by simp) o e, r⟩
  item := by
    intro X hP hw hK hc i pins s σ H E I hf st hg
    subst hP hw hK
    have hg' : i < z.cps.size := hg
    obtain ⟨f0, f1, f2, f3, f4, f5⟩ := hf it (by simp)
    refine wpAny_pyNext_ascii_item st (c := z.cps[i]) (by simp [hg']) fun h' st' sb => ?_
    have I1 : Inv X pins σ H { s with heap := h', toks := s.toks + 1 } := I.turned (t' := s.toks + 1) (fun b o hb e => (sb.2 b hb).trans e) f0 f1 f3 f4 f5
    obtain ⟨o, e, c, d⟩ := id st'
    exact ⟨_, rfl, go_of (s := { s with heap := h', toks := s.toks + 1 }) e c d (by decide) ⟨signV z.cps[i], H, I1, ⟨_, rfl⟩, ⟨rfl, _, by simp [hg'], rfl⟩, st', fun b hb => (hf b hb).1⟩⟩
  done := by
    intro X hP hw hK hc i pins s σ H E I hf st hg
    subst hP hw hK
    have hg' : z.cps.size ≤ i := hg
    obtain ⟨f0, f1, f2, f3, f4, f5⟩ := hf it (by simp)
    exact wpAny_pyNext_ascii_end (I.ok.hd hc) st (by simp [hg']) fun h' eb => ⟨rfl, I.turned (t' := s.toks) (fun b o hb e => eb b o hb e) f0 f1 f3 f4 f5⟩
  self := fun _ _ _ _ _ st h => wpAny_pyIter_striter_ascii st h
def asc (z : Str) : Bool := z.cps.all (· < 128)
def iStr (tl : TE) : TI := fun σ H R => tl σ H fun x H1 => ∃ z, x = .str z ∧ asc z = true ∧ R (Its z) H1
section
variable {X : Cx} {tg : Expr}
theorem pi_str {l : Expr} {tl : TE} (hl : PE X l tl) : PI X tg l (iStr tl) := by
  intro pins s σ H R I h
  refine thn (hl pins s σ H _ I h) fun v s1 ⟨x, H1, I1, r1, q1⟩ => ?_
  obtain ⟨z, e, ha, q⟩ := q1
  subst e
  obtain ⟨t, rfl⟩ := (show ∃ t, v = Value.str z t from r1)
  refine wpAny_pyIter_ascii ha ?_
  refine ⟨s1.heap.objs.size, [s1.heap.objs.size], _, _, H1, rfl, I1.kept (t' := s1.toks) fun b o e => Heap.get?_push_of_some _ e, turn_str z t _, ⟨_, Heap.get?_push_size _ rfl, rfl, rfl⟩, fun b hb => ?_, q⟩
  have e : b = s1.heap.objs.size := by simpa using hb
  subst e
  exact I1.fpOk (Nat.le_refl _) (I1.hok.fresh (Nat.le_refl _))
def rSlS : V → Option Int → Option Int → Hp → VK → Prop := fun x lo hi H Q => ∃ z, x = .str z ∧ z.length ≤ sizeLine ∧ Q (.str (Txt.slice z lo hi)) H
theorem part_val {v : Value} {o : Option Int} (h : IsPart v o) : ∃ l : Option (Int × Tok), v = partValue l ∧ l.map (·.1) = o := by
  cases h with
  | none => exact ⟨none, rfl, rfl⟩
  | int i t => exact ⟨some (i, t), rfl, rfl⟩
theorem sl_str : SlR X rSlS := by
  intro pins s σ H x v vl vu lo hi sl Q I rx hs pl pu h
  obtain ⟨z, rfl, hz, q⟩ := h
  obtain ⟨t, rfl⟩ := (show ∃ t, v = Value.str z t from rx)
  obtain ⟨l, rfl, rfl⟩ := part_val pl
  obtain ⟨u, rfl, rfl⟩ := part_val pu
  refine ⟨"str", _, F.slot_str_getitem.lookup, typeIs_str _ _ _, wpAny_getItem_str_slice (l := l) (u := u) (st := none) hs rfl ?_⟩
  refine post_val_or_str ⟨Nat.le_trans (Txt.slice_le z _ _) hz, fun t' k => ?_⟩
  exact ⟨.str _, H, I.kept (t' := k) fun b o e => e, ⟨_, rfl⟩, q⟩
theorem mt_startswith : MtR X "str.startswith" (fun x xs H Q => ∃ z y, x = .str z ∧ xs = [.str y] ∧ Q (.bl (Txt.startswith z y)) H) := by
  intro pins s σ H x xs v us Q I rx rs h
  obtain ⟨z, y, rfl, rfl, q⟩ := h
  obtain ⟨t, rfl⟩ := (show ∃ t, v = Value.str z t from rx)
  obtain ⟨u, rfl, ru⟩ := vals1 rs
  obtain ⟨t', rfl⟩ := (show ∃ t, u = Value.str y t from ru)
  exact call_gives F.slot_str_startswith (typeIs_str _ _ _) F.entry_str_startswith (F.args_str_startswith_2 _ _) (gives_str_startswith z y t t') ⟨.bl _, H, I, rfl, q⟩
theorem mt_index : MtR X "str.index" (fun x xs H Q => ∃ z y i rest, x = .str z ∧ xs = [.str y] ∧ Builtin.Str.occurrences z y 0 z.length 1 = i :: rest ∧ Q (.int ((i : Nat) : Int)) H) := by
  intro pins s σ H x xs v us Q I rx rs h
  obtain ⟨z, y, i, rest, rfl, rfl, ho, q⟩ := h
  obtain ⟨t, rfl⟩ := (show ∃ t, v = Value.str z t from rx)
  obtain ⟨u, rfl, ru⟩ := vals1 rs
  obtain ⟨t', rfl⟩ := (show ∃ t, u = Value.str y t from ru)
  exact call_gives F.slot_str_index (typeIs_str _ _ _) F.entry_str_index (F.args_str_index_2 _ _) (gives_str_index z y t t' i rest ho) ⟨.int _, H, I.tok _, ⟨_, rfl⟩, q⟩
theorem call_int_text : CallR X (.type "int") (fun xs H Q => ∃ z n, xs = [.str z] ∧ z.length ≤ 640 ∧ PySem.intText? z = some n ∧ Q (.int n) H) := by
  intro pins s σ H xs us Q I r h
  obtain ⟨z, n, rfl, hl, hn, q⟩ := h
  obtain ⟨u, rfl, ru⟩ := vals1 r
  obtain ⟨t, rfl⟩ := (show ∃ t, u = Value.str z t from ru)
  exact PySem.W.KIN.call_text hn hl ⟨.int n, H, I.tok _, ⟨_, rfl⟩, q⟩
theorem op_mulS : OpR X (binaryOp .Mult) (fun x y H Q => ∃ z n, x = .str z ∧ y = .int n ∧ MulOk z n ∧ Q (.str (Txt.mul z n)) H) := by
  intro pins s σ H x y v u Q I rx ry h
  obtain ⟨z, n, rfl, rfl, hok, q⟩ := h
  obtain ⟨t, rfl⟩ := (show ∃ t, v = Value.str z t from rx)
  obtain ⟨t', rfl⟩ := (show ∃ t, u = Value.int n t from ry)
  exact SB.mul hok fun t' k => ⟨.str _, H, I.kept (t' := k) fun b o e => e, ⟨_, rfl⟩, q⟩
end
theorem walk_s {z : Str} : Walk (Its z) (fun _ => True) (z.cps.toList.map signV) :=
  ⟨fun i H _ hi => (by show i < z.cps.size; simpa using hi), fun i H x H' _ y hi => ⟨y.1, by
    obtain ⟨c, hc, rfl⟩ := y.2
    rw [List.getElem?_map, Array.getElem?_toList, hc]
    rfl⟩, fun i H _ hi => (by show z.cps.size ≤ i; simpa using hi)⟩
theorem rd_iS {tl : TE} {σ : St} {H : Hp} {R : It → Hp → Prop} (h : tl σ H fun x H1 => ∃ z, x = .str z ∧ asc z = true ∧ R (Its z) H1) : iStr tl σ H R := h
theorem rel_str (x : Str) (t : Tok) : RelV (.str x) (.str x t) := ⟨t, rfl⟩
def constStr? : Expr → Option Str
  | .Constant (.str x) _ _ => some x
  | _ => none
def tStrs (ss : List Str) : TA := fun _ H Q => Q (ss.map V.str) H
theorem pa_strs {X : Cx} : ∀ {es : List Expr} {ss : List Str}, es.map constStr? = ss.map some → PA X es (tStrs ss)
  | [], [], _ => pa_nil
  | [], _ :: _, h => nomatch h
  | _ :: _, [], h => nomatch h
  | e :: es, x :: ss, h => by
    rw [List.map_cons, List.map_cons] at h
    injection h with h1 h2
    have ih := pa_strs (X := X) (es := es) (ss := ss) h2
    unfold constStr? at h1
    split at h1
    · injection h1 with h1
      subst h1
      exact pa_cons pe_str ih rfl
    · cases h1
theorem pe_strs {X : Cx} {es : List Expr} {ss : List Str} {pos : Pos} (h : es.map constStr? = ss.map some) : PE X (.List es pos) (tLst (tStrs ss)) := pe_lst (pa_strs h)
theorem rd_strs {ss : List Str} {σ : St} {H : Hp} {Q : List V → Hp → Prop} (h : Q (ss.map V.str) H) : tStrs ss σ H Q := h
structure BE (X : Cx) (e : Expr) (te : TE) : Prop where
  out : PE X e te
structure BS (X : Cx) (st : Stmt) (t : TS) : Prop where
  out : PS X st t
structure BSs (X : Cx) (st : List Stmt) (t : TS) : Prop where
  out : PSs X st t
section
variable {X : Cx}
theorem be {e : Expr} {te : TE} (h : PE X e te) : BE X e te := ⟨h⟩
theorem be_strs {es : List Expr} {ss : List Str} {pos : Pos} (h : es.map constStr? = ss.map some) : BE X (.List es pos) (tLst (tStrs ss)) := ⟨pe_strs h⟩
theorem bs {st : Stmt} {t : TS} (h : PS X st t) : BS X st t := ⟨h⟩
theorem bs_set {i : Nat} {x : Str} {e : Expr} {te : TE} {pos' pos : Pos} (hN : X.N.Nodup) (hi : X.N[i]? = some x) (hx : Loc X.env.scope x) (he : BE X e te) (hs : swapsWith e (some (.Name x pos')) pos.line X.env = pure false := by rfl) (hf : X.fn x = true ∨ X.env.scope.names.lookup x = some .local := by first | exact .inl rfl | exact .inr rfl | assumption) :
    BS X (.Assign [.Name x pos'] e pos) (tAsg te (gName i)) := ⟨ps_set hN hi hx he.out hs hf⟩
theorem bss_cons {st : Stmt} {rest : List Stmt} {t u : TS} (h1 : BS X st t) (h2 : BSs X rest u) : BSs X (st :: rest) (tSeq t u) := ⟨pss_cons h1.out h2.out⟩
theorem bss_one {st : Stmt} {t : TS} (h1 : BS X st t) : BSs X [st] t := ⟨pss_one h1.out⟩
theorem bss_ex {ss : List Stmt} {R : TS → Prop} (h : ∃ t, BSs X ss t ∧ R t) : ∃ t, PSs X ss t ∧ R t := by
  obtain ⟨t, h1, h2⟩ := h
  exact ⟨t, h1.out, h2⟩
end
end L2

set_option Elab.async false
set_option linter.all false
set_option maxRecDepth 100000
set_option maxHeartbeats 4000000
namespace L2
open PySem PySem.Spec PyProof.Rows
inductive CalVs (P : Program) (w : World) (K : PySem.W.Frag) (mg : Str → Option Value) (base : Heap) (k : Nat) : List (Str × Sp) → Prop
  | nil : CalVs P w K mg base k []
  | cons {x : Str} {ps : List Str} {sp : Sp} {L : List (Str × Sp)} : Cal P w K mg base k x ps sp → CalVs P w K mg base k L → CalVs P w K mg base k ((x, sp) :: L)
theorem CalVs.get {P : Program} {w : World} {K : PySem.W.Frag} {mg : Str → Option Value} {base : Heap} {k : Nat} {L : List (Str × Sp)} (h : CalVs P w K mg base k L) {x : Str} {sp : Sp} (hm : (x, sp) ∈ L) : ∃ ps, Cal P w K mg base k x ps sp := by
  induction h with
  | nil => cases hm
  | cons C _ ih =>
    rcases List.mem_cons.mp hm with e | e
    · injection e with e1 e2
      subst e1
      subst e2
      exact ⟨_, C⟩
    · exact ih e
section
variable {X : Cx} {pos : Pos}
end
end L2

set_option Elab.async false
set_option linter.all false
set_option maxRecDepth 100000
set_option maxHeartbeats 4000000
namespace L2
open PySem PySem.Spec PyProof.Rows
section
variable {X : Cx} {pins : List (Addr × Obj)} {σ : St} {H : Hp} {s : Shared} {h' : Heap}
end
section
variable {X : Cx}
end
section
variable {X : Cx}
end
end L2

set_option Elab.async false
set_option linter.all false
set_option maxRecDepth 100000
set_option maxHeartbeats 4000000
namespace L2
open PySem PySem.Spec PyProof.Rows
section
variable {X : Cx}
end
end L2

set_option Elab.async false
set_option linter.all false
set_option maxRecDepth 100000
set_option maxHeartbeats 4000000
namespace L2
open PySem PySem.Spec PyProof.Rows
section
variable {X : Cx}
end
section
variable {X : Cx}
end
end L2

set_option Elab.async false
set_option linter.all false
set_option maxRecDepth 100000
set_option maxHeartbeats 4000000
namespace L2
open PySem PySem.Spec PyProof.Rows PySem.Builtin PySem.Builtin.Str
/-- where the sign c stands -/
def plc (c : Nat) : Nat → List Nat → List Nat
  | _, [] => []
  | k, a :: l => if a = c then k :: plc c (k + 1) l else plc c (k + 1) l
/-- the parts between -/
def spl (c : Nat) : List Nat → List (List Nat)
  | [] => [[]]
  | a :: l => if a = c then [] :: spl c l else ((a :: (spl c l).headD []) :: (spl c l).drop 1)
theorem spl_at (c : Nat) (l : List Nat) : spl c (c :: l) = [] :: spl c l := by
  conv => lhs; unfold spl
  rw [if_pos rfl]
theorem spl_not {c a : Nat} (l : List Nat) (h : a ≠ c) : spl c (a :: l) = (a :: (spl c l).headD []) :: (spl c l).drop 1 := by
  conv => lhs; unfold spl
  rw [if_neg h]
theorem str_eq {a b : Str} (h : a.cps = b.cps) : a = b := by
  cases a
  cases b
  exact congrArg Str.mk h
theorem spl_ne (c : Nat) : ∀ l, spl c l ≠ []
  | [] => fun h => nomatch h
  | a :: l => by
    unfold spl
    split
    · exact fun h => nomatch h
    · exact fun h => nomatch h
theorem spl_eta (c : Nat) (l : List Nat) : spl c l = (spl c l).headD [] :: (spl c l).drop 1 := by
  have := spl_ne c l
  cases h : spl c l with
  | nil => exact absurd h this
  | cons p ps => rfl
theorem plc_len (c : Nat) : ∀ (l : List Nat) (k : Nat), (plc c k l).length + 1 = (spl c l).length
  | [], _ => rfl
  | a :: l, k => by
    have ih := plc_len c l (k + 1)
    unfold plc spl
    split
    · rw [List.length_cons, List.length_cons, ih]
    · rw [ih, spl_eta c l]
      rfl
theorem plc_count (c : Nat) : ∀ (l : List Nat) (k : Nat), (plc c k l).length = l.count c
  | [], _ => rfl
  | a :: l, k => by
    have ih := plc_count c l (k + 1)
    unfold plc
    rw [List.count_cons]
    split
    · rename_i h
      rw [List.length_cons, ih, if_pos (by simpa using h)]
    · rename_i h
      rw [ih, if_neg (by simpa using h)]
      rfl
theorem spl_len (c : Nat) : ∀ (l p : List Nat), p ∈ spl c l → p.length ≤ l.length
  | [], p, hp => by
    cases List.mem_singleton.mp hp
    exact Nat.le_refl _
  | a :: l, p, hp => by
    have ih := spl_len c l
    unfold spl at hp
    split at hp
    · rcases List.mem_cons.mp hp with e | e
      · rw [e]; exact Nat.zero_le _
      · exact Nat.le_trans (ih p e) (Nat.le_succ _)
    · rw [spl_eta c l] at ih
      rcases List.mem_cons.mp hp with e | e
      · rw [e]
        exact Nat.succ_le_succ (ih _ List.mem_cons_self)
      · exact Nat.le_trans (ih p (List.mem_cons_of_mem _ e)) (Nat.le_succ _)
/-- the parts by where they begin and end -/
theorem parts_spl (c : Nat) (L : List Nat) : ∀ (l : List Nat) (k s0 : Nat), L.drop k = l → s0 ≤ k → k ≤ L.length →
    ((s0 :: (plc c k l).map (· + 1)).zip (plc c k l ++ [L.length])).map (fun (ij : Nat × Nat) => (L.drop ij.1).take (ij.2 - ij.1)) = ((L.drop s0).take (k - s0) ++ (spl c l).headD []) :: (spl c l).drop 1
  | [], k, s0, h, h1, h2 => by
    have e : k = L.length := by
      have := congrArg List.length h
      rw [List.length_drop] at this
      simp at this
      omega
    subst e
    show [(L.drop s0).take (L.length - s0)] = [(L.drop s0).take (L.length - s0) ++ []]
    rw [List.append_nil]
  | a :: l, k, s0, h, h1, h2 => by
    have kl : k < L.length := by
      have := congrArg List.length h
      rw [List.length_drop, List.length_cons] at this
      omega
    have hd : L.drop (k + 1) = l := by
      rw [← List.drop_drop, h]
      rfl
    unfold plc spl
    split
    · have ih := parts_spl c L l (k + 1) (k + 1) hd (Nat.le_refl _) kl
      rw [List.map_cons, List.cons_append, List.zip_cons_cons, List.map_cons, ih, Nat.sub_self, List.take_zero, List.nil_append, ← spl_eta]
      show _ = ((L.drop s0).take (k - s0) ++ []) :: spl c l
      rw [List.append_nil]
    · have ih := parts_spl c L l (k + 1) s0 hd (by omega) kl
      rw [ih]
      have e : (L.drop s0).take (k + 1 - s0) = (L.drop s0).take (k - s0) ++ [a] := by
        have hk : (L.drop s0)[k - s0]? = some a := by
          rw [List.getElem?_drop, show s0 + (k - s0) = k by omega]
          have := congrArg (fun z => z[0]?) h
          simpa [List.getElem?_drop] using this
        rw [show k + 1 - s0 = (k - s0) + 1 by omega, List.take_add_one, hk]
        rfl
      rw [e, List.append_assoc]
      rfl
def cps (z : Str) : List Nat := z.cps.toList
theorem cps_len (z : Str) : (cps z).length = z.length := Array.length_toList
theorem occ_run (x : Str) (c : Nat) : ∀ (n k free : Nat) (acc : Array Nat), k + n = x.length + 1 → free ≤ k → acc.size ≤ k →
    (forIn (List.range' k n) (acc, free) (StrLaws.occBody x ⟨#[c]⟩ x.length (x.length + 1))).run.fst.toList = acc.toList ++ plc c k ((cps x).drop k)
  | 0, k, free, acc, h, _, _ => by
    rw [List.drop_of_length_le (by rw [cps_len]; omega)]
    show acc.toList = acc.toList ++ []
    rw [List.append_nil]
  | n + 1, k, free, acc, h, hf, ha => by
    rw [List.range'_succ, List.forIn_cons]
    have one : (⟨#[c]⟩ : Str).length = 1 := rfl
    by_cases z : (cps x)[k]? = some c
    · have kl : k < (cps x).length := (List.getElem?_eq_some_iff.mp z).1
      have hs := (StrLaws.subAt_one x c k).mpr z
      have ed : (cps x).drop k = c :: (cps x).drop (k + 1) := by
        rw [List.drop_eq_getElem_cons kl, (List.getElem?_eq_some_iff.mp z).2]
      have ih := occ_run x c n (k + 1) (k + 1) (acc.push k) (by omega) (Nat.le_refl _) (by rw [Array.size_push]; omega)
      unfold StrLaws.occBody
      rw [if_pos ⟨⟨⟨by show acc.size < x.length + 1; omega, hf⟩, hs.1⟩, hs.2⟩, ed]
      unfold plc
      rw [if_pos rfl]
      have e2 : acc.toList ++ k :: plc c (k + 1) ((cps x).drop (k + 1)) = (acc.push k).toList ++ plc c (k + 1) ((cps x).drop (k + 1)) := by
        rw [Array.toList_push, List.append_assoc]
        rfl
      rw [e2]
      exact ih
    · have hs : ¬ (k + (⟨#[c]⟩ : Str).length ≤ x.length ∧ subAt x ⟨#[c]⟩ k = true) := fun y => z ((StrLaws.subAt_one x c k).mp y)
      have ih := occ_run x c n (k + 1) free acc (by omega) (by omega) (by omega)
      have ep : plc c k ((cps x).drop k) = plc c (k + 1) ((cps x).drop (k + 1)) := by
        by_cases kl : k < (cps x).length
        · rw [List.drop_eq_getElem_cons kl]
          have : (cps x)[k] ≠ c := fun y => z (by rw [List.getElem?_eq_getElem kl, y])
          show (if (cps x)[k] = c then _ else _) = _
          rw [if_neg this]
        · rw [List.drop_of_length_le (by omega), List.drop_of_length_le (by omega)]
          rfl
      unfold StrLaws.occBody
      rw [if_neg fun y => hs ⟨y.1.2, y.2⟩, ep]
      exact ih
theorem occ_plc (x : Str) (c : Nat) : occurrences x ⟨#[c]⟩ 0 x.length (x.length + 1) = plc c 0 (cps x) := by
  rw [StrLaws.occ_eq]
  have := occ_run x c (x.length + 1) 0 0 #[] (by omega) (Nat.le_refl _) (Nat.le_refl _)
  simpa using this
theorem parts_eq (x : Str) (c : Nat) : partsBetween x (plc c 0 (cps x)) 1 = (spl c (cps x)).map fun p => (⟨p.toArray⟩ : Str) := by
  have h := parts_spl c (cps x) (cps x) 0 0 rfl (Nat.le_refl _) (Nat.zero_le _)
  rw [List.take_zero, List.nil_append, ← spl_eta] at h
  rw [← h, List.map_map]
  unfold partsBetween
  rw [← cps_len]
  refine List.map_congr_left fun ij _ => ?_
  refine str_eq (Array.toList_inj.mp ?_)
  rw [StrLaws.strSub_toList]
  rfl
section
variable {X : Cx}
theorem strs_of : ∀ (ps : List Str) (tk : Nat), Vals (ps.map V.str) (strsFrom tk ps)
  | [], _ => .nil
  | p :: ps, tk => .cons ⟨tk, rfl⟩ (strs_of ps (tk + 1))
theorem strsAre_of : ∀ {zs : List Str} {us : List Value}, Vals (zs.map V.str) us → StrsAre us zs
  | [], _, .nil => .nil
  | z :: zs, _, .cons r rs => by
    obtain ⟨t, rfl⟩ := (show ∃ t, _ = Value.str z t from r)
    exact .cons z t (strsAre_of rs)
/-- the texts between -/
def splS (c : Nat) (z : Str) : List Str := (spl c (cps z)).map fun p => (⟨p.toArray⟩ : Str)
theorem splS_len (c : Nat) (z : Str) : (splS c z).length ≤ z.length + 1 := by
  unfold splS
  rw [List.length_map, ← plc_len c (cps z) 0, plc_count, ← cps_len]
  exact Nat.succ_le_succ List.count_le_length
theorem splS_single {c : Nat} {z : Str} (h : plc c 0 (cps z) = []) : splS c z = [z] := by
  have e := parts_eq z c
  rw [h] at e
  unfold splS
  rw [← e]
  show [strSub z 0 z.length] = [z]
  refine congrArg (fun y => [y]) (str_eq (Array.toList_inj.mp ?_))
  rw [StrLaws.strSub_toList, List.drop_zero, Nat.sub_zero]
  exact List.take_of_length_le (by show z.cps.toList.length ≤ z.cps.size; rw [Array.length_toList]; exact Nat.le_refl _)
def rSplit : V → List V → Hp → VK → Prop := fun x xs H Q => ∃ z c, x = .str z ∧ xs = [.str ⟨#[c]⟩] ∧ c < 256 ∧ z.length ≤ 1000000 ∧ ∀ l, H l = none → Q (.ref l) (upd H l (.lst ((splS c z).map V.str)))
theorem mt_split : MtR X "str.split" rSplit := by
  intro pins s σ H x xs v us Q I rx rs h
  obtain ⟨z, c, rfl, rfl, hc, hz, q⟩ := h
  obtain ⟨t, rfl⟩ := (show ∃ t, v = Value.str z t from rx)
  obtain ⟨u, rfl, ru⟩ := vals1 rs
  obtain ⟨t', rfl⟩ := (show ∃ t, u = Value.str ⟨#[c]⟩ t from ru)
  have sl : z.length + 1 ≤ sizeLine := Nat.le_trans (Nat.succ_le_succ hz) (by decide)
  have one : (⟨#[c]⟩ : Str).length = 1 := rfl
  have itself : splS c z = [z] → EP X pins σ Q (.ref s.heap.objs.size) { s with heap := s.heap.push { cls := .type "list", data := .seq [Value.str z t].toArray } } := fun e => by
    refine ⟨.ref _, _, I.laid (a := s.heap.objs.size) (o := .lst ((splS c z).map V.str)) (fun _ _ e => Heap.get?_push_of_some _ e) (Nat.le_refl _) ⟨by rw [e]; show 1 ≤ sizeLine; decide, [Value.str z t], 0, by rw [e]; exact .cons ⟨t, rfl⟩ .nil, Heap.get?_push_size _ rfl⟩, rfl, q _ I.fresh⟩
  by_cases h1 : (decide (z.length < (⟨#[c]⟩ : Str).length) || decide (PySem.Builtin.Str.strKind z < PySem.Builtin.Str.strKind ⟨#[c]⟩)) = true
  · have e : splS c z = [z] := by
      have k1 : PySem.Builtin.Str.strKind (⟨#[c]⟩ : Str) = 1 := by
        unfold PySem.Builtin.Str.strKind
        simp [hc]
      have k0 : 1 ≤ PySem.Builtin.Str.strKind z := by
        unfold PySem.Builtin.Str.strKind
        repeat' split
        all_goals omega
      rw [k1, one, decide_eq_false (show ¬ PySem.Builtin.Str.strKind z < 1 by omega), Bool.or_false, decide_eq_true_eq] at h1
      refine splS_single ?_
      have : cps z = [] := List.length_eq_zero_iff.mp (by rw [cps_len]; omega)
      rw [this]
      rfl
    exact call_meets F.slot_str_split (typeIs_str _ _ _) F.entry_str_split (F.args_str_split_2 _ _) (meets_str_split_cannot_occur z ⟨#[c]⟩ t t' h1) (itself e)
  · have h1' := (Bool.not_eq_true _).mp h1
    by_cases h2 : (occurrences z ⟨#[c]⟩ 0 z.length (z.length + 1)).isEmpty = true
    · have e : splS c z = [z] := by
        rw [occ_plc, List.isEmpty_iff] at h2
        exact splS_single h2
      exact call_meets F.slot_str_split (typeIs_str _ _ _) F.entry_str_split (F.args_str_split_2 _ _) (meets_str_split_not_found z ⟨#[c]⟩ t t' h1' rfl h2) (itself e)
    · have h2' := (Bool.not_eq_true _).mp h2
      have ep : partsBetween z (occurrences z ⟨#[c]⟩ 0 z.length (z.length + 1)) (⟨#[c]⟩ : Str).length = splS c z := by rw [occ_plc]; exact parts_eq z c
      refine call_meets F.slot_str_split (typeIs_str _ _ _) F.entry_str_split (F.args_str_split_2 _ _) (meets_str_split_sep z ⟨#[c]⟩ t t' h1' rfl h2' (by omega) (by rw [ep]; exact Nat.le_trans (splS_len c z) sl)) ?_
      rw [ep]
      exact ⟨.ref _, _, I.laid (a := s.heap.objs.size) (o := .lst ((splS c z).map V.str)) (fun _ _ e => Heap.get?_push_of_some _ e) (Nat.le_refl _) ⟨by rw [List.length_map]; exact Nat.le_trans (splS_len c z) sl, strsFrom s.toks (splS c z), 0, strs_of _ _, Heap.get?_push_size _ rfl⟩, rfl, q _ I.fresh⟩
def rJoin (K : PySem.W.Frag) : V → List V → Hp → VK → Prop := fun x xs H Q => ∃ z l zs, x = .str z ∧ xs = [.ref l] ∧ SqL K H l (zs.map V.str) ∧ (zs.map (·.length)).sum + zs.length * z.length ≤ 16777216 ∧ Q (.str (Txt.join z zs)) H
theorem mt_join : MtR X "str.join" (rJoin X.K) := by
  intro pins s σ H x xs v us Q I rx rs h
  obtain ⟨z, l, zs, rfl, rfl, hl, hz, q⟩ := h
  obtain ⟨t, rfl⟩ := (show ∃ t, v = Value.str z t from rx)
  obtain ⟨u, rfl, ru⟩ := vals1 rs
  obtain rfl : u = Value.ref l := ru
  obtain ⟨its, r, pl, _⟩ := I.list hl
  exact join_list pl.isList (by simpa using strsAre_of r) hz fun t' k => ⟨.str _, H, I.tok _, ⟨_, rfl⟩, q⟩
end
end L2

set_option Elab.async false
set_option linter.all false
set_option maxRecDepth 100000
set_option maxHeartbeats 4000000
namespace L2
open PySem PySem.Spec PyProof.Rows
section
variable {s : Shared} {A : Around} {w : World} {prog : Program}
end
section
variable {X : Cx}
/-- list(range(i, j)) wherever i and j lie, if they are not too far apart -/
def tLRA (ta : TA) : TE := fun σ H Q => ta σ H fun vs H1 => ∃ (i j : Int), vs = [.int i, .int j] ∧ i ≤ j ∧ j - i ≤ 1000000 ∧
  ∀ l, H1 l = none → Q (.ref l) (upd H1 l (.lst ((List.range (j - i).toNat).map fun (k : Nat) => V.int (i + (k : Int)))))
theorem rd_lra {ta : TA} {σ : St} {H : Hp} {Q : VK} (h : ta σ H fun vs H1 => ∃ (i j : Int), vs = [.int i, .int j] ∧ i ≤ j ∧ j - i ≤ 1000000 ∧
  ∀ l, H1 l = none → Q (.ref l) (upd H1 l (.lst ((List.range (j - i).toNat).map fun (k : Nat) => V.int (i + (k : Int)))))) : tLRA ta σ H Q := h
end
end L2

set_option Elab.async false
set_option linter.all false
set_option maxRecDepth 100000
set_option maxHeartbeats 4000000
namespace L2
open PySem PySem.Spec PyProof.Rows
section
variable {X : Cx}
/-- a value is the text z -/
def isZ (z : Str) (v : Value) : Bool := match v with | .str y _ => y == z | _ => false
theorem PlainL.at' {h : Heap} {a : Addr} {its : Array Value} (p : PlainL h a its) : ∃ n dd sl, h.get? a = some { cls := .type "list", dict := dd, data := .seq its n, slots := sl } := by
  obtain ⟨⟨cl, di, da, sl⟩, n, e, e1, e2, e3⟩ := p
  cases e1
  cases e3
  exact ⟨n, di, sl, e⟩
theorem vals_str : ∀ {zs : List Str} {us : List Value}, Vals (zs.map V.str) us → us.length = zs.length ∧ ∀ (j : Nat) (z : Str), zs[j]? = some z → ∃ t, us[j]? = some (Value.str z t)
  | [], _, .nil => ⟨rfl, fun j z h => by simp at h⟩
  | y :: zs, _, .cons r rs => by
    obtain ⟨t, rfl⟩ := (show ∃ t, _ = Value.str y t from r)
    obtain ⟨l, h⟩ := vals_str rs
    refine ⟨by rw [List.length_cons, List.length_cons, l], fun j z hj => ?_⟩
    cases j with
    | zero =>
      simp at hj
      exact ⟨t, by rw [hj]; rfl⟩
    | succ j => exact h j z (by simpa using hj)
theorem vals_strM {zs : List Str} {us : List Value} (r : Vals (zs.map V.str) us) {v : Value} (h : v ∈ us) : ∃ z t, v = Value.str z t := by
  obtain ⟨l, g⟩ := vals_str r
  obtain ⟨j, hj, rfl⟩ := List.getElem_of_mem h
  obtain ⟨t, ht⟩ := g j (zs[j]'(by omega)) (List.getElem?_eq_getElem _)
  rw [List.getElem?_eq_getElem hj] at ht
  exact ⟨_, t, Option.some.inj ht⟩
theorem count_isZ (z : Str) : ∀ {zs : List Str} {us : List Value}, Vals (zs.map V.str) us → us.countP (isZ z) = zs.count z
  | [], _, .nil => rfl
  | y :: zs, _, .cons r rs => by
    obtain ⟨t, rfl⟩ := (show ∃ t, _ = Value.str y t from r)
    rw [List.countP_cons, count_isZ z rs, List.count_cons]
    rfl
def rLCount (K : PySem.W.Frag) : V → List V → Hp → VK → Prop := fun x xs H Q => ∃ (l : Addr) (zs : List Str) (z : Str), x = .ref l ∧ xs = [.str z] ∧ SqL K H l (zs.map V.str) ∧ Q (.int ((zs.count z : Nat) : Int)) H
theorem mt_lcount : MtR X "list.count" (rLCount X.K) := by
  intro pins s σ H x xs v us Q I rx rs h
  obtain ⟨l, zs, z, rfl, rfl, hl, q⟩ := h
  obtain rfl : v = Value.ref l := rx
  obtain ⟨u, rfl, ru⟩ := vals1 rs
  obtain ⟨t', rfl⟩ := (show ∃ t, u = Value.str z t from ru)
  obtain ⟨its, r, pl, _⟩ := I.list hl
  obtain ⟨c0, dd, sl, at0⟩ := PlainL.at' pl
  have eq : ∀ y ∈ its.toArray, SeqAt.EqAt X.A.in1 s y (Value.str z t') (isZ z y) := fun y hy => by
    obtain ⟨a, t, rfl⟩ := vals_strM r (by simpa using hy)
    exact SeqAt.EqAt.str_str a t z t'
  refine call_meets F.slot_list_count pl.isList.typeIs F.entry_list_count (F.args_list_count_2 _ _) (SeqAt.list_countAt l its.toArray _ _ _ (Value.str z t') (isZ z)) ⟨at0, eq, ?_⟩
  have ec : its.toArray.toList.countP (isZ z) = zs.count z := count_isZ z r
  rw [ec]
  exact ⟨.int _, H, I.tok _, ⟨_, rfl⟩, q⟩
def rLIndex (K : PySem.W.Frag) : V → List V → Hp → VK → Prop := fun x xs H Q => ∃ (l : Addr) (zs : List Str) (z : Str) (j : Nat), x = .ref l ∧ xs = [.str z] ∧ SqL K H l (zs.map V.str) ∧ zs[j]? = some z ∧ (∀ m, m < j → zs[m]? ≠ some z) ∧ Q (.int ((j : Nat) : Int)) H
theorem mt_lindex : MtR X "list.index" (rLIndex X.K) := by
  intro pins s σ H x xs v us Q I rx rs h
  obtain ⟨l, zs, z, j, rfl, rfl, hl, hj, hno, q⟩ := h
  obtain rfl : v = Value.ref l := rx
  obtain ⟨u, rfl, ru⟩ := vals1 rs
  obtain ⟨t', rfl⟩ := (show ∃ t, u = Value.str z t from ru)
  obtain ⟨its, r, pl, lim⟩ := I.list hl
  obtain ⟨c0, dd, sl, at0⟩ := PlainL.at' pl
  obtain ⟨il, ig⟩ := vals_str r
  have jl : j < zs.length := (List.getElem?_eq_some_iff.mp hj).1
  rw [List.length_map, sizeLine_eq] at lim
  have eq : ∀ y ∈ its.toArray, SeqAt.EqAt X.A.in1 s y (Value.str z t') (isZ z y) := fun y hy => by
    obtain ⟨a, t, rfl⟩ := vals_strM r (by simpa using hy)
    exact SeqAt.EqAt.str_str a t z t'
  have at_ : ∀ m (hm : m < its.toArray.size), ∃ a t, zs[m]? = some a ∧ its.toArray[m] = Value.str a t := fun m hm => by
    have hm' : m < its.length := by simpa using hm
    obtain ⟨t, ht⟩ := ig m (zs[m]'(by omega)) (List.getElem?_eq_getElem _)
    refine ⟨_, t, List.getElem?_eq_getElem (by omega), ?_⟩
    rw [List.getElem?_eq_getElem hm'] at ht
    simpa using Option.some.inj ht
  refine call_meets F.slot_list_index pl.isList.typeIs F.entry_list_index (F.args_list_index_2 _ _) (SeqAt.list_indexAt l its.toArray _ _ _ (Value.str z t') (isZ z) j (by simpa using (show j < its.length by omega)) (by omega) ?_ fun m hm lt => ?_) ⟨at0, eq, ?_⟩
  · obtain ⟨a, t, ha, e⟩ := at_ j (by simpa using (show j < its.length by omega))
    rw [e]
    rw [hj] at ha
    cases ha
    show (z == z) = true
    simp
  · obtain ⟨a, t, ha, e⟩ := at_ m hm
    rw [e]
    show (a == z) = false
    have : a ≠ z := fun y => hno m lt (by rw [ha, y])
    simpa using this
  · exact ⟨.int _, H, I.tok _, ⟨_, rfl⟩, q⟩
end
end L2

set_option Elab.async false
set_option linter.all false
set_option maxRecDepth 100000
set_option maxHeartbeats 4000000
namespace L2
open PySem PySem.Spec PyProof.Rows
section
variable {M : Model} {A : Around} {E : Value → Shared → Prop} {s : Shared} {base : Heap} {env : Env} {outer l : List Env} {L e : Addr} {cls : Value} {dd : Option Addr} {fl : Value}
theorem note_any {Q : Unit → Shared → Prop} (hfr : A.frames = some (env :: outer)) (hf : env.frame = some L) (S : Sea base (env :: outer) e s.heap) (O : XTr s.heap base e cls dd fl)
    (k : ∀ h', Sea base (env :: outer) e h' → XTr h' base e cls dd (rawInt L) → s.heap.UpToSlots h' → Q () { s with heap := h' }) : wpAny M A (noteFrame (.ref e) env) Q E s := by
  by_cases z : (fl == rawInt L) = true
  · have e1 : fl = rawInt L := by simpa using z
    subst e1
    exact note_again hf O (k s.heap S O fun b o q _ => ⟨o.slots, q⟩)
  obtain ⟨T, ⟨vs, sl, he, h1⟩, tb, ne, oT, ts, hT, dT, h3⟩ := O
  unfold noteFrame
  simp only [hf]
  refine wpAny_bind (wpAny_field he rfl h1 ?_)
  rw [if_pos (show (Value.ref T != Value.none) = true by simp)]
  refine wpAny_bind (wpAny_field hT dT h3 ?_)
  rw [if_neg z]
  refine wpAny_bind (wpAny_setField hT dT (Array.getElem?_eq_some_iff.mp h3).1 ?_)
  have oth : ∀ b, b ≠ T → (s.heap.update T (Obj.mapFields (·.setIfInBounds 3 Value.none))).get? b = s.heap.get? b := fun b hb => Heap.get?_update_other _ _ (Ne.symm hb)
  have nT : ∀ b o, s.heap.get? b = some o → (∀ ws, o.data ≠ .fields ws) → b ≠ T := fun b o q hn z => by
    rw [z, hT] at q
    cases q
    exact hn ts dT
  refine entry_x (hd0 := .ref T) (s := { s with heap := s.heap.update T (Obj.mapFields (·.setIfInBounds 3 Value.none)) }) hfr hf ⟨fun b o q => ?_, S.new, ?_⟩ ⟨vs, sl, (oth e (Ne.symm ne)).trans he, h1⟩ fun h' a b c => k h' a b fun x o q hn => ?_
  · exact (oth b fun z => by rw [z, tb] at q; cases q).trans (S.stays b o q)
  · exact S.frames.of_keeps fun b o q hn => ⟨o, (oth b (nT b o q hn)).trans q, rfl⟩
  · exact c x o ((oth x (nT x o q hn)).trans q) hn
theorem leave_any {Q : Unit → Shared → Prop} (hfr : A.frames = some (env :: outer)) (hf : env.frame = some L) (S : Sea base (env :: outer) e s.heap) (O : XTr s.heap base e cls dd fl)
    (k : ∀ h', Sea base outer e h' → XTr h' base e cls dd .none → s.heap.UpToSlots h' → Q () { s with heap := h' }) : wpAny M A (leaving env (.ref e)) Q E s := by
  unfold leaving
  refine wpAny_bind (note_any hfr hf S O fun h1 S1 O1 u1 => ?_)
  exact flight_off (s := { s with heap := h1 }) S1 O1 fun h2 S2 O2 u2 => k h2 (Sea.tail (s := { s with heap := h2 }) S2) O2 (u1.trans u2)
/-- the flight mark is set anew -/
theorem flight_set {Q : Unit → Shared → Prop} (f : Option Addr) (S : Sea base l e s.heap) (O : XTr s.heap base e cls dd fl)
    (k : ∀ h' fl', Sea base l e h' → XTr h' base e cls dd fl' → s.heap.UpToSlots h' → Q () { s with heap := h' }) : wpAny M A (setFlight (.ref e) f) Q E s := by
  obtain ⟨T, ⟨vs, sl, he, h1⟩, tb, ne, oT, ts, hT, dT, h3⟩ := O
  have sz : 3 < ts.size := (Array.getElem?_eq_some_iff.mp h3).1
  unfold setFlight
  refine wpAny_bind (wpAny_field he rfl h1 ?_)
  rw [if_pos (show (Value.ref T != Value.none) = true by simp)]
  have oth : ∀ b, b ≠ T → (s.heap.update T (Obj.mapFields (·.setIfInBounds 3 (f.elim Value.none fun g => rawInt g)))).get? b = s.heap.get? b := fun b hb => Heap.get?_update_other _ _ (Ne.symm hb)
  have nT : ∀ b o, s.heap.get? b = some o → (∀ ws, o.data ≠ .fields ws) → b ≠ T := fun b o q hn z => by
    rw [z, hT] at q
    cases q
    exact hn ts dT
  refine wpAny_setField hT dT sz (k _ (f.elim Value.none fun g => rawInt g) ⟨fun b o q => ?_, S.new, ?_⟩ ⟨T, ⟨vs, sl, (oth e (Ne.symm ne)).trans he, h1⟩, tb, ne, _, ts.setIfInBounds 3 (f.elim Value.none fun g => rawInt g), Heap.get?_update_self _ hT ?_, ?_, ?_⟩ fun b o q hn => ⟨o.slots, (oth b (nT b o q hn)).trans q⟩)
  · exact (oth b fun z => by rw [z, tb] at q; cases q).trans (S.stays b o q)
  · exact S.frames.of_keeps fun b o q hn => ⟨o, (oth b (nT b o q hn)).trans q, rfl⟩
  · (rw [fields_set dT]; try rfl)
  · (rw [fields_set dT]; try rfl)
  · rw [Array.getElem?_setIfInBounds_self_of_lt sz]
theorem pass_any {α : Type} {Q : α → Shared → Prop} (what : String) (cenv : Env) (S : Sea base l e s.heap) (O : XTr s.heap base e cls dd fl)
    (k : ∀ h' fl', Sea base l e h' → XTr h' base e cls dd fl' → s.heap.UpToSlots h' → E (.ref e) { s with heap := h' }) : wpAny M A (PySem.passOn what (.ref e) cenv : Sem α) Q E s := by
  have O' := O
  obtain ⟨T, ⟨vs, sl, he, h1⟩, tb, ne, oT, ts, hT, dT, h3⟩ := O
  unfold PySem.passOn
  refine wpAny_bind (wpAny_field he rfl h1 ?_)
  rw [if_neg (show ¬ ((Value.ref T == Value.none) = true) by simp)]
  refine wpAny_bind (flight_set _ S O' fun h' fl' a b c => ?_)
  exact wpAny_throw (k h' fl' a b c)
end
/-- how an exception lies that a frame may have noted -/
def CXA (P : Program) (w : World) : CXT := fun outer H s E e s' => ∃ (ea : Addr) (cls : Value) (dx : Option Addr) (fl : Value) (B : Heap) (H' : Hp), e = .ref ea ∧ s'.os = s.os ∧ AllBare s'.gens ∧ Un (frs outer) [] H H' s.heap s'.heap ∧
  HOk P w H' s'.heap ∧ Sea B outer ea s'.heap ∧ XTr s'.heap B ea cls dx fl ∧ Old (frs outer) H s.heap B ∧ Tra H' s'.heap B ∧ E cls dx H'
/-- what a context makes of exceptions that it has noted -/
structure ThrN (X : Cx) (E : XK) : Prop where
  fr : X.env.frame = some X.env.locals
  st : X.stack = X.env :: X.outer
  noted : ∀ (pins : List (Addr × Obj)) (σ : St) (H : Hp) (s : Shared) (e : Value) (s' : Shared), Inv X pins σ H s → CXA X.prog X.w X.stack H s E e s' → X.xe e s'
theorem thrN_fn {P : Program} {w : World} {K : PySem.W.Frag} {mg : Str → Option Value} {base : Heap} {N : List Str} {qual : Str} {scope : Scope} {f : Addr} {cd : Value} {A : Around} {outer : List Env} {s₀ : Shared} {H₀ : Hp} {E : XK} :
    ThrN (cxOf (CX1 P w) P w K mg base N qual scope f cd A outer s₀ H₀ E) E where
  fr := rfl
  st := rfl
  noted := by
    rintro pins σ H s e s' I ⟨ea, cls, dx, fl, B, H', rfl, os, bare, un, hok, sea, tr, old, tra, q⟩
    refine leave_any (A := (cxOf (CX1 P w) P w K mg base N qual scope f cd A outer s₀ H₀ E).A) I.ok.frames rfl sea tr fun h2 S2 O2 u2 => ?_
    refine ⟨ea, cls, dx, B, H', rfl, os.trans I.os, bare, ?_, hok_flown hok tra S2.stays, S2, O2, old_out I rfl old, tra.later S2.stays, q⟩
    exact un_out I rfl rfl rfl (un_flown un old S2.stays u2 (frames_are I un))
theorem note_comp (e : Value) (scope : Scope) (cl : List (Str × Addr)) (C : Addr) (env : Env) : noteFrame e (compEnvC scope cl C env) = noteFrame e env := by
  unfold noteFrame PySem.frameOf
  rfl
section
variable {X : Cx} {pins : List (Addr × Obj)} {σ : St} {H H' : Hp} {s : Shared} {C ea : Addr} {cls : Value} {dx : Option Addr} {B h1 h2 h3 : Heap} {fl : Value}
/-- hiding C in both -/
theorem un_hide (un : Un (frs X.stack) [] H H' s.heap h1) : Un (frs X.stack) [] H H' (PySem.W.hideAll s.heap [C]) (PySem.W.hideAll h1 [C]) where
  keep := fun b o q n hb hx => by
    have hC : b ∉ [C] := fun z => by rw [PySem.W.hideAll_none _ z] at q; cases q
    exact PySem.W.hideAll_get _ (un.keep b o (PySem.W.of_hideAll _ q) n hb hx) hC
  slot := fun b o q n hb hx => by
    have hC : b ∉ [C] := fun z => by rw [PySem.W.hideAll_none _ z] at q; cases q
    obtain ⟨sl, e⟩ := un.slot b o (PySem.W.of_hideAll _ q) n hb hx
    exact ⟨sl, PySem.W.hideAll_get _ e hC⟩
  free := fun b o q n hx => un.free b o (PySem.W.of_hideAll _ q) n hx
  there := fun b o q hx => by
    have hC : b ∉ [C] := fun z => by rw [PySem.W.hideAll_none _ z] at q; cases q
    obtain ⟨o', e⟩ := un.there b o (PySem.W.of_hideAll _ q) hx
    exact ⟨o', PySem.W.hideAll_get _ e hC⟩
  tups := un.tups
  frzs := un.frzs
  tbls := un.tbls
/-- all of it, with C hidden ahead and behind -/
theorem cx_hide {s' : Shared} {E : XK} (I : Inv X pins σ H s) (hC : H C = none) (hCs : ∃ o, s.heap.get? C = some o) (nf : C ∉ frs X.stack) (nfe : ∀ env ∈ X.stack, ∀ a ∈ [C], env.frame ≠ some a)
    (os : s'.os = s.os) (bare : AllBare s'.gens) (un : Un (frs X.stack) [] H H' s.heap s'.heap) (hok : HOk X.prog X.w H' s'.heap) (old : Old (frs X.stack) H s.heap B) (tra : Tra H' s'.heap B)
    (S1 : Sea B X.stack ea h1) (u1 : s'.heap.UpToSlots h1) (sb : Heap.SameBut C h1 h2) (q : E cls dx H')
    (S3 : Sea (PySem.W.hideAll B [C]) X.stack ea h3) (O3 : XTr h3 (PySem.W.hideAll B [C]) ea cls dx fl) (u3 : h2.UpToSlots h3) :
    CXA X.prog X.w X.stack H { s with heap := PySem.W.hideAll s.heap [C] } E (.ref ea) { s' with heap := h3 } := by
  have ne : ∀ {h : Heap} {b : Addr} {o : Obj}, (PySem.W.hideAll h [C]).get? b = some o → b ∉ [C] := fun {h b o} q z => by rw [PySem.W.hideAll_none _ z] at q; cases q
  have old' : Old (frs X.stack) H (PySem.W.hideAll s.heap [C]) (PySem.W.hideAll B [C]) := fun b u e hb => by
    obtain ⟨u', e1, z⟩ := old b u (PySem.W.of_hideAll _ e) hb
    exact ⟨u', PySem.W.hideAll_get _ e1 (ne e), z⟩
  have C' : H' C = none := by
    obtain ⟨o, ho⟩ := hCs
    exact un.free C o ho hC (by simp)
  have tra' : Tra H' s'.heap (PySem.W.hideAll B [C]) := fun b o e => by
    obtain ⟨u, e1, e2⟩ := tra b o e
    exact ⟨u, e1, PySem.W.hideAll_get _ e2 fun z => by rw [List.mem_singleton.mp z, C'] at e; cases e⟩
  have up : (PySem.W.hideAll s'.heap [C]).UpToSlots h3 := fun b o e hn => by
    have nC := ne e
    obtain ⟨sl, e1⟩ := u1 b o (PySem.W.of_hideAll _ e) hn
    have e2 : h2.get? b = some { o with slots := sl } := (sb.2 b fun z => nC (by rw [z]; exact List.mem_singleton.mpr rfl)).trans e1
    obtain ⟨sl', e3⟩ := u3 b _ e2 hn
    exact ⟨sl', e3⟩
  refine ⟨ea, cls, dx, fl, PySem.W.hideAll B [C], H', rfl, os, bare, ?_, hok_flown hok tra' S3.stays, S3, O3, old', tra'.later S3.stays, q⟩
  refine un_flown (un_hide (C := C) un) old' S3.stays up fun b hb => ?_
  obtain ⟨o, e, hn⟩ := frames_are I un b hb
  exact ⟨o, PySem.W.hideAll_get _ e (fun z => nf (by rw [← List.mem_singleton.mp z]; exact hb)), hn⟩
end
section
variable {X : Cx} {pins : List (Addr × Obj)} {σ : St} {H2 : Hp} {s2 : Shared} {M : List Str} {x : Str} {scope : Scope} {cl : List (Str × Addr)} {C : Addr} {fp : List Addr} {E : XK} {Qe : Value → Shared → Prop} {acc : Value}
theorem thr_comp (I2 : Inv X pins σ H2 s2) (TN : ThrN X E) (hCle : s2.heap.objs.size ≤ C) (f2 : ∀ b ∈ fp, FpOk X pins H2 b) :
    Thr ((compCx X M x scope cl C s2 H2 fp).wish (notedBy (model X.prog X.w) X.A (compEnvC scope cl C X.env) fun e s' => compPost (model X.prog X.w) X.A X.xe none Qe acc C (.error e) s')) (fun c d _ H' => E c d H') := by
  have nf : C ∉ frs X.stack := fun z => by
    obtain ⟨_, o, ho, _⟩ := I2.stack.mem z
    exact Nat.lt_irrefl _ (Nat.lt_of_lt_of_le (Heap.lt_size ho) hCle)
  have nfe : ∀ env ∈ X.stack, ∀ a ∈ [C], env.frame ≠ some a := fun env he a ha z => nf (by rw [← List.mem_singleton.mp ha]; exact List.mem_filterMap.mpr ⟨env, he, z⟩)
  have hfr : X.A.frames = some (X.env :: X.outer) := by rw [I2.ok.frames, TN.st]
  have core : ∀ {pins' : List (Addr × Obj)} {σ' : St} {H H' : Hp} {s s' : Shared} {ea : Addr} {cls : Value} {dx : Option Addr} {B h1 : Heap},
      Inv (compCx X M x scope cl C s2 H2 fp) pins' σ' H s → s'.os = s.os → AllBare s'.gens → Un (frs X.stack) [] H H' s.heap s'.heap → HOk X.prog X.w H' s'.heap → Old (frs X.stack) H s.heap B → Tra H' s'.heap B → E cls dx H' →
      Sea B X.stack ea h1 → XTr h1 B ea cls dx (rawInt X.env.locals) → s'.heap.UpToSlots h1 → compPost (model X.prog X.w) X.A X.xe none Qe acc C (.error (.ref ea)) { s' with heap := h1 } := by
    intro pins' σ' H H' s s' ea cls dx B h1 I' os bare un hok old tra q S1 O1 u1
    have IO : Inv X pins σ H s := I2.call' (ch := fp) I'.os I'.base I'.hok I'.bare fun b hb => ⟨(f2 b hb).2.2.2.1, (f2 b hb).2.1, (f2 b hb).2.2.2.2.1, (f2 b hb).2.2.2.2.2⟩
    have hC : H C = none := I'.free
    have fC := I2.fpOk hCle (show H C = none from hC)
    obtain ⟨m, ⟨o, es, ep, ho, hd, sk, fd⟩, _⟩ := I'.loc
    have ho : s.heap.get? C = some o := ho
    have e1 := un.keep C o ho hC nf (by simp)
    obtain ⟨sl, e2⟩ := u1 C o e1 (fun vs z => by rw [hd] at z; cases z)
    refine ⟨m, ⟨{ o with slots := sl }, es, ep, e2, hd, sk, fd⟩, fun h2 sb cenv hcenv => ?_⟩
    have ne : ∀ {h : Heap} {b : Addr} {o : Obj}, (PySem.W.hideAll h [C]).get? b = some o → b ≠ C := fun {h b o} q z => by rw [PySem.W.hideAll_none _ (List.mem_singleton.mpr z)] at q; cases q
    have dC : ∀ {b : Addr} {ob : Obj} {vs : Array Value}, h1.get? b = some ob → ob.data = .fields vs → b ≠ C := fun {b ob vs} q z y => by
      rw [y, e2] at q
      cases q
      rw [show ({ o with slots := sl } : Obj).data = o.data from rfl, hd] at z
      cases z
    have S2 : Sea (PySem.W.hideAll B [C]) X.stack ea h2 := by
      refine ⟨fun b ob q => (sb.2 b (ne q)).trans (S1.stays b ob (PySem.W.of_hideAll _ q)), ?_, ?_⟩
      · cases hh : (PySem.W.hideAll B [C]).get? ea with
        | none => rfl
        | some u =>
          have := PySem.W.of_hideAll _ hh
          rw [S1.new] at this
          cases this
      · refine PySem.W.funFrames_base (B := B) (fun b ob q => PySem.W.of_hideAll _ q) ?_
        exact (PySem.W.funFrames_hideAll S1.frames nfe).of_keeps fun b ob q hn => ⟨ob, (sb.2 b (ne q)).trans (PySem.W.of_hideAll _ q), rfl⟩
    have O2 : XTr h2 (PySem.W.hideAll B [C]) ea cls dx (rawInt X.env.locals) := by
      obtain ⟨T, ⟨vs, sl', he, hv⟩, tb, nT, oT, ts, hT, dT, h3⟩ := O1
      refine ⟨T, ⟨vs, sl', (sb.2 ea (dC he rfl)).trans he, hv⟩, ?_, nT, oT, ts, (sb.2 T (dC hT dT)).trans hT, dT, h3⟩
      cases hh : (PySem.W.hideAll B [C]).get? T with
      | none => rfl
      | some u =>
        have := PySem.W.of_hideAll _ hh
        rw [tb] at this
        cases this
    refine pass_any (s := { s' with heap := h2 }) _ cenv S2 O2 fun h3 fl' S3 O3 u3 => ?_
    refine TN.noted pins σ H { s with heap := PySem.W.hideAll s.heap [C] } _ _ ?_ (cx_hide (s' := s') IO hC ⟨o, ho⟩ nf nfe os bare un hok old tra S1 u1 sb q S3 O3 u3)
    exact IO.turned (t' := s.toks) (fun b ob hb e => PySem.W.hideAll_get _ e fun z => hb (List.mem_singleton.mp z)) fC.1 fC.2.1 fC.2.2.2.1 fC.2.2.2.2.1 fC.2.2.2.2.2
  refine ⟨fun pins' σ' H s e s' I' h => ?_, fun pins' σ' H s e s' I' h => ?_⟩
  · obtain ⟨ea, cls, dx, B, H', rfl, os, bare, un, hok, sea, tr, old, tra, q⟩ := h
    show wpAny _ _ (noteFrame (.ref ea) (compEnvC scope cl C X.env)) _ _ s'
    rw [note_comp]
    refine note_any hfr TN.fr (by rw [← TN.st]; exact sea) tr fun h1 S1 O1 u1 => ?_
    rw [← TN.st] at S1
    exact core (I'.wish _) os bare un hok old tra q S1 O1 u1
  · obtain ⟨ea, cls, dx, B, H', rfl, os, bare, un, hok, sea, tr, old, tra, q⟩ := h
    show wpAny _ _ (noteFrame (.ref ea) (compEnvC scope cl C X.env)) _ _ s'
    rw [note_comp]
    refine note_new hfr TN.fr (by rw [← TN.st]; exact sea) tr fun h1 S1 O1 u1 => ?_
    rw [← TN.st] at S1
    exact core (I'.wish _) os bare un hok old tra q S1 O1 u1
end
section
variable {X : Cx}
theorem comp_coreE {E : XK} (TN : ThrN X E) {M : List Str} {elt iter : Expr} {x : Str} {px pos : Pos} {ifs : List Expr} {scope : Scope} {cl : List (Str × Addr)} {tt : TT} {te : TE} (hc : X.calm = true) (ok : CompOk X M x scope cl)
    (ht : ∀ C s₀ H₀ fp, PIfs (compCx X M x scope cl C s₀ H₀ fp) ifs tt) (he : ∀ C s₀ H₀ fp xe, Thr ((compCx X M x scope cl C s₀ H₀ fp).wish xe) (fun c d _ H' => E c d H') → PE ((compCx X M x scope cl C s₀ H₀ fp).wish xe) elt te)
    {pins : List (Addr × Obj)} {σ : St} {H2 : Hp} {s2 : Shared} {it : Addr} {fp : List Addr} {tn : Nat → Heap → Prop} {J : It} {Q : VK} (I2 : Inv X pins σ H2 s2) (T : Turn X.prog X.w X.K (.Name x px) J fp it tn) (st2 : tn 0 s2.heap) (f2 : ∀ b ∈ fp, FpOk X pins H2 b)
    (hW : CompR tt te σ Q J H2) (Qe : Value → Shared → Prop)
    (fin : ∀ D C H3 s4, Inv X pins σ H3 s4 → (∃ m, s4.heap.Ns C m) → FpOk X pins H3 C → Q (.ref D) H3 → compPost (model X.prog X.w) X.A X.xe none Qe (.ref D) C (.ok .next) s4) :
    wpAny (model X.prog X.w) X.A (newList []) (fun acc s₃ => wpAny (model X.prog X.w) X.A (newFunctionEnv scope X.env.globals cl [] X.env.qual none .none (some X.env)) (fun cenv s₄ =>
      codeAny (model X.prog X.w) X.A (.compStart (.ListComp elt [⟨.Name x px, iter, ifs, 0⟩] scope pos) 0 (.ref it) acc { cenv with scope := relabel scope X.env }) (compPost (model X.prog X.w) X.A X.xe none Qe acc cenv.locals) s₄) X.xe s₃) X.xe s2 := by
  refine wpAny_newObj_type (wpAny_newFunctionEnv ok.cell (by intro y hy; simp at hy) (fun h₁ hns₁ hsb₁ => ?_) ok.kind)
  dsimp only at hns₁ hsb₁ ⊢
  generalize hH2 : s2.heap.push { cls := .type "list", dict := none, data := .seq ([] : List Value).toArray } = G2 at hns₁ hsb₁ ⊢
  have hC : G2.objs.size = s2.heap.objs.size + 1 := by rw [← hH2, Heap.size_push]
  have hDC : s2.heap.objs.size ≠ G2.objs.size := by rw [hC]; exact Nat.ne_of_lt (Nat.lt_succ_self _)
  have hCle : s2.heap.objs.size ≤ G2.objs.size := by rw [hC]; exact Nat.le_succ _
  have below : ∀ b, b < s2.heap.objs.size → b ≠ G2.objs.size ∧ b ≠ s2.heap.objs.size := fun b hb => ⟨by rw [hC]; exact Nat.ne_of_lt (Nat.lt_succ_of_lt hb), Nat.ne_of_lt hb⟩
  have old : ∀ b o, s2.heap.get? b = some o → h₁.get? b = some o := fun b o e => hsb₁.extBut b o (below b (Heap.lt_size e)).1 (Heap.get?_push_of_some _ (hH2 ▸ Heap.get?_push_of_some _ e))
  have hacc : h₁.get? s2.heap.objs.size = some { cls := .type "list", data := .seq ([] : List Value).toArray } := hsb₁.extBut _ _ hDC (Heap.get?_push_of_some _ (hH2 ▸ Heap.get?_push_size _ rfl))
  have fpb : ∀ b ∈ fp, b < s2.heap.objs.size := fun b hb => by
    obtain ⟨o, e, _⟩ := T.obj _ _ st2 b hb
    exact Heap.lt_size e
  have hD0 : H2 s2.heap.objs.size = none := I2.hok.fresh (Nat.le_refl _)
  have hC0 : H2 G2.objs.size = none := I2.hok.fresh hCle
  generalize hDD : s2.heap.objs.size = D at *
  generalize hCC : G2.objs.size = C at *
  obtain ⟨W, ⟨m0, w0⟩, turn⟩ := hW D hD0
  have okX : (compCx X M x scope cl C s2 H2 fp).Ok := comp_ok I2 ok (by rw [hDD]; exact hCle) f2 (by rw [hDD]; exact fpb)
  have lenN : (none :: σ : St).length = (compCx X M x scope cl C s2 H2 fp).N.length := by
    show (none :: σ).length = (x :: M).length
    rw [List.length_cons, List.length_cons, I2.len, ok.len]
  -- the values of the names around it, seen from within
  have locs : ∀ (h' : Heap) (m : Str → Option Value) (w' : Option V), (∀ y c, X.env.cells.lookup y = some c → ∀ v, s2.heap.IsCell c v → h'.IsCell c v) → w' = none →
      ∀ (i : Nat) (y : Str) (v : V), (x :: M)[i]? = some y → (w' :: σ : St)[i]? = some (some v) → Vis (relabel scope X.env) y → ∃ u, RelV v u ∧ Look (compEnvC scope cl C X.env) h' m y u := by
    intro h' m w' hcell hw i y v e1 e2 e3
    subst hw
    cases i with
    | zero => simp at e2
    | succ i =>
      have e0 : M[i]? = some y := by simpa using e1
      have e2' : σ[i]? = some (some v) := by simpa using e2
      obtain ⟨e1', k1, k2⟩ := ok.vis i y e0 e3
      obtain ⟨m2, _, hl⟩ := I2.loc
      obtain ⟨u, r, l⟩ := hl i y v e1' e2' (k2.elim (fun z => .inr (.inl z)) fun z => .inr (.inr z))
      obtain ⟨c', hc'⟩ := ok.has y k1
      rcases l with ⟨z, _⟩ | ⟨_, c, hcc, z⟩
      · have z' : X.env.scope.names.lookup y = some .local := z
        rcases k2 with q | q <;> (rw [q] at z'; cases z')
      · have q := ok.sub y c' hc'
        rw [hcc] at q
        cases q
        exact ⟨u, r, .inr ⟨k1, c', hc', hcell y c' hcc _ z⟩⟩
  have I0 : Inv (compCx X M x scope cl C s2 H2 fp) [] (none :: σ) (upd H2 D (.lst [])) { s2 with heap := h₁, toks := s2.toks + ([] : List (Str × Value)).length } := by
    refine ⟨okX, rfl, I2.bare, ?_, ⟨_, hns₁, locs h₁ _ none (fun y c e v z => ?_) rfl⟩, fun y c e => ?_, ?_, fun y c e => ?_, fun p hp => ?_, ?_, lenN⟩
    · exact Un.laid old (Nat.le_of_eq hDD) hD0
    · obtain ⟨o, ho, hd⟩ := z
      exact ⟨o, old c o ho, hd⟩
    · obtain ⟨v, o, ho, hd⟩ := I2.cell y c (ok.sub y c e)
      exact ⟨v, o, old c o ho, hd⟩
    · show upd H2 D (.lst []) C = none
      rw [upd_ne (Ne.symm hDC)]
      exact hC0
    · have hn := I2.freeC y c (ok.sub y c e)
      obtain ⟨v, o, ho, hd⟩ := I2.cell y c (ok.sub y c e)
      rw [upd_ne (fun z => by have := Heap.lt_size ho; rw [hDD, z] at this; exact Nat.lt_irrefl _ this)]
      exact hn
    · exact absurd hp (by show p ∉ ([] ++ [] : List (Addr × Obj)); simp)
    · refine I2.hok.laid old (Nat.le_of_eq hDD) ⟨Nat.zero_le _, [], _, .nil, hacc⟩
  have fpk : ∀ {H' : Hp}, (∀ b ∈ fp, H' b = none) → ∀ b ∈ fp, FpOk (compCx X M x scope cl C s2 H2 fp) [] H' b := fun hn b hb => by
    refine ⟨hn b hb, (below b (fpb b hb)).1, okX.exfs b hb, .inl hb, fun y c e => (f2 b hb).2.2.2.2.1 y c (ok.sub y c e), fun p hp => ?_⟩
    exact absurd hp (by show p ∉ ([] ++ [] : List (Addr × Obj)); simp)
  have loop : ∀ s₃ : Shared, s₃ = { s2 with heap := h₁, toks := s2.toks + ([] : List (Str × Value)).length } →
      codeAny (model X.prog X.w) X.A (.compLoop (.ListComp elt [⟨.Name x px, iter, ifs, 0⟩] scope pos) 0 (.ref it) (.ref D) (compEnvC scope cl C X.env))
        (compPost (model X.prog X.w) X.A X.xe none Qe (.ref D) C) s₃ := by
    rintro s₃ rfl
    refine codeAny_compLoop_tests (fun n s' => ∃ i ys w' H', Inv (compCx X M x scope cl C s2 H2 fp) [] (w' :: σ) H' s' ∧ tn i s'.heap ∧ (∀ b ∈ fp, H' b = none) ∧ W i n ys H') ?_ m0
      ⟨0, [], none, _, I0, T.keep _ _ _ st2 (fun b _ o e => old b o e), fun b hb => by rw [upd_ne (below b (fpb b hb)).2]; exact (f2 b hb).1, w0⟩
    rintro n s3 ⟨i, ys, w3, H3, I3, st3, fr3, wt⟩
    obtain ⟨hD3, hh⟩ := turn i n ys H3 wt
    rcases hh with ⟨stop, q⟩ | ⟨go, hlen, m', hm, step⟩
    · refine thn (T.done (compCx X M x scope cl C s2 H2 fp) rfl rfl rfl hc i [] s3 (w3 :: σ) H3 _ I3 (fpk fr3) st3 stop) fun r s4 ⟨hr, I4⟩ => ?_
      subst hr
      obtain ⟨m4, hn4, _⟩ := id I4.loc
      have hC4 : H3 C = none := I4.free
      exact fin D C H3 s4 (I2.call' (ch := fp) I4.os I4.base I4.hok I4.bare fun b hb => ⟨(f2 b hb).2.2.2.1, (f2 b hb).2.1, (f2 b hb).2.2.2.2.1, (f2 b hb).2.2.2.2.2⟩) ⟨m4, hn4⟩ (I2.fpOk (by rw [hDD]; exact hCle) hC4) q
    · refine wpAny_mono (T.item (compCx X M x scope cl C s2 H2 fp) rfl rfl rfl hc i [] s3 (w3 :: σ) H3 (fun _ _ => False) I3 (fpk fr3) st3 go) (fun r s4 h4 => ?_) (fun _ _ z => z.elim)
      obtain ⟨u, hr, h4⟩ := h4
      subst hr
      refine (show wpAny (model X.prog X.w) X.A (letOwnedTupleGo (.Name x px) (.ref it) u >>= fun _ => assign (.Name x px) (compEnvC scope cl C X.env) u) _ _ _ from wpAny_bind (wpAny_mono h4 (fun _ s4 h4 => ?_) (fun _ _ z => z.elim)))
      obtain ⟨x', H5, I5, r5, y5, st5, fr5⟩ := h4
      have I5' := I5.pinned (fpk fr5) (T.obj _ _ st5)
      refine wpAny_assign_Name (store_ok (X := compCx X M x scope cl C s2 H2 fp) (i := 0) I5' ok.nd rfl (.inl (lookup_relabel_local ok.xl)) r5 (fun s6 I6 => ?_) (.inr (lookup_relabel_local ok.xl)))
      have I6' : Inv (compCx X M x scope cl C s2 H2 fp) ([] ++ pinsAt fp s4.heap) (some x' :: σ) H5 s6 := I6
      have back : ∀ {s7 : Shared} {H7 : Hp} {w7 : Option V}, Inv (compCx X M x scope cl C s2 H2 fp) ([] ++ pinsAt fp s4.heap) (w7 :: σ) H7 s7 → tn (i + 1) s7.heap ∧ (∀ b ∈ fp, H7 b = none) ∧ Inv (compCx X M x scope cl C s2 H2 fp) [] (w7 :: σ) H7 s7 := fun {s7 H7 w7} I7 => by
        refine ⟨T.keep _ _ _ st5 fun b hb o e => (I7.pin (b, o) (List.mem_append_right _ (List.mem_append_right _ (mem_pinsAt hb e)))).1, fun b hb => ?_, I7.unpinned⟩
        obtain ⟨o, e, d⟩ := T.obj _ _ st5 b hb
        exact (I7.pin (b, o) (List.mem_append_right _ (List.mem_append_right _ (mem_pinsAt hb e)))).2.1
      refine wpAny_mono (ht C s2 H2 fp _ s6 _ H5 _ I6' (step x' H5 y5)) (fun ok' s7 h7 => ?_) (fun _ _ z => z.elim)
      obtain ⟨H7, I7, q7⟩ := h7
      cases ok' with
      | false =>
        have q7' : W (i + 1) m' ys H7 := by simpa using q7
        rw [if_neg Bool.false_ne_true]
        obtain ⟨b1, b2, b3⟩ := back I7
        exact ⟨m', hm, i + 1, ys, _, H7, b3, b1, b2, q7'⟩
      | true =>
        rw [if_pos rfl] at q7 ⊢
        refine wpAny_mono (he C s2 H2 fp _ (thr_comp (Qe := Qe) (acc := .ref D) I2 TN (by rw [hDD]; exact hCle) f2) _ s7 _ H7 _ (I7.wish _) q7) (fun y s8 h8 => ?_) (fun _ _ z => z)
        obtain ⟨v8, H8, I8w, r8, hD8, w8⟩ := h8
        have I8 := I8w.unwish
        refine wpAny_mono (mt_append (X := compCx X M x scope cl C s2 H2 fp) _ s8 _ H8 (.ref D) [v8] (.ref D) [y] (fun _ H9 => H9 = upd H8 D (.lst (ys ++ [v8]))) I8 rfl (.cons r8 .nil) ⟨D, ys, v8, rfl, rfl, hD8, hlen, rfl⟩) (fun _ s9 h9 => ?_) (fun _ _ z => z.elim)
        obtain ⟨v9, H9, I9, _, e9⟩ := h9
        subst e9
        obtain ⟨b1, b2, b3⟩ := back I9
        exact ⟨m', hm, i + 1, _, _, _, b3, b1, b2, w8⟩
  exact codeAny_compStart_list (loop _ rfl) (T.self _ 0 _ _ _ (T.keep _ _ _ st2 (fun b _ o e => old b o e)) (loop _ rfl))
theorem pe_compE {E : XK} (TN : ThrN X E) {M : List Str} {elt iter : Expr} {x : Str} {px pos : Pos} {ifs : List Expr} {scope : Scope} {cl : List (Str × Addr)} {wi : TI} {tt : TT} {te : TE} (hc : X.calm = true) (ok : CompOk X M x scope cl) (hi : PI X (.Name x px) iter wi)
    (ht : ∀ C s₀ H₀ fp, PIfs (compCx X M x scope cl C s₀ H₀ fp) ifs tt) (he : ∀ C s₀ H₀ fp xe, Thr ((compCx X M x scope cl C s₀ H₀ fp).wish xe) (fun c d _ H' => E c d H') → PE ((compCx X M x scope cl C s₀ H₀ fp).wish xe) elt te)
    (hs : ∀ x, foldedSetIterable iter X.env x = pure x := by intro _; rfl) :
    PE X (.ListComp elt [⟨.Name x px, iter, ifs, 0⟩] scope pos) (tComp wi tt te) := by
  intro pins s σ H Q I h
  rw [eval_ListComp]
  refine wpAny_comprehension_free (use := none) rfl hs ok.clos ok.kind ok.names (thn (hi pins s σ H _ I h) fun xv s1 h1 => thn h1 fun itv s2 h2 => ?_)
  obtain ⟨it, fp, tn, J, H2, e, I2, T, st2, f2, hW⟩ := h2
  subst e
  refine comp_coreE TN hc ok ht he I2 T st2 f2 hW (EP X pins σ Q) fun D C H3 s4 I4 hm fC q => ?_
  obtain ⟨m, hn⟩ := hm
  exact ⟨m, hn, fun h' hsb => ⟨.ref D, H3, I4.turned (t' := s4.toks) (fun b o hb e => hsb.extBut b o hb e) fC.1 fC.2.1 fC.2.2.2.1 fC.2.2.2.2.1 fC.2.2.2.2.2, rfl, q⟩⟩
end
end L2

set_option Elab.async false
set_option linter.all false
set_option maxRecDepth 100000
set_option maxHeartbeats 4000000
local macro_rules | `(tactic| walk_at "rd1") => `(tactic| first
  | with_reducible refine L2.rd_seq ?_ | with_reducible refine L2.rd_ret ?_ | with_reducible refine L2.rd_asg ?_ | with_reducible refine L2.rd_ifS ?_ | with_reducible refine L2.rd_next ?_ | with_reducible refine L2.rd_drop ?_
  | with_reducible refine L2.rd_op ?_ | ((with_reducible refine' L2.rd_var ?ev ?_); (case ev => exact rfl)) | with_reducible refine L2.rd_c ?_ | with_reducible refine L2.rd_un ?_ | with_reducible refine L2.rd_test ?_ | with_reducible refine L2.rd_b ?_
  | with_reducible refine L2.rd_i0 ?_ | with_reducible refine L2.rd_u ?_ | ((with_reducible refine' L2.rd_eq ?es ?_); (case es => exact rfl)) | ((with_reducible refine' L2.rd_ne ?es ?_); (case es => exact rfl))
  | with_reducible refine L2.rd_bl ?_ | with_reducible refine L2.rd_not ?_ | with_reducible refine L2.rd_and ?_ | with_reducible refine L2.rd_or ?_ | with_reducible refine L2.rd_andV ?_ | with_reducible refine L2.rd_orV ?_ | with_reducible refine L2.rd_notV ?_ | with_reducible refine L2.rd_chain ?_
  | with_reducible refine L2.rd_call ?_ | with_reducible refine L2.rd_cb ?_ | with_reducible refine L2.rd_nil ?_ | with_reducible refine L2.rd_cons ?_ | with_reducible refine L2.rd_tup ?_ | with_reducible refine L2.rd_lst ?_
  | with_reducible refine L2.rd_bm0 ?_ | with_reducible refine L2.rd_makeD ?_ | with_reducible refine L2.rd_fld ?_ | with_reducible refine L2.rd_sfld ?_ | with_reducible refine L2.rd_meth ?_ | with_reducible refine L2.rd_methL ?_ | with_reducible refine L2.rd_lr ?_ | with_reducible refine L2.rd_lra ?_ | with_reducible refine L2.rd_slice ?_ | with_reducible refine L2.rd_part ?_ | with_reducible refine L2.rd_exI ?_ | with_reducible refine L2.rd_noPart ?_ | with_reducible refine L2.rd_tru ?_ | with_reducible refine L2.rd_truI ?_ | with_reducible refine L2.rd_gsub ?_ | with_reducible refine L2.rd_bitsV ?_
  | with_reducible refine L2.rd_par ?_ | with_reducible refine L2.rd_gname ?_ | with_reducible refine L2.rd_gcons ?_ | with_reducible refine L2.rd_gnil ?_
  | ((with_reducible refine' L2.rd_i ?ec ?_); (case ec => first | ((with_reducible show L2.CPow _ _); exact ⟨by decide, by decide, by decide⟩) | ((with_reducible show L2.CDivB _ _); exact L2.cdiv_small (by decide) (by decide)) | (show (0 : Int) < _; first | decide | omega | exact L2.pow2_pos _))))
local macro_rules | `(tactic| walk_at "rd") => `(tactic| repeat walk_at "rd1")
local macro_rules | `(tactic| walk_at "fm") => `(tactic| (repeat (first | exact List.forall_mem_nil _ | refine List.forall_mem_cons.mpr ⟨by with_unfolding_all rfl, ?_⟩)))
local macro_rules | `(tactic| walk_at "rdi") => `(tactic| ((with_reducible refine' L2.rd_ixT ?hs1 ?he1 ?_); (case hs1 => first | assumption | exact L2.SqT.of (by assumption)); (case he1 => exact rfl)))
local macro_rules | `(tactic| walk_at "rdf") => `(tactic| ((with_reducible refine L2.rd_for ?_); (first | with_reducible refine L2.rd_iL ?_ | with_reducible refine L2.rd_iT ?_ | with_reducible refine L2.rd_rng1 ?_ | with_reducible refine L2.rd_rng2 ?_ | with_reducible refine L2.rd_rng3 ?_ | with_reducible refine L2.rd_rng2A ?_)))
local macro_rules | `(tactic| walk_at "rdx") => `(tactic| (repeat (first | walk_at "rd1" | with_reducible refine L2.rd_callE ?_ | with_reducible refine L2.rd_makeE ?_ | with_reducible refine L2.rd_methE ?_ | with_reducible refine L2.rd_methLE ?_ | with_reducible refine L2.rd_raise ?_ | with_reducible refine L2.rd_try ?_ | with_reducible refine L2.rd_xinit ?_ | with_reducible refine L2.rd_xf1 ?_ | with_reducible refine L2.rd_xf2 ?_ | with_reducible refine L2.rd_join ?_ | with_reducible refine L2.rd_xget ?_ | with_reducible refine L2.rd_ifE ?_)))
namespace Fw
theorem fmod_small (r d : Int) (hd : d ≠ 0) : 0 ≤ r.fmod d * d ∧ (r.fmod d).natAbs < d.natAbs := by
  rcases (by omega : 0 < d ∨ d < 0) with h | h
  · have a := Int.fmod_nonneg_of_pos r h
    have b := Int.fmod_lt_of_pos r h
    exact ⟨Int.mul_nonneg a (Int.le_of_lt h), by omega⟩
  · have e : r.fmod d = -((-r).fmod (-d)) := by
      rw [Int.fmod_def, Int.fmod_def, Int.neg_fdiv_neg, Int.neg_mul]; omega
    have a := Int.fmod_nonneg_of_pos (-r) (b := -d) (by omega)
    have b := Int.fmod_lt_of_pos (-r) (b := -d) (by omega)
    rw [e]
    generalize (-r).fmod (-d) = z at *
    refine ⟨?_, by omega⟩
    have := Int.mul_nonneg a (show 0 ≤ -d by omega)
    rw [Int.neg_mul]; rw [Int.mul_neg] at this; omega

structure EqI (a b u v r u' v' r' : Int) : Prop where
  e1 : u * a + v * b = r
  e2 : u' * a + v' * b = r'
  g : Int.gcd r r' = Int.gcd a b
  ph : (u = 1 ∧ v = 0 ∧ r = a ∧ u' = 0 ∧ v' = 1 ∧ r' = b) ∨
    (b ≠ 0 ∧ r ≠ 0 ∧ 0 ≤ r' * r ∧ r.natAbs ≤ b.natAbs ∧ r'.natAbs ≤ b.natAbs ∧ u'.natAbs * r.natAbs + u.natAbs * r'.natAbs ≤ b.natAbs ∧ u.natAbs ≤ b.natAbs + 1)

theorem EqI.start (a b : Int) : EqI a b 1 0 a 0 1 b := ⟨by omega, by omega, rfl, .inl ⟨rfl, rfl, rfl, rfl, rfl, rfl⟩⟩

theorem natAbs_sub_mul (u q x : Int) : (u - q * x).natAbs ≤ u.natAbs + q.natAbs * x.natAbs := by
  have h := Int.natAbs_sub_le u (q * x)
  rw [Int.natAbs_mul] at h
  exact h

theorem same_sign_quot {r d : Int} (hd : d ≠ 0) (hs : 0 ≤ d * r) : (r - r.fdiv d * d).natAbs + (r.fdiv d).natAbs * d.natAbs = r.natAbs := by
  have e : r.fmod d + r.fdiv d * d = r := Int.fmod_add_fdiv_mul r d
  have e2 : r - r.fdiv d * d = r.fmod d := by omega
  rw [e2, ← Int.natAbs_mul]
  have fs := fmod_small r d hd
  rcases (by omega : 0 < d ∨ d < 0) with h | h
  · have r0 : 0 ≤ r := by
      rcases (by omega : 0 ≤ r ∨ r < 0) with z | z
      · exact z
      · have := Int.mul_neg_of_pos_of_neg h z; omega
    have q0 : 0 ≤ r.fdiv d := Int.fdiv_nonneg r0 (Int.le_of_lt h)
    have a := Int.fmod_nonneg_of_pos r h
    have p := Int.mul_nonneg q0 (Int.le_of_lt h)
    omega
  · have r0 : r ≤ 0 := by
      rcases (by omega : r ≤ 0 ∨ 0 < r) with z | z
      · exact z
      · have := Int.mul_neg_of_neg_of_pos h z; omega
    have q0 : 0 ≤ r.fdiv d := Int.fdiv_nonneg_of_nonpos_of_nonpos r0 (Int.le_of_lt h)
    have a : r.fmod d ≤ 0 := by
      rcases (by omega : r.fmod d ≤ 0 ∨ 0 < r.fmod d) with z | z
      · exact z
      · have := Int.mul_neg_of_pos_of_neg z h; omega
    have p := Int.mul_nonneg q0 (show 0 ≤ -d by omega)
    rw [Int.mul_neg] at p
    omega

theorem EqI.step {a b u v r u' v' r' : Int} (I : EqI a b u v r u' v' r') (h : r' ≠ 0) :
    EqI a b u' v' r' (u - r.fdiv r' * u') (v - r.fdiv r' * v') (r - r.fdiv r' * r') ∧ (r - r.fdiv r' * r').natAbs < r'.natAbs := by
  have e : r.fmod r' + r.fdiv r' * r' = r := Int.fmod_add_fdiv_mul r r'
  have e2 : r - r.fdiv r' * r' = r.fmod r' := by omega
  have fs := fmod_small r r' h
  refine ⟨⟨I.e2, ?_, ?_, ?_⟩, by rw [e2]; exact fs.2⟩
  · have := I.e1
    have := I.e2
    grind
  · rw [Int.gcd_sub_mul_right_right, Int.gcd_comm]
    exact I.g
  · right
    rcases I.ph with ⟨h1, h2, h3, h4, h5, h6⟩ | ⟨hb, hr, hs, l1, l2, l3, l4⟩
    · subst h1 h2 h3 h4 h5 h6
      refine ⟨h, h, by rw [e2]; exact fs.1, Nat.le_refl _, by rw [e2]; omega, ?_, by simp⟩
      simp
    · have q := same_sign_quot h hs
      refine ⟨hb, h, by rw [e2]; exact fs.1, l2, by rw [e2]; omega, ?_, ?_⟩
      · have m := natAbs_sub_mul u (r.fdiv r') u'
        generalize (r - r.fdiv r' * r').natAbs = A at *
        generalize (u - r.fdiv r' * u').natAbs = B at *
        generalize (r.fdiv r').natAbs = C at *
        have k1 : B * r'.natAbs ≤ (u.natAbs + C * u'.natAbs) * r'.natAbs := Nat.mul_le_mul_right _ m
        have k2 : (u.natAbs + C * u'.natAbs) * r'.natAbs + u'.natAbs * A = u.natAbs * r'.natAbs + u'.natAbs * (A + C * r'.natAbs) := by grind
        rw [q] at k2
        omega
      · have : u'.natAbs * 1 ≤ u'.natAbs * r.natAbs := Nat.mul_le_mul_left _ (by omega)
        omega

theorem v_bound {a b u v r : Int} (hb : b ≠ 0) (e : u * a + v * b = r) (l1 : r.natAbs ≤ b.natAbs) (l4 : u.natAbs ≤ b.natAbs + 1) : v.natAbs ≤ 1 + 2 * a.natAbs := by
  have e1 : v * b = r - u * a := by omega
  have h := natAbs_sub_mul r u a
  rw [← e1, Int.natAbs_mul] at h
  have hb' : 0 < b.natAbs := by omega
  have k : u.natAbs * a.natAbs ≤ (b.natAbs + 1) * a.natAbs := Nat.mul_le_mul_right _ l4
  have k2 : a.natAbs * 1 ≤ a.natAbs * b.natAbs := Nat.mul_le_mul_left _ hb'
  have k3 : v.natAbs * b.natAbs ≤ (1 + 2 * a.natAbs) * b.natAbs := by grind
  exact Nat.le_of_mul_le_mul_right k3 hb'

theorem EqI.bounds {a b u v r u' v' r' : Int} (I : EqI a b u v r u' v' r') :
    u.natAbs ≤ b.natAbs + 1 ∧ v.natAbs ≤ 1 + 2 * a.natAbs ∧ u'.natAbs ≤ b.natAbs + 1 ∧ v'.natAbs ≤ 1 + 2 * a.natAbs ∧ r.natAbs ≤ a.natAbs + b.natAbs ∧ r'.natAbs ≤ b.natAbs := by
  rcases I.ph with ⟨h1, h2, h3, h4, h5, h6⟩ | ⟨hb, hr, hs, l1, l2, l3, l4⟩
  · subst h1 h2 h3 h4 h5 h6
    refine ⟨by simp, by simp, by simp, by simp, by omega, by omega⟩
  · have : u'.natAbs * 1 ≤ u'.natAbs * r.natAbs := Nat.mul_le_mul_left _ (by omega)
    have lu : u'.natAbs ≤ b.natAbs + 1 := by omega
    exact ⟨l4, v_bound hb I.e1 l1 l4, lu, v_bound hb I.e2 l2 lu, by omega, l2⟩

theorem quot_bound {r d : Int} (hd : d ≠ 0) : (r.fdiv d).natAbs ≤ r.natAbs + 1 := by
  have e : r.fmod d + r.fdiv d * d = r := Int.fmod_add_fdiv_mul r d
  have fs := (fmod_small r d hd).2
  have h : (r.fdiv d * d).natAbs ≤ r.natAbs + (r.fmod d).natAbs := by omega
  rw [Int.natAbs_mul] at h
  have d1 : 1 ≤ d.natAbs := by omega
  generalize (r.fdiv d).natAbs = x at *
  generalize d.natAbs = y at *
  generalize r.natAbs = z at *
  rcases (by omega : x ≤ 1 ∨ 2 ≤ x) with c | c
  · omega
  · obtain ⟨k, rfl⟩ : ∃ k, x = k + 1 := ⟨x - 1, by omega⟩
    have : (k + 1) * y = k * y + y := Nat.succ_mul k y
    have : k * 1 ≤ k * y := Nat.mul_le_mul_left k d1
    omega
/-- what an equation tells -/
structure Eqn (a b u v g : Int) : Prop where
  eq : u * a + v * b = g
  gd : g = (Int.gcd a b : Int)
  bu : u.natAbs ≤ b.natAbs + 1
  bv : v.natAbs ≤ 1 + 2 * a.natAbs

theorem EqI.done {a b u v r u' v' : Int} (I : EqI a b u v r u' v' 0) : (r < 0 → Eqn a b (-u) (-v) (-r)) ∧ (¬ r < 0 → Eqn a b u v r) := by
  have g := I.g
  rw [Int.gcd_zero_right] at g
  have B := I.bounds
  refine ⟨fun h => ⟨?_, by omega, by omega, by omega⟩, fun h => ⟨I.e1, by omega, B.1, B.2.1⟩⟩
  have := I.e1
  rw [Int.neg_mul, Int.neg_mul]; omega
end Fw

namespace Fw
theorem gcd_pos {a b : Int} (ha : 0 < a) : 0 < (Int.gcd a b : Int) := by
  have : Int.gcd a b ≠ 0 := fun z => by
    have := Int.eq_zero_of_gcd_eq_zero_left z
    omega
  omega
theorem gcd_le {a b : Int} (ha : 0 < a) : (Int.gcd a b : Int) ≤ a := Int.le_of_dvd ha (Int.gcd_dvd_left ..)
/-- a // g * b -/
def lcmI (a b : Int) : Int := a / (Int.gcd a b : Int) * b
theorem lcmI_facts {a b : Int} (ha : 0 < a) (hb : 0 < b) :
    0 < lcmI a b ∧ a ∣ lcmI a b ∧ b ∣ lcmI a b ∧ lcmI a b * (Int.gcd a b : Int) = a * b ∧ (∀ t, a ∣ t → b ∣ t → lcmI a b ∣ t) ∧ lcmI a b = (Int.lcm a b : Int) := by
  have gp := gcd_pos (b := b) ha
  obtain ⟨x, hx⟩ : (Int.gcd a b : Int) ∣ a := Int.gcd_dvd_left ..
  obtain ⟨y, hy⟩ : (Int.gcd a b : Int) ∣ b := Int.gcd_dvd_right ..
  have e1 : a / (Int.gcd a b : Int) = x := by
    have gne : (Int.gcd a b : Int) ≠ 0 := by omega
    generalize hg : (Int.gcd a b : Int) = g at *
    rw [hx]
    exact Int.mul_ediv_cancel_left x gne
  have e : lcmI a b = x * b := by unfold lcmI; rw [e1]
  have pr : lcmI a b * (Int.gcd a b : Int) = a * b := by rw [e]; conv => rhs; rw [hx]
                                                         grind
  have pl : (Int.lcm a b : Int) * (Int.gcd a b : Int) = a * b := by
    have h := Int.gcd_mul_lcm a b
    have h2 : ((Int.gcd a b * Int.lcm a b : Nat) : Int) = ((a.natAbs * b.natAbs : Nat) : Int) := by rw [h]
    rw [Int.natCast_mul, Int.natCast_mul, Int.natAbs_of_nonneg (Int.le_of_lt ha), Int.natAbs_of_nonneg (Int.le_of_lt hb)] at h2
    rw [Int.mul_comm]; exact h2
  have el : lcmI a b = (Int.lcm a b : Int) := Int.eq_of_mul_eq_mul_right (by omega : (Int.gcd a b : Int) ≠ 0) (pr.trans pl.symm)
  refine ⟨?_, ?_, ?_, pr, ?_, el⟩
  · have : 0 < lcmI a b * (Int.gcd a b : Int) := by rw [pr]; exact Int.mul_pos ha hb
    exact Int.pos_of_mul_pos_left this gp
  · rw [el]; exact Int.dvd_lcm_left ..
  · rw [el]; exact Int.dvd_lcm_right ..
  · intro t h1 h2; rw [el]; exact Int.coe_lcm_dvd h1 h2
theorem lcmI_le {a b : Int} (ha : 0 < a) (hb : 0 < b) : lcmI a b ≤ a * b := by
  have f := lcmI_facts ha hb
  have gp := gcd_pos (b := b) ha
  have h : lcmI a b * 1 ≤ lcmI a b * (Int.gcd a b : Int) := Int.mul_le_mul_of_nonneg_left (by omega) (Int.le_of_lt f.1)
  rw [f.2.2.2.1] at h; omega
end Fw

namespace Fw
def On (n : Int) (b : Nat) (d : Int) : Bool := b.testBit (d % n).toNat
theorem bits_ext {w b c : Nat} (hb : b < 2 ^ w) (hc : c < 2 ^ w) (h : ∀ i, i < w → b.testBit i = c.testBit i) : b = c := by
  refine Nat.eq_of_testBit_eq fun i => ?_
  by_cases hi : i < w
  · exact h i hi
  · have p : 2 ^ w ≤ 2 ^ i := Nat.pow_le_pow_right (by decide) (by omega)
    rw [Nat.testBit_lt_two_pow (by omega), Nat.testBit_lt_two_pow (by omega)]
theorem and_full_lt (c w : Nat) : c &&& (2 ^ w - 1) < 2 ^ w := by
  rw [Nat.and_two_pow_sub_one_eq_mod]; exact Nat.mod_lt _ (Nat.two_pow_pos w)
theorem and_full_bit (c w i : Nat) (h : i < w) : (c &&& (2 ^ w - 1)).testBit i = c.testBit i := by
  rw [Nat.testBit_and, Nat.testBit_two_pow_sub_one]; simp [h]
structure Strt (n b w c : Nat) : Prop where
  lt : c < 2 ^ w
  bit : ∀ i, i < w → c.testBit i = b.testBit (i % n)
theorem Strt.start {n b : Nat} (h : b < 2 ^ n) : Strt n b n b := ⟨h, fun i hi => by rw [Nat.mod_eq_of_lt hi]⟩
theorem Strt.cut {n b w c z : Nat} (S : Strt n b w c) (h : z ≤ w) : Strt n b z (c &&& (2 ^ z - 1)) :=
  ⟨and_full_lt _ _, fun i hi => by rw [and_full_bit _ _ _ hi, S.bit i (by omega)]⟩
theorem Strt.uniq {n b w c c' : Nat} (S : Strt n b w c) (S' : Strt n b w c') : c = c' := bits_ext S.lt S'.lt fun i hi => by rw [S.bit i hi, S'.bit i hi]
theorem Strt.on {n m : Int} {b c : Nat} (hn : 0 < n) (hm : 0 < m) (hd : n ∣ m) (S : Strt n.toNat b m.toNat c) (d : Int) : On m c d = On n b d := by
  unfold On
  have h1 := Int.emod_nonneg d (show m ≠ 0 by omega)
  have h2 := Int.emod_lt_of_pos d hm
  rw [S.bit _ (by omega)]
  congr 1
  have e : (d % m) % n = d % n := Int.emod_emod_of_dvd d hd
  have h3 := Int.emod_nonneg d (show n ≠ 0 by omega)
  have k : (((d % m).toNat % n.toNat : Nat) : Int) = d % m % n := by
    rw [Int.natCast_emod]
    have a1 : ((d % m).toNat : Int) = d % m := by omega
    have a2 : (n.toNat : Int) = n := by omega
    rw [a1, a2]
  rw [e] at k
  omega
end Fw

namespace Fw
abbrev Tm := Int × Int × Int × Int
structure OkT (t : Tm) : Prop where
  sg : t.1 = 1 ∨ t.1 = -1
  n0 : 1 ≤ t.2.2.2
  n1 : t.2.2.2 ≤ 1000
  a0 : 0 ≤ t.2.1
  a1 : t.2.1 ≤ t.2.2.2
  b0 : 0 ≤ t.2.2.1
  b1 : t.2.2.1 < t.2.2.2
/-- the term is on in k -/
def onT (t : Tm) (k : Int) : Bool := decide (t.2.2.2 ≤ (t.2.1 * k + t.2.2.1) % t.2.2.2 + t.2.1)
/-- counted up to k -/
def ctT (t : Tm) (k : Int) : Int := (t.2.1 * k + t.2.2.1) / t.2.2.2
def SU (ts : List Tm) (k : Int) : Int := (ts.map fun t => t.1 * ctT t k).sum
def UP (base : Int) (ts : List Tm) (k : Int) : Int := base * k + SU ts k
def ONS (ts : List Tm) (k : Int) : Int := ((ts.filter fun t => onT t k).map fun t => t.1).sum
def AT (base : Int) (ts : List Tm) (k : Int) : Int := base + ONS ts k
def falls (ts : List Tm) : Int := ((ts.filter fun t => decide (t.1 = -1)).length : Int)
theorem ct_step {t : Tm} (h : OkT t) (k : Int) : ctT t (k + 1) = ctT t k + (if onT t k = true then 1 else 0) := by
  unfold ctT onT
  obtain ⟨s, a, b, n⟩ := t
  have n0 := h.n0
  have a0 := h.a0
  have a1 := h.a1
  dsimp only at n0 a0 a1 ⊢
  have e : a * (k + 1) + b = a * k + b + a := by rw [Int.mul_add, Int.mul_one]; omega
  rw [e]
  generalize a * k + b = y
  have q := Int.mul_ediv_add_emod y n
  have r0 := Int.emod_nonneg y (show n ≠ 0 by omega)
  have r1 := Int.emod_lt_of_pos y (show 0 < n by omega)
  by_cases c : n ≤ y % n + a
  · rw [decide_eq_true c, if_pos rfl]
    have h : y + a = n * (y / n + 1) + (y % n + a - n) := by rw [Int.mul_add, Int.mul_one]; omega
    conv => lhs; rw [h]
    rw [Int.mul_add_ediv_left _ _ (by omega), Int.ediv_eq_zero_of_lt (a := y % n + a - n) (b := n) (by omega) (by omega)]
    omega
  · rw [decide_eq_false c, if_neg Bool.false_ne_true]
    have h : y + a = n * (y / n) + (y % n + a) := by omega
    conv => lhs; rw [h]
    rw [Int.mul_add_ediv_left _ _ (by omega), Int.ediv_eq_zero_of_lt (a := y % n + a) (b := n) (by omega) (by omega)]
theorem ct_zero {t : Tm} (h : OkT t) : ctT t 0 = 0 := by
  unfold ctT
  rw [Int.mul_zero, Int.zero_add]
  exact Int.ediv_eq_zero_of_lt h.b0 h.b1
theorem SU_step : ∀ {ts : List Tm} (_ : ∀ t ∈ ts, OkT t) (k : Int), SU ts (k + 1) = SU ts k + ONS ts k
  | [], _, k => rfl
  | t :: ts, h, k => by
    have ih := SU_step (ts := ts) (fun x hx => h x (List.mem_cons_of_mem _ hx)) k
    have s := ct_step (h t List.mem_cons_self) k
    unfold SU ONS at *
    rw [List.map_cons, List.map_cons, List.sum_cons, List.sum_cons, ih, s, List.filter_cons]
    by_cases c : onT t k = true
    · rw [if_pos c, if_pos c, List.map_cons, List.sum_cons, Int.mul_add, Int.mul_one]
      omega
    · rw [if_neg c, if_neg c, Int.add_zero]
      omega
theorem SU_zero : ∀ {ts : List Tm} (_ : ∀ t ∈ ts, OkT t), SU ts 0 = 0
  | [], _ => rfl
  | t :: ts, h => by
    have ih := SU_zero (ts := ts) (fun x hx => h x (List.mem_cons_of_mem _ hx))
    unfold SU at *
    rw [List.map_cons, List.sum_cons, ih, ct_zero (h t List.mem_cons_self)]
    simp
theorem ONS_low : ∀ {ts : List Tm} (_ : ∀ t ∈ ts, OkT t) (k : Int), -falls ts ≤ ONS ts k
  | [], _, k => by show (-((0 : Nat) : Int)) ≤ 0; omega
  | t :: ts, h, k => by
    have ih := ONS_low (ts := ts) (fun x hx => h x (List.mem_cons_of_mem _ hx)) k
    have sg := (h t List.mem_cons_self).sg
    unfold falls ONS at *
    rw [List.filter_cons, List.filter_cons]
    by_cases c : onT t k = true
    · rw [if_pos c, List.map_cons, List.sum_cons]
      rcases sg with z | z
      · rw [if_neg (by rw [decide_eq_true_eq]; omega)]
        omega
      · rw [if_pos (decide_eq_true z), List.length_cons]
        omega
    · rw [if_neg c]
      split
      · rw [List.length_cons]
        omega
      · omega
theorem UP_step {base : Int} {ts : List Tm} (h : ∀ t ∈ ts, OkT t) (k : Int) : UP base ts (k + 1) = UP base ts k + AT base ts k := by
  unfold UP AT
  rw [SU_step h, Int.mul_add, Int.mul_one]
  omega
theorem UP_zero {base : Int} {ts : List Tm} (h : ∀ t ∈ ts, OkT t) : UP base ts 0 = 0 := by
  unfold UP
  rw [SU_zero h, Int.mul_zero]
  rfl
theorem UP_mono {base : Int} {ts : List Tm} (h : ∀ t ∈ ts, OkT t) (hf : falls ts ≤ base) {j k : Int} (jk : j ≤ k) : UP base ts j ≤ UP base ts k := by
  have : ∀ m : Nat, UP base ts j ≤ UP base ts (j + (m : Int)) := by
    intro m
    induction m with
    | zero => simp
    | succ m ih =>
      have e := UP_step (base := base) h (j + (m : Int))
      have l := ONS_low h (j + (m : Int))
      unfold AT at e
      rw [show j + ((m + 1 : Nat) : Int) = j + (m : Int) + 1 by omega, e]
      omega
  have := this (k - j).toNat
  rwa [show j + ((k - j).toNat : Int) = k by omega] at this
/-- the least number that the n of all terms divide -/
def PER (ts : List Tm) : Int := ts.foldl (fun p t => lcmI p t.2.2.2) 1
end Fw

namespace Fw
theorem UP_pos {base : Int} {ts : List Tm} (h : ∀ t ∈ ts, OkT t) (hf : falls ts < base) {P : Int} (P0 : 0 < P) : 0 < UP base ts P := by
  have m := UP_mono h (Int.le_refl (falls ts)) (show (0 : Int) ≤ P by omega)
  rw [UP_zero h] at m
  unfold UP at *
  have : (falls ts + 1) * P ≤ base * P := Int.mul_le_mul_of_nonneg_right (by omega) (by omega)
  rw [Int.add_mul, Int.one_mul] at this
  omega
end Fw

namespace Fw
theorem UP_nought {b : Int} {ts : List Tm} (h : ∀ t ∈ ts, OkT t) (hf : falls ts ≤ b) {P : Int} (P0 : 0 < P) : 0 ≤ UP b ts P ∧ (UP b ts P = 0 → b = falls ts) := by
  refine ⟨?_, fun z => ?_⟩
  · have := UP_mono h hf (Int.le_of_lt P0)
    rwa [UP_zero h] at this
  · rcases Int.lt_or_eq_of_le hf with c | c
    · have := UP_pos h c P0
      omega
    · exact c.symm
theorem AT_high {ts : List Tm} (h : ∀ t ∈ ts, OkT t) (k : Int) : ONS ts k ≤ (ts.length : Int) := by
  unfold ONS
  induction ts with
  | nil => exact Int.le_refl 0
  | cons t ts ih =>
    have i := ih fun x hx => h x (List.mem_cons_of_mem _ hx)
    have sg := (h t List.mem_cons_self).sg
    rw [List.filter_cons, List.length_cons]
    split
    · rw [List.map_cons, List.sum_cons]
      omega
    · omega
end Fw

namespace Fw
theorem sum_le : ∀ {ls : List Int}, (∀ n ∈ ls, 0 ≤ n ∧ n ≤ 1000) → 0 ≤ ls.sum ∧ ls.sum ≤ 1000 * (ls.length : Int)
  | [], _ => by simp
  | a :: ls, h => by
    have i := sum_le (ls := ls) fun n hn => h n (List.mem_cons_of_mem _ hn)
    have := h a List.mem_cons_self
    rw [List.sum_cons, List.length_cons]
    omega
theorem sum_set : ∀ {ls : List Int} {i : Nat} {e : Int}, i < ls.length → (ls.set i (ls.getD i 0 + e)).sum = ls.sum + e
  | [], i, e, h => by simp at h
  | a :: ls, 0, e, _ => by
    show (a + e) + ls.sum = (a :: ls).sum + e
    rw [List.sum_cons]
    omega
  | a :: ls, i + 1, e, h => by
    have ih := sum_set (ls := ls) (i := i) (e := e) (by simpa using h)
    show a + (ls.set i (ls.getD i 0 + e)).sum = (a :: ls).sum + e
    rw [ih, List.sum_cons]
    omega
def LENS (ls : List Int) (lp : Int) (ts : List Tm) (y : Int) : List Int := ls.set (lp - 1).toNat (ls.getD (lp - 1).toNat 0 + ONS ts y)
structure GoodS (ls : List Int) (lp : Int) (ts : List Tm) : Prop where
  l0 : 1 ≤ ls.length
  l1 : ls.length ≤ 20
  m : ∀ n ∈ ls, 0 ≤ n ∧ n ≤ 1000
  p0 : 1 ≤ lp
  p1 : lp ≤ (ls.length : Int)
  f0 : falls ts ≤ ls.getD (lp - 1).toNat 0
  f1 : falls ts < ls.sum
  ok : ∀ t ∈ ts, OkT t
  few : ts.length ≤ 6
theorem GoodS.sum {ls : List Int} {lp : Int} {ts : List Tm} (g : GoodS ls lp ts) : 0 ≤ ls.sum ∧ ls.sum ≤ 20000 := by
  have := sum_le g.m
  have := g.l1
  omega
theorem LENS_sum {ls : List Int} {lp : Int} {ts : List Tm} (g : GoodS ls lp ts) (y : Int) : (LENS ls lp ts y).sum = AT ls.sum ts y := by
  have p0 := g.p0
  have p1 := g.p1
  unfold LENS AT
  exact sum_set (by omega)
theorem getD_mem' {ls : List Int} {i : Nat} (h : i < ls.length) : ls.getD i 0 ∈ ls := by
  rw [List.getD_eq_getElem?_getD, List.getElem?_eq_getElem h]
  exact List.getElem_mem h
theorem LENS_mem {ls : List Int} {lp : Int} {ts : List Tm} (g : GoodS ls lp ts) (y : Int) : ∀ n ∈ LENS ls lp ts y, 0 ≤ n ∧ n ≤ 1006 := by
  intro n hn
  have p0 := g.p0
  have p1 := g.p1
  unfold LENS at hn
  rcases List.mem_or_eq_of_mem_set hn with z | z
  · have := g.m n z
    omega
  · have := g.m _ (getD_mem' (ls := ls) (i := (lp - 1).toNat) (by omega))
    have l := ONS_low g.ok y
    have u := AT_high g.ok y
    have := g.few
    have := g.f0
    omega
theorem LENS_len {ls : List Int} {lp : Int} {ts : List Tm} {y : Int} : (LENS ls lp ts y).length = ls.length := by
  unfold LENS
  rw [List.length_set]
end Fw

namespace Fw
theorem UP_less {b : Int} {ts : List Tm} {k : Int} : UP b ts k = UP (b - 1) ts k + k := by
  unfold UP
  rw [Int.sub_mul, Int.one_mul]
  omega
theorem UP_lt {b : Int} {ts : List Tm} (h : ∀ t ∈ ts, OkT t) (hf : falls ts < b) {j k : Int} (jk : j < k) : UP b ts j < UP b ts k := by
  have := UP_mono h (show falls ts ≤ b - 1 by omega) (Int.le_of_lt jk)
  rw [UP_less (b := b), UP_less (b := b) (k := k)]
  omega
structure GoodMo (bd : Int) (td : List Tm) (bm : Int) (tm : List Tm) : Prop where
  fd : falls td < bd
  gd : bd ≤ 1000
  fm : falls tm < bm
  gm : bm ≤ 20
  okd : ∀ t ∈ td, OkT t
  okm : ∀ t ∈ tm, OkT t
  fwd : td.length ≤ 6
  fwm : tm.length ≤ 6
def MYS (s bd : Int) (td : List Tm) (bm : Int) (tm : List Tm) (y : Int) : Int := s + UP bd td (UP bm tm y)
def MLEN (bd : Int) (td : List Tm) (bm : Int) (tm : List Tm) (y : Int) : List Int := (List.range (AT bm tm y).toNat).map fun i : Nat => AT bd td (UP bm tm y + (i : Int))
theorem at_sum {b : Int} {ts : List Tm} (h : ∀ t ∈ ts, OkT t) (f : Int) : ∀ n : Nat, ((List.range n).map fun i : Nat => AT b ts (f + (i : Int))).sum = UP b ts (f + (n : Int)) - UP b ts f
  | 0 => by simp
  | n + 1 => by
    have s := UP_step (base := b) h (f + (n : Int))
    rw [List.range_succ, List.map_append, List.sum_append, at_sum h f n, show f + ((n + 1 : Nat) : Int) = f + (n : Int) + 1 by omega, s]
    simp
    omega
theorem falls_nn {ts : List Tm} : 0 ≤ falls ts := by
  unfold falls
  omega
theorem AT_pos {b : Int} {ts : List Tm} (h : ∀ t ∈ ts, OkT t) (hf : falls ts < b) (k : Int) : 1 ≤ AT b ts k := by
  have := ONS_low h k
  unfold AT
  omega
theorem AT_le {b : Int} {ts : List Tm} (h : ∀ t ∈ ts, OkT t) (few : ts.length ≤ 6) (k : Int) : AT b ts k ≤ b + 6 := by
  have := AT_high h k
  unfold AT
  omega
theorem MLEN_sum {s bd : Int} {td : List Tm} {bm : Int} {tm : List Tm} (g : GoodMo bd td bm tm) (y : Int) : (MLEN bd td bm tm y).sum = MYS s bd td bm tm (y + 1) - MYS s bd td bm tm y := by
  unfold MLEN MYS
  have p := AT_pos g.okm g.fm y
  rw [at_sum g.okd, show ((AT bm tm y).toNat : Int) = AT bm tm y by omega, ← UP_step g.okm]
  omega
theorem MLEN_mem {bd : Int} {td : List Tm} {bm : Int} {tm : List Tm} (g : GoodMo bd td bm tm) (y : Int) : ∀ n ∈ MLEN bd td bm tm y, 0 ≤ n ∧ n ≤ 1006 := by
  intro n hn
  unfold MLEN at hn
  obtain ⟨i, _, rfl⟩ := List.mem_map.mp hn
  have := AT_pos g.okd g.fd (UP bm tm y + (i : Int))
  have := AT_le g.okd g.fwd (b := bd) (UP bm tm y + (i : Int))
  have := g.gd
  omega
theorem MLEN_len {bd : Int} {td : List Tm} {bm : Int} {tm : List Tm} (g : GoodMo bd td bm tm) (y : Int) : 1 ≤ (MLEN bd td bm tm y).length ∧ (MLEN bd td bm tm y).length ≤ 26 := by
  unfold MLEN
  rw [List.length_map, List.length_range]
  have := AT_pos g.okm g.fm y
  have := AT_le g.okm g.fwm (b := bm) y
  have := g.gm
  omega
end Fw

namespace Fw
inductive CalD where
  | sun (s : Int) (ls : List Int) (lp : Int) (ts : List Tm)
  | moon (s bd : Int) (td : List Tm) (bm : Int) (tm : List Tm)
def CalD.Y : CalD → Int → Int
  | .sun s ls _ ts, y => s + UP ls.sum ts y
  | .moon s bd td bm tm, y => MYS s bd td bm tm y
def CalD.L : CalD → Int → List Int
  | .sun _ ls lp ts, y => LENS ls lp ts y
  | .moon _ bd td bm tm, y => MLEN bd td bm tm y
def CalD.good : CalD → Prop
  | .sun _ ls lp ts => GoodS ls lp ts
  | .moon _ bd td bm tm => GoodMo bd td bm tm
def CalD.st : CalD → Int
  | .sun s _ _ _ => s
  | .moon s _ _ _ _ => s
/-- the days of the first j months -/
def PS (l : List Int) (j : Nat) : Int := (l.take j).sum
theorem PS_zero {l : List Int} : PS l 0 = 0 := rfl
theorem PS_succ {l : List Int} {j : Nat} (h : j < l.length) : PS l (j + 1) = PS l j + l.getD j 0 := by
  unfold PS
  rw [List.take_add_one, List.getD_eq_getElem?_getD, List.getElem?_eq_getElem h, List.sum_append]
  simp
theorem PS_mono {l : List Int} (h : ∀ n ∈ l, 0 ≤ n) {i : Nat} : ∀ {j : Nat}, i ≤ j → j ≤ l.length → PS l i ≤ PS l j
  | 0, hij, _ => by
    have : i = 0 := by omega
    subst this
    exact Int.le_refl _
  | j + 1, hij, hj => by
    rcases Nat.lt_or_eq_of_le hij with c | c
    · have := PS_mono (i := i) h (show i ≤ j by omega) (by omega)
      have e := PS_succ (l := l) (j := j) (by omega)
      have := h _ (getD_mem' (ls := l) (i := j) (by omega))
      omega
    · subst c
      exact Int.le_refl _
theorem PS_len {l : List Int} : PS l l.length = l.sum := by
  unfold PS
  rw [List.take_length]
theorem CalD.step {d : CalD} (g : d.good) (y : Int) : d.Y (y + 1) = d.Y y + (d.L y).sum := by
  cases d with
  | sun s ls lp ts =>
    show s + UP ls.sum ts (y + 1) = s + UP ls.sum ts y + (LENS ls lp ts y).sum
    rw [LENS_sum g y, UP_step (GoodS.ok g)]
    omega
  | moon s bd td bm tm =>
    show MYS s bd td bm tm (y + 1) = MYS s bd td bm tm y + (MLEN bd td bm tm y).sum
    rw [MLEN_sum (s := s) g y]
    omega
theorem CalD.mem {d : CalD} (g : d.good) (y : Int) : ∀ n ∈ d.L y, 0 ≤ n ∧ n ≤ 1006 := by
  cases d with
  | sun s ls lp ts => exact LENS_mem g y
  | moon s bd td bm tm => exact MLEN_mem g y
theorem CalD.len {d : CalD} (g : d.good) (y : Int) : 1 ≤ (d.L y).length ∧ (d.L y).length ≤ 26 := by
  cases d with
  | sun s ls lp ts =>
    show 1 ≤ (LENS ls lp ts y).length ∧ (LENS ls lp ts y).length ≤ 26
    rw [LENS_len]
    have := GoodS.l0 g
    have := GoodS.l1 g
    omega
  | moon s bd td bm tm => exact MLEN_len g y
theorem CalD.lt {d : CalD} (g : d.good) {j k : Int} (h : j < k) : d.Y j < d.Y k := by
  cases d with
  | sun s ls lp ts =>
    have := UP_lt (GoodS.ok g) (GoodS.f1 g) h
    show s + UP ls.sum ts j < s + UP ls.sum ts k
    omega
  | moon s bd td bm tm =>
    have := UP_lt (GoodMo.okd g) (GoodMo.fd g) (UP_lt (GoodMo.okm g) (GoodMo.fm g) h)
    show s + UP bd td (UP bm tm j) < s + UP bd td (UP bm tm k)
    omega
theorem CalD.uniq {d : CalD} (g : d.good) {n j k : Int} (h1 : d.Y j ≤ n) (h2 : n < d.Y (j + 1)) (h3 : d.Y k ≤ n) (h4 : n < d.Y (k + 1)) : j = k := by
  rcases Int.lt_trichotomy j k with c | c | c
  · rcases Int.lt_or_eq_of_le (show j + 1 ≤ k by omega) with z | z
    · have := CalD.lt g z
      omega
    · rw [z] at h2
      omega
  · exact c
  · rcases Int.lt_or_eq_of_le (show k + 1 ≤ j by omega) with z | z
    · have := CalD.lt g z
      omega
    · rw [z] at h4
      omega
theorem CalD.zero {d : CalD} (g : d.good) : d.Y 0 = d.st := by
  cases d with
  | sun s ls lp ts =>
    show s + UP ls.sum ts 0 = s
    rw [UP_zero (GoodS.ok g), Int.add_zero]
  | moon s bd td bm tm =>
    show s + UP bd td (UP bm tm 0) = s
    rw [UP_zero (GoodMo.okm g), UP_zero (GoodMo.okd g), Int.add_zero]
/-- (y, m, r) is a date; it is that of the day n -/
structure IsD (d : CalD) (y m r : Int) : Prop where
  m0 : 1 ≤ m
  m1 : m ≤ ((d.L y).length : Int)
  r0 : 1 ≤ r
  r1 : r ≤ (d.L y).getD (m - 1).toNat 0
def DayOf (d : CalD) (y m r : Int) : Int := d.Y y + PS (d.L y) (m - 1).toNat + r - 1
theorem IsD.year {d : CalD} (g : d.good) {y m r : Int} (h : IsD d y m r) : d.Y y ≤ DayOf d y m r ∧ DayOf d y m r < d.Y (y + 1) := by
  have m0 := h.m0
  have m1 := h.m1
  have r0 := h.r0
  have r1 := h.r1
  have nn : ∀ n ∈ d.L y, 0 ≤ n := fun n hn => (CalD.mem g y n hn).1
  have a := PS_mono nn (i := 0) (j := (m - 1).toNat) (by omega) (by omega)
  have b := PS_succ (l := d.L y) (j := (m - 1).toNat) (by omega)
  have c := PS_mono nn (i := (m - 1).toNat + 1) (j := (d.L y).length) (by omega) (Nat.le_refl _)
  rw [PS_len] at c
  rw [PS_zero] at a
  rw [CalD.step g]
  unfold DayOf
  omega
theorem IsD.uniq {d : CalD} (g : d.good) {y m r y' m' r' : Int} (h : IsD d y m r) (h' : IsD d y' m' r') (e : DayOf d y m r = DayOf d y' m' r') : y = y' ∧ m = m' ∧ r = r' := by
  have e1 := h.year g
  have e2 := h'.year g
  rw [← e] at e2
  have ey := CalD.uniq g e1.1 e1.2 e2.1 e2.2
  subst ey
  have m0 := h.m0
  have m1 := h.m1
  have r0 := h.r0
  have r1 := h.r1
  have m0' := h'.m0
  have m1' := h'.m1
  have r0' := h'.r0
  have r1' := h'.r1
  have nn : ∀ n ∈ d.L y, 0 ≤ n := fun n hn => (CalD.mem g y n hn).1
  have b := PS_succ (l := d.L y) (j := (m - 1).toNat) (by omega)
  have b' := PS_succ (l := d.L y) (j := (m' - 1).toNat) (by omega)
  unfold DayOf at e
  have em : m = m' := by
    rcases Int.lt_trichotomy m m' with c | c | c
    · have := PS_mono nn (i := (m - 1).toNat + 1) (j := (m' - 1).toNat) (by omega) (by omega)
      omega
    · exact c
    · have := PS_mono nn (i := (m' - 1).toNat + 1) (j := (m - 1).toNat) (by omega) (by omega)
      omega
  subst em
  exact ⟨rfl, rfl, by omega⟩
end Fw

namespace Fw
theorem per_pos' {ts : List Tm} (h : ∀ t ∈ ts, OkT t) : 0 < PER ts ∧ ∀ t ∈ ts, t.2.2.2 ∣ PER ts := by
  have key : ∀ (us : List Tm) (p : Int), 0 < p → (∀ t ∈ us, OkT t) → 0 < us.foldl (fun p t => lcmI p t.2.2.2) p ∧ p ∣ us.foldl (fun p t => lcmI p t.2.2.2) p ∧ ∀ t ∈ us, t.2.2.2 ∣ us.foldl (fun p t => lcmI p t.2.2.2) p := by
    intro us
    induction us with
    | nil => exact fun p hp _ => ⟨hp, Int.dvd_refl _, fun t ht => nomatch ht⟩
    | cons u us ih =>
      intro p hp ok
      have n0 := (ok u List.mem_cons_self).n0
      have f := lcmI_facts hp (show 0 < u.2.2.2 by omega)
      obtain ⟨i1, i2, i3⟩ := ih (lcmI p u.2.2.2) f.1 fun t ht => ok t (List.mem_cons_of_mem _ ht)
      refine ⟨i1, Int.dvd_trans f.2.1 i2, fun t ht => ?_⟩
      rcases List.mem_cons.mp ht with e | e
      · subst e
        exact Int.dvd_trans f.2.2.1 i2
      · exact i3 t e
  exact ⟨(key ts 1 (by decide) h).1, (key ts 1 (by decide) h).2.2⟩
def moT (td : List Tm) (bm : Int) (tm : List Tm) : Int := PER td / (Int.gcd (PER td) (UP bm tm (PER tm)) : Int)
def CalD.cy : CalD → Int × Int
  | .sun _ ls _ ts => (PER ts, UP ls.sum ts (PER ts))
  | .moon _ bd td bm tm => (PER tm * moT td bm tm, UP bd td (UP bm tm (PER tm) * moT td bm tm))
end Fw

namespace Fw
def okB (t : Tm) : Bool := decide (t.1 = 1 ∨ t.1 = -1) && (decide (1 ≤ t.2.2.2 ∧ t.2.2.2 ≤ 1000) && (decide (0 ≤ t.2.1 ∧ t.2.1 ≤ t.2.2.2) && decide (0 ≤ t.2.2.1 ∧ t.2.2.1 < t.2.2.2)))
theorem okB_iff {t : Tm} : okB t = true ↔ OkT t := by
  unfold okB
  simp only [Bool.and_eq_true, decide_eq_true_eq]
  exact ⟨fun ⟨h1, h2, h3, h4⟩ => ⟨h1, h2.1, h2.2, h3.1, h3.2, h4.1, h4.2⟩, fun h => ⟨h.sg, ⟨h.n0, h.n1⟩, ⟨h.a0, h.a1⟩, ⟨h.b0, h.b1⟩⟩⟩
structure IsM (b : Int) (ts : List Tm) : Prop where
  b0 : 0 ≤ b
  b1 : b ≤ 20000
  few : ts.length ≤ 6
  ok : ∀ t ∈ ts, OkT t
  fl : falls ts ≤ b
  po : 0 < UP b ts (PER ts)
end Fw

namespace Fw
open PySem L2 PyProof.Rows
def top (i : Nat) : Stmt := PySem.Challenge.pw_feastwheel_k73_calendar_texts_refused.main.body.getD i (.Pass ⟨0, 0, 0, 0⟩)
abbrev s_refuse_below_one : Stmt := top 7
abbrev s_divisor : Stmt := top 8
abbrev s_equation : Stmt := top 9
abbrev s_common : Stmt := top 10
abbrev s_signs_upto : Stmt := top 16
abbrev s_is_term : Stmt := top 17
abbrev s_least_length : Stmt := top 18
abbrev s_refuse_measure : Stmt := top 19
abbrev s_period_of : Stmt := top 20
abbrev s_Measure___init__ : Stmt := inClass (top 21) 0
abbrev s_Measure_upto : Stmt := inClass (top 21) 2
abbrev s_term_text : Stmt := top 26
abbrev s_term_words : Stmt := top 27
abbrev s_refuse_months : Stmt := top 28
abbrev s_Sun___init__ : Stmt := inClass (top 29) 0
abbrev s_Sun_shown : Stmt := inClass (top 29) 5
abbrev s_refuse_part : Stmt := top 30
abbrev s_Moon___init__ : Stmt := inClass (top 31) 0
abbrev s_Moon_shown : Stmt := inClass (top 31) 5
abbrev s_is_readable : Stmt := top 36
abbrev s_is_number : Stmt := top 37
abbrev s_read_number : Stmt := top 38
abbrev s_read_numbers : Stmt := top 40
abbrev s_read_term : Stmt := top 41
abbrev s_read_terms : Stmt := top 42
abbrev s_read_sun : Stmt := top 43
abbrev s_read_moon : Stmt := top 44
abbrev s_read_calendar : Stmt := top 45
abbrev s_law_cell_at : Stmt := top 47
abbrev s_law_word_of : Stmt := top 48
abbrev s_law_terms : Stmt := top 49
abbrev s_law_words : Stmt := top 50
abbrev s_law_cut : Stmt := top 51
abbrev s_law_free : Stmt := top 52
abbrev s_law_changed : Stmt := top 53
abbrev s_law_value : Stmt := top 54
abbrev s_law_values : Stmt := top 55
abbrev s_law_read_terms : Stmt := top 56
abbrev s_law_are_terms : Stmt := top 57
abbrev s_law_of_sun : Stmt := top 58
abbrev s_law_of_moon : Stmt := top 59
abbrev s_law_due : Stmt := top 60
abbrev s_law_found : Stmt := top 61
abbrev s_law : Stmt := top 62
def spCell (K : PySem.W.Frag) : Sp := fun vs H Q _ => ∃ (a : Addr) (ns : List Int) (k : Int), vs = [.ref a, .int k] ∧ SqL K H a (ns.map V.int) ∧ 0 ≤ k ∧ ns.length ≤ 63 ∧ Q (.int (ns.getD k.toNat 0)) H
def spWhole : Sp := fun vs H Q _ => ∃ i : Int, vs = [.int i] ∧ Q (.bl true) H
theorem rd_cell {K : PySem.W.Frag} {a : Addr} {ns : List Int} {k : Int} {H : Hp} {Q : VK} {E : XK} (hS : SqL K H a (ns.map V.int)) (hl : ns.length ≤ 63) (hk : 0 ≤ k) (h : Q (.int (ns.getD k.toNat 0)) H) : spCell K ([.ref a, .int k] ++ []) H Q E := ⟨a, ns, k, rfl, hS, hk, hl, h⟩
theorem rd_whole {i : Int} {H : Hp} {Q : VK} {E : XK} (h : Q (.bl true) H) : spWhole ([.int i] ++ []) H Q E := ⟨i, rfl, h⟩
theorem at_ints {ns : List Int} {k : Int} (h0 : 0 ≤ k) (h : k < (ns.length : Int)) : atI (ns.map V.int) k = some (.int (ns.getD k.toNat 0)) := by
  have hk : k.toNat < ns.length := by omega
  have ek : k = ((k.toNat : Nat) : Int) := by omega
  have q : atI (ns.map V.int) ((k.toNat : Nat) : Int) = some (.int ns[k.toNat]) := atI_nat (by rw [List.getElem?_map, List.getElem?_eq_getElem hk] <;> rfl)
  rw [← ek] at q
  rw [q]
  simp [List.getD, hk]
theorem p40 : (10 : Int) ^ (40 : Int).toNat = 10000000000000000000000000000000000000000 := by decide
theorem p39 : (10 : Int) ^ (39 : Int).toNat = 1000000000000000000000000000000000000000 := by decide
theorem bt_of {x : Int} (h1 : -1000000000000000000000000000000000000000000000000000000000000 ≤ x) (h2 : x ≤ 1000000000000000000000000000000000000000000000000000000000000) : Bt 200 x := by
  unfold Bt
  have : (2 : Nat) ^ 200 = 1606938044258990275541962092341162602522202993782792835301376 := by decide
  omega
theorem two' {a b : V} : ([a, b] : List V).length ≤ sizeLine := by show 2 ≤ sizeLine; decide
theorem at0 {x y : V} : atI [x, y] 0 = some x := rfl
local macro_rules | `(tactic| walk_at "rdc") => `(tactic| (repeat (first | walk_at "rd1" | ((with_reducible refine' Fw.rd_cell ?hc1 ?hc2 ?hc3 ?_); (case hc1 => assumption); (case hc2 => assumption); (case hc3 => decide)) | with_reducible refine Fw.rd_whole ?_)))
local macro_rules | `(tactic| walk_at "rdy") => `(tactic| (repeat (first | walk_at "rd1" | ((with_reducible refine' Fw.rd_cell ?hc1 ?hc2 ?hc3 ?_); (case hc1 => assumption); (case hc2 => assumption); (case hc3 => decide)) | with_reducible refine Fw.rd_whole ?_ | with_reducible refine L2.rd_callE ?_ | with_reducible refine L2.rd_raise ?_ | with_reducible refine L2.rd_try ?_ | with_reducible refine L2.rd_xget ?_ | with_reducible refine L2.rd_ifE ?_)))
def spRefuse : Sp := fun vs H Q _ => ∃ n : Int, vs = [.int n] ∧ 1 ≤ n ∧ Q .non H
def spEq : Sp := fun vs H Q _ => ∃ a b : Int, vs = [.int a, .int b] ∧ Bt 500 a ∧ Bt 500 b ∧ ∀ (p : Addr) (u v g : Int) (H' : Hp), Same H H' → H' p = some (.tup [.int u, .int v, .int g]) → Eqn a b u v g → Q (.ref p) H'
def spDivisor : Sp := fun vs H Q _ => ∃ a b : Int, vs = [.int a, .int b] ∧ Bt 500 a ∧ Bt 500 b ∧ ∀ H', Same H H' → Q (.int (Int.gcd a b : Int)) H'
def spCommon : Sp := fun vs H Q _ => ∃ a b : Int, vs = [.int a, .int b] ∧ 0 < a ∧ 0 < b ∧ Bt 500 a ∧ Bt 500 b ∧ ∀ H', Same H H' → Q (.int (lcmI a b)) H'
theorem at30 {x y z : V} : atI [x, y, z] 0 = some x := rfl
theorem at31 {x y z : V} : atI [x, y, z] 1 = some y := rfl
theorem at32 {x y z : V} : atI [x, y, z] 2 = some z := rfl
theorem three {a b c : V} : ([a, b, c] : List V).length ≤ sizeLine := by show 3 ≤ sizeLine; decide
theorem two {a b : V} : ([a, b] : List V).length ≤ sizeLine := by show 2 ≤ sizeLine; decide
theorem bt_le {k m : Nat} {x y : Int} (h : Bt k y) (l : x.natAbs ≤ 4 * y.natAbs + 4) (hk : k + 4 ≤ m) : Bt m x := by
  unfold Bt at *
  have p : 2 ^ (k + 4) ≤ 2 ^ m := Nat.pow_le_pow_right (by decide) hk
  have e : 2 ^ (k + 4) = 2 ^ k * 16 := by rw [Nat.pow_add]
  omega
theorem bt_le2 {k m : Nat} {x y z : Int} (h : Bt k y) (h' : Bt k z) (l : x.natAbs ≤ y.natAbs + z.natAbs + 4) (hk : k + 4 ≤ m) : Bt m x := by
  unfold Bt at *
  have p : 2 ^ (k + 4) ≤ 2 ^ m := Nat.pow_le_pow_right (by decide) hk
  have e : 2 ^ (k + 4) = 2 ^ k * 16 := by rw [Nat.pow_add]
  omega
theorem bt_small {k : Nat} {x : Int} (h0 : 0 ≤ x) (h1 : x < 18446744073709551616) (hk : 64 ≤ k) : Bt k x := Bt.mono (k := 64) (by unfold Bt; omega) hk
theorem bt_div {k : Nat} {d n : Int} (h : Bt k d) (hn : 0 < n) : Bt k (d / n) := by
  refine h.le ?_
  rcases Int.lt_or_le d 0 with c | c
  · have h1 : d / n < 0 := Int.ediv_neg_of_neg_of_pos c hn
    have h2 : d ≤ d / n := (Int.le_ediv_iff_mul_le hn).mpr (by
      have := Int.mul_le_mul_of_nonpos_left (show d ≤ 0 by omega) (show 1 ≤ n by omega)
      omega)
    omega
  · have h1 : 0 ≤ d / n := Int.ediv_nonneg c (by omega)
    have h2 : d / n ≤ d := Int.ediv_le_self n c
    omega
theorem _root_.L2.Bt.sub {k : Nat} {x y : Int} (h : Bt k x) (g : Bt k y) : Bt (k + 1) (x - y) := by
  have := h.add g.neg
  rwa [← Int.sub_eq_add_neg] at this
def tmV (t : Tm) : List V := [.int t.1, .int t.2.1, .int t.2.2.1, .int t.2.2.2]
inductive Tms (H : Hp) : List V → List Tm → Prop
  | nil : Tms H [] []
  | cons {p : Addr} {t : Tm} {vs : List V} {ts : List Tm} : H p = some (.tup (tmV t)) → Tms H vs ts → Tms H (.ref p :: vs) (t :: ts)
theorem Tms.same {H H' : Hp} (s : Same H H') : ∀ {vs : List V} {ts : List Tm}, Tms H vs ts → Tms H' vs ts
  | _, _, .nil => .nil
  | _, _, .cons h t => .cons (s _ _ h) (Tms.same s t)
theorem Tms.len {H : Hp} : ∀ {vs : List V} {ts : List Tm}, Tms H vs ts → vs.length = ts.length
  | _, _, .nil => rfl
  | _, _, .cons _ t => by rw [List.length_cons, List.length_cons, Tms.len t]
theorem Tms.mem {H : Hp} {x : V} : ∀ {vs : List V} {ts : List Tm}, Tms H vs ts → x ∈ vs → ∃ p t, x = .ref p ∧ t ∈ ts ∧ H p = some (.tup (tmV t))
  | _, _, .nil, h => nomatch h
  | _, _, .cons g r, h => by
    rcases List.mem_cons.mp h with e | e
    · exact ⟨_, _, e, List.mem_cons_self, g⟩
    · obtain ⟨p, t, e1, e2, e3⟩ := Tms.mem r e
      exact ⟨p, t, e1, List.mem_cons_of_mem _ e2, e3⟩
theorem Tms.at {H : Hp} : ∀ {vs : List V} {ts : List Tm}, Tms H vs ts → ∀ {i : Nat} {x : V}, vs[i]? = some x → ∃ p t, x = .ref p ∧ ts[i]? = some t ∧ H p = some (.tup (tmV t))
  | _, _, .nil, i, x, h => by simp at h
  | _, _, .cons g r, 0, x, h => by
    injection h with h
    exact ⟨_, _, h.symm, rfl, g⟩
  | _, _, .cons g r, i + 1, x, h => Tms.at r (i := i) h
/-- what stands in the term at v, by g -/
def tmAt (H : Hp) (v : V) : Option Tm := match v with
  | .ref p => match H p with
    | some (.tup [.int s, .int a, .int b, .int n]) => some (s, a, b, n)
    | _ => none
  | _ => none
theorem tmAt_eq {H : Hp} {p : Addr} {t : Tm} (h : H p = some (.tup (tmV t))) : tmAt H (.ref p) = some t := by
  unfold tmAt tmV at *
  simp only [h]
theorem Tms.fm {H : Hp} (g : Tm → Bool) (f : Tm → V) : ∀ {vs : List V} {ts : List Tm}, Tms H vs ts → (vs.filter fun v => ((tmAt H v).map g).getD false).map (fun v => ((tmAt H v).map f).getD .non) = (ts.filter g).map f
  | _, _, .nil => rfl
  | _, _, .cons (p := p) (t := t) h r => by
    rw [List.filter_cons, List.filter_cons, tmAt_eq h]
    show (if g t = true then _ else _ : List V).map _ = _
    by_cases c : g t = true
    · rw [if_pos c, if_pos c, List.map_cons, List.map_cons, Tms.fm g f r, tmAt_eq h]
      rfl
    · rw [if_neg c, if_neg c, Tms.fm g f r]
theorem at40 {t : Tm} : atI (tmV t) 0 = some (V.int t.1) := rfl
theorem at41 {t : Tm} : atI (tmV t) 1 = some (V.int t.2.1) := rfl
theorem at42 {t : Tm} : atI (tmV t) 2 = some (V.int t.2.2.1) := rfl
theorem at43 {t : Tm} : atI (tmV t) 3 = some (V.int t.2.2.2) := rfl
/-- terms in a tuple -/
structure TmT (K : PySem.W.Frag) (H : Hp) (p : Addr) (ts : List Tm) : Prop where
  ex : ∃ vs, SqT K H p vs ∧ Tms H vs ts
  ok : ∀ t ∈ ts, OkT t
  few : ts.length ≤ 6
theorem TmT.same {K : PySem.W.Frag} {H H' : Hp} {p : Addr} {ts : List Tm} (T : TmT K H p ts) (s : Same H H') : TmT K H' p ts := by
  obtain ⟨vs, h1, h2⟩ := T.ex
  exact ⟨⟨vs, s.tup h1, h2.same s⟩, T.ok, T.few⟩
def spSigns (K : PySem.W.Frag) : Sp := fun vs H Q _ => ∃ (p : Addr) (k : Int) (ts : List Tm), vs = [.ref p, .int k] ∧ TmT K H p ts ∧ Bt 400 k ∧ ∀ H', Same H H' → Q (.int (SU ts k)) H'
structure GoodM (b : Int) (ts : List Tm) : Prop where
  b0 : 0 ≤ b
  b1 : b ≤ 20000
  fl : falls ts ≤ b
def spPeriod (K : PySem.W.Frag) : Sp := fun vs H Q _ => ∃ (p : Addr) (ts : List Tm), vs = [.ref p] ∧ TmT K H p ts ∧ ∀ H', Same H H' → Q (.int (PER ts)) H'
theorem per_pow {ts : List Tm} (h : ∀ t ∈ ts, OkT t) : ∀ (i : Nat), i ≤ 6 → 0 < PER (ts.take i) ∧ PER (ts.take i) ≤ 1000 ^ i
  | 0, _ => ⟨(show (0 : Int) < 1 by decide), (show (1 : Int) ≤ 1 by decide)⟩
  | i + 1, hi => by
    obtain ⟨h1, h2⟩ := per_pow h i (by omega)
    rw [List.take_add_one]
    cases e : ts[i]? with
    | none =>
      simp only [Option.toList_none, List.append_nil]
      refine ⟨h1, Int.le_trans h2 ?_⟩
      rw [Int.pow_succ]
      have : (0 : Int) < 1000 ^ i := Int.pow_pos (by decide)
      omega
    | some t =>
      have ok := h t (List.mem_of_getElem? e)
      have e2 : PER (ts.take i ++ (some t).toList) = lcmI (PER (ts.take i)) t.2.2.2 := by
        unfold PER
        rw [Option.toList_some, List.foldl_append]
        rfl
      rw [e2]
      have n0 := ok.n0
      refine ⟨(lcmI_facts h1 (by omega)).1, Int.le_trans (lcmI_le h1 (by omega)) ?_⟩
      rw [Int.pow_succ]
      exact Int.mul_le_mul h2 ok.n1 (by omega) (Int.le_of_lt (Int.pow_pos (by decide)))
theorem pow6 {i : Nat} (h : i ≤ 6) : (1000 : Int) ^ i ≤ 1000000000000000000 := by
  rcases (by omega : i = 0 ∨ i = 1 ∨ i = 2 ∨ i = 3 ∨ i = 4 ∨ i = 5 ∨ i = 6) with e | e | e | e | e | e | e <;> subst e <;> decide
theorem per_dvd {ts : List Tm} (h : ∀ t ∈ ts, OkT t) : ∀ (i : Nat), i ≤ 6 → ∀ t ∈ ts.take i, t.2.2.2 ∣ PER (ts.take i)
  | 0, _ => fun t ht => by simp at ht
  | i + 1, hi => by
    obtain ⟨h1, _⟩ := per_pow h i (by omega)
    have ih := per_dvd h i (by omega)
    rw [List.take_add_one]
    cases e : ts[i]? with
    | none =>
      simp only [Option.toList_none, List.append_nil]
      exact ih
    | some u =>
      have ok := h u (List.mem_of_getElem? e)
      have e2 : PER (ts.take i ++ (some u).toList) = lcmI (PER (ts.take i)) u.2.2.2 := by
        unfold PER
        rw [Option.toList_some, List.foldl_append]
        rfl
      have n0 := ok.n0
      have f := lcmI_facts h1 (show 0 < u.2.2.2 by omega)
      rw [e2]
      intro t ht
      rcases List.mem_append.mp ht with z | z
      · exact Int.dvd_trans (ih t z) f.2.1
      · rw [Option.toList_some, List.mem_singleton] at z
        subst z
        exact f.2.2.1
/-- the fields of a measure -/
def mF (b : Int) (p : Addr) (c s : Int) : List (Str × V) := [("base", .int b), ("terms", .ref p), ("full_count", .int c), ("full_sum", .int s)]
structure Me (K : PySem.W.Frag) (C : Addr) (H : Hp) (x : Addr) (b : Int) (ts : List Tm) : Prop where
  ex : ∃ dx p, H x = some (.ins C dx (mF b p (PER ts) (UP b ts (PER ts)))) ∧ TmT K H p ts
  gd : GoodM b ts
  po : 0 < UP b ts (PER ts)
def spUpto (K : PySem.W.Frag) (C : Addr) : Sp := fun vs H Q _ => ∃ (x p dx : Addr) (k b : Int) (ts : List Tm) (fs : List (Str × V)), vs = [.ref x, .int k] ∧ H x = some (.ins C dx fs) ∧ fs.lookup (Str.ofString "base") = some (V.int b) ∧ fs.lookup (Str.ofString "terms") = some (V.ref p) ∧ TmT K H p ts ∧ 0 ≤ b ∧ b ≤ 20000 ∧ Bt 400 k ∧ ∀ H', Same H H' → Q (.int (UP b ts k)) H'
theorem Me.same {K : PySem.W.Frag} {C : Addr} {H H' : Hp} {x : Addr} {b : Int} {ts : List Tm} (M : Me K C H x b ts) (s : Same H H') : Me K C H' x b ts := by
  obtain ⟨dx, p, e, T⟩ := M.ex
  exact ⟨⟨dx, p, s _ _ e, T.same s⟩, M.gd, M.po⟩
theorem Me.meth {K : PySem.W.Frag} {C : Addr} {H : Hp} {x : Addr} {b : Int} {ts : List Tm} (M : Me K C H x b ts) : ∃ dx fs, H x = some (.ins C dx fs) ∧ fs.lookup (Str.ofString "seek") = none ∧ fs.lookup (Str.ofString "at") = none ∧ fs.lookup (Str.ofString "upto") = none ∧ fs.lookup (Str.ofString "period") = none := by
  obtain ⟨dx, p, e, T⟩ := M.ex
  exact ⟨dx, _, e, rfl, rfl, rfl, rfl⟩
/-- all but one list -/
def But (l : Addr) (H H' : Hp) : Prop := ∀ y o, y ≠ l → H y = some o → H' y = some o
theorem But.upd {l : Addr} {H : Hp} {o : HO} : But l H (L2.upd H l o) := fun y o hy h => by rw [upd_ne hy]; exact h
/-- neither a tuple nor what is kept as it is -/
structure NoT (o : HO) : Prop where
  t : ∀ vs, o ≠ .tup vs
  f : ∀ ob u, o ≠ .frz ob u
theorem NoT.lst {xs : List V} : NoT (.lst xs) := ⟨fun _ z => (nomatch z), fun _ _ z => (nomatch z)⟩
theorem NoT.ins {C d : Addr} {fs : List (Str × V)} : NoT (.ins C d fs) := ⟨fun _ z => (nomatch z), fun _ _ z => (nomatch z)⟩
theorem Tms.but {l : Addr} {H H' : Hp} {o : HO} (hl : H l = some o) (no : NoT o) (k : But l H H') : ∀ {vs : List V} {ts : List Tm}, Tms H vs ts → Tms H' vs ts
  | _, _, .nil => .nil
  | _, _, .cons g r => .cons (k _ _ (ne_of g hl (Ne.symm (no.t _))) g) (Tms.but hl no k r)
theorem sqT_but {K : PySem.W.Frag} {l p : Addr} {H H' : Hp} {o : HO} {vs : List V} (hl : H l = some o) (no : NoT o) (k : But l H H') (h : SqT K H p vs) : SqT K H' p vs := by
  rcases h with (h | ⟨o, h⟩) | h
  · exact .inl (.inl (k _ _ (ne_of h hl (Ne.symm (no.t _))) h))
  · exact .inl (.inr ⟨o, k _ _ (ne_of h hl (Ne.symm (no.f _ _))) h⟩)
  · exact .inr h
theorem TmT.but {K : PySem.W.Frag} {l p : Addr} {H H' : Hp} {o : HO} {ts : List Tm} (hl : H l = some o) (no : NoT o) (k : But l H H') (T : TmT K H p ts) : TmT K H' p ts := by
  obtain ⟨vs, h1, h2⟩ := T.ex
  exact ⟨⟨vs, sqT_but hl no k h1, h2.but hl no k⟩, T.ok, T.few⟩
theorem Me.butX {K : PySem.W.Frag} {C l : Addr} {H H' : Hp} {o : HO} {x : Addr} {b : Int} {ts : List Tm} (M : Me K C H x b ts) (hl : H l = some o) (no : NoT o) (ne : x ≠ l) (k : But l H H') : Me K C H' x b ts := by
  obtain ⟨dx, p, e, T⟩ := M.ex
  exact ⟨⟨dx, p, k _ _ ne e, T.but hl no k⟩, M.gd, M.po⟩
theorem Me.but {K : PySem.W.Frag} {C l : Addr} {H H' : Hp} {xs : List V} {x : Addr} {b : Int} {ts : List Tm} (M : Me K C H x b ts) (hl : H l = some (.lst xs)) (k : But l H H') : Me K C H' x b ts := by
  obtain ⟨dx, p, e, T⟩ := M.ex
  exact M.butX hl .lst (ne_of e hl (by intro z; cases z)) k
theorem Tms.upd {H : Hp} {l : Addr} {xs : List V} {o : HO} (h : H l = some (.lst xs)) : ∀ {vs : List V} {ts : List Tm}, Tms H vs ts → Tms (L2.upd H l o) vs ts
  | _, _, .nil => .nil
  | _, _, .cons g r => .cons (by rw [upd_ne (ne_of g h (by intro z; cases z))]; exact g) (Tms.upd h r)
theorem Tms.snoc {H : Hp} {p : Addr} {t : Tm} (h : H p = some (.tup (tmV t))) : ∀ {vs : List V} {ts : List Tm}, Tms H vs ts → Tms H (vs ++ [.ref p]) (ts ++ [t])
  | _, _, .nil => .cons h .nil
  | _, _, .cons g r => .cons g (Tms.snoc h r)
/-- terms in a list -/
structure TmL (K : PySem.W.Frag) (H : Hp) (l : Addr) (us : List V) (ts : List Tm) : Prop where
  li : H l = some (.lst us)
  tm : Tms H us ts
  ok : ∀ t ∈ ts, OkT t
  few : ts.length ≤ 6
theorem TmL.same {K : PySem.W.Frag} {H H' : Hp} {l : Addr} {us : List V} {ts : List Tm} (T : TmL K H l us ts) (s : Same H H') : TmL K H' l us ts := ⟨s _ _ T.li, T.tm.same s, T.ok, T.few⟩
theorem GoodS.gm {ls : List Int} {lp : Int} {ts : List Tm} (g : GoodS ls lp ts) : GoodM ls.sum ts := ⟨g.sum.1, g.sum.2, Int.le_of_lt g.f1⟩
theorem per_pos {ts : List Tm} (ok : ∀ t ∈ ts, OkT t) (few : ts.length ≤ 6) : 0 < PER ts ∧ PER ts ≤ 1000000000000000000 ∧ ∀ t ∈ ts, t.2.2.2 ∣ PER ts := by
  obtain ⟨h1, h2⟩ := per_pow ok 6 (by decide)
  have hd := per_dvd ok 6 (by decide)
  rw [List.take_of_length_le few] at h1 h2 hd
  exact ⟨h1, Int.le_trans h2 (pow6 (by decide)), hd⟩
theorem GoodS.po {ls : List Int} {lp : Int} {ts : List Tm} (g : GoodS ls lp ts) : 0 < UP ls.sum ts (PER ts) := UP_pos g.ok g.f1 (per_pos g.ok g.few).1
def sF (s lp : Int) (p y : Addr) : List (Str × V) := [("start", .int s), ("months", .ref p), ("leap", .int lp), ("years", .ref y)]
structure SunO (K : PySem.W.Frag) (CS CM : Addr) (H : Hp) (x : Addr) (s : Int) (ls : List Int) (lp : Int) (ts : List Tm) : Prop where
  ex : ∃ dx p y, H x = some (.ins CS dx (sF s lp p y)) ∧ SqT K H p (ls.map V.int) ∧ Me K CM H y ls.sum ts
  gd : GoodS ls lp ts
  bs : Bt 290 s
section
variable {K : PySem.W.Frag} {CS CM : Addr} {H H' : Hp} {x : Addr} {s : Int} {ls : List Int} {lp : Int} {ts : List Tm}
theorem SunO.same (S : SunO K CS CM H x s ls lp ts) (e : Same H H') : SunO K CS CM H' x s ls lp ts := by
  obtain ⟨dx, p, y, h1, h2, h3⟩ := S.ex
  exact ⟨⟨dx, p, y, e _ _ h1, e.tup h2, h3.same e⟩, S.gd, S.bs⟩
theorem SunO.but {l : Addr} {xs : List V} (S : SunO K CS CM H x s ls lp ts) (hl : H l = some (.lst xs)) (k : But l H H') : SunO K CS CM H' x s ls lp ts := by
  obtain ⟨dx, p, y, h1, h2, h3⟩ := S.ex
  exact ⟨⟨dx, p, y, k _ _ (ne_of h1 hl (by intro z; cases z)) h1, sqT_but hl .lst k h2, h3.but hl k⟩, S.gd, S.bs⟩
theorem SunO.meth (S : SunO K CS CM H x s ls lp ts) : ∃ dx fs, H x = some (.ins CS dx fs) ∧ fs.lookup (Str.ofString "year_start") = none ∧ fs.lookup (Str.ofString "year_at") = none ∧ fs.lookup (Str.ofString "lengths") = none ∧ fs.lookup (Str.ofString "cycle") = none ∧ fs.lookup (Str.ofString "date_of") = none ∧ fs.lookup (Str.ofString "day_of") = none := by
  obtain ⟨dx, p, y, e, _⟩ := S.ex
  exact ⟨dx, _, e, rfl, rfl, rfl, rfl, rfl, rfl⟩
end
def spYS (K : PySem.W.Frag) (CS CM : Addr) : Sp := fun vs H Q _ => ∃ (x : Addr) (n s : Int) (ls : List Int) (lp : Int) (ts : List Tm), vs = [.ref x, .int n] ∧ SunO K CS CM H x s ls lp ts ∧ Bt 390 n ∧ ∀ H', Same H H' → Q (.int (s + UP ls.sum ts n)) H'
def spLens (K : PySem.W.Frag) (CS CM : Addr) : Sp := fun vs H Q _ => ∃ (x : Addr) (n s : Int) (ls : List Int) (lp : Int) (ts : List Tm), vs = [.ref x, .int n] ∧ SunO K CS CM H x s ls lp ts ∧ Bt 390 n ∧ ∀ (p : Addr) H', H p = none → Same H H' → H' p = some (.lst ((LENS ls lp ts n).map V.int)) → Q (.ref p) H'
def moF (s : Int) (d m : Addr) : List (Str × V) := [("start", .int s), ("days", .ref d), ("many", .ref m)]
structure MoonO (K : PySem.W.Frag) (CO CM : Addr) (H : Hp) (x : Addr) (s bd : Int) (td : List Tm) (bm : Int) (tm : List Tm) : Prop where
  ex : ∃ dx d m, H x = some (.ins CO dx (moF s d m)) ∧ Me K CM H d bd td ∧ Me K CM H m bm tm
  gd : GoodMo bd td bm tm
  bs : Bt 290 s
section
variable {K : PySem.W.Frag} {CO CM : Addr} {H H' : Hp} {x : Addr} {s bd : Int} {td : List Tm} {bm : Int} {tm : List Tm}
theorem MoonO.same (S : MoonO K CO CM H x s bd td bm tm) (e : Same H H') : MoonO K CO CM H' x s bd td bm tm := by
  obtain ⟨dx, d, m, h1, h2, h3⟩ := S.ex
  exact ⟨⟨dx, d, m, e _ _ h1, h2.same e, h3.same e⟩, S.gd, S.bs⟩
theorem MoonO.but {l : Addr} {xs : List V} (S : MoonO K CO CM H x s bd td bm tm) (hl : H l = some (.lst xs)) (k : But l H H') : MoonO K CO CM H' x s bd td bm tm := by
  obtain ⟨dx, d, m, h1, h2, h3⟩ := S.ex
  exact ⟨⟨dx, d, m, k _ _ (ne_of h1 hl (by intro z; cases z)) h1, h2.but hl k, h3.but hl k⟩, S.gd, S.bs⟩
theorem MoonO.meth (S : MoonO K CO CM H x s bd td bm tm) : ∃ dx fs, H x = some (.ins CO dx fs) ∧ fs.lookup (Str.ofString "year_start") = none ∧ fs.lookup (Str.ofString "year_at") = none ∧ fs.lookup (Str.ofString "lengths") = none ∧ fs.lookup (Str.ofString "cycle") = none ∧ fs.lookup (Str.ofString "date_of") = none ∧ fs.lookup (Str.ofString "day_of") = none := by
  obtain ⟨dx, d, m, e, _⟩ := S.ex
  exact ⟨dx, _, e, rfl, rfl, rfl, rfl, rfl, rfl⟩
end
def spMYS (K : PySem.W.Frag) (CO CM : Addr) : Sp := fun vs H Q _ => ∃ (x : Addr) (n s bd bm : Int) (td tm : List Tm), vs = [.ref x, .int n] ∧ MoonO K CO CM H x s bd td bm tm ∧ Bt 370 n ∧ ∀ H', Same H H' → Q (.int (MYS s bd td bm tm n)) H'
def spMLens (K : PySem.W.Frag) (CO CM : Addr) : Sp := fun vs H Q _ => ∃ (x : Addr) (n s bd bm : Int) (td tm : List Tm), vs = [.ref x, .int n] ∧ MoonO K CO CM H x s bd td bm tm ∧ Bt 370 n ∧ ∀ (p : Addr) H', H p = none → Same H H' → H' p = some (.lst ((MLEN bd td bm tm n).map V.int)) → Q (.ref p) H'
def CalO (K : PySem.W.Frag) (CS CO CM : Addr) (H : Hp) (x : Addr) : CalD → Prop
  | .sun s ls lp ts => SunO K CS CM H x s ls lp ts
  | .moon s bd td bm tm => MoonO K CO CM H x s bd td bm tm
def isSun : CalD → Bool
  | .sun .. => true
  | .moon .. => false
section
variable {K : PySem.W.Frag} {CS CO CM : Addr} {H H' : Hp} {x : Addr} {d : CalD}
theorem CalO.same (S : CalO K CS CO CM H x d) (e : Same H H') : CalO K CS CO CM H' x d := by
  cases d with
  | sun s ls lp ts => exact SunO.same S e
  | moon s bd td bm tm => exact MoonO.same S e
theorem CalO.but {l : Addr} {xs : List V} (S : CalO K CS CO CM H x d) (hl : H l = some (.lst xs)) (k : But l H H') : CalO K CS CO CM H' x d := by
  cases d with
  | sun s ls lp ts => exact SunO.but S hl k
  | moon s bd td bm tm => exact MoonO.but S hl k
theorem CalO.good (S : CalO K CS CO CM H x d) : d.good := by
  cases d with
  | sun s ls lp ts => exact SunO.gd S
  | moon s bd td bm tm => exact MoonO.gd S
theorem CalO.bs (S : CalO K CS CO CM H x d) : Bt 290 d.st := by
  cases d with
  | sun s ls lp ts => exact SunO.bs S
  | moon s bd td bm tm => exact MoonO.bs S
theorem CalO.ys (S : CalO K CS CO CM H x d) : ∃ C dx fs sp, (C, sp) ∈ [(CS, spYS K CS CM), (CO, spMYS K CO CM)] ∧ H x = some (.ins C dx fs) ∧ fs.lookup (Str.ofString "year_start") = none ∧
    ∀ {H2 : Hp} {n : Int} {Q : VK} {E : XK}, CalO K CS CO CM H2 x d → Bt 370 n → (∀ H', Same H2 H' → Q (.int (d.Y n)) H') → sp [.ref x, .int n] H2 Q E := by
  cases d with
  | sun s ls lp ts =>
    obtain ⟨dx, fs, e, m⟩ := SunO.meth S
    exact ⟨CS, dx, fs, _, List.mem_cons_self, e, m.1, fun S2 bn q => ⟨x, _, s, ls, lp, ts, rfl, S2, bn.mono (by decide), q⟩⟩
  | moon s bd td bm tm =>
    obtain ⟨dx, fs, e, m⟩ := MoonO.meth S
    exact ⟨CO, dx, fs, _, List.mem_cons_of_mem _ List.mem_cons_self, e, m.1, fun S2 bn q => ⟨x, _, s, bd, bm, td, tm, rfl, S2, bn, q⟩⟩
theorem CalO.le (S : CalO K CS CO CM H x d) : ∃ C dx fs sp, (C, sp) ∈ [(CS, spLens K CS CM), (CO, spMLens K CO CM)] ∧ H x = some (.ins C dx fs) ∧ fs.lookup (Str.ofString "lengths") = none ∧
    ∀ {H2 : Hp} {n : Int} {Q : VK} {E : XK}, CalO K CS CO CM H2 x d → Bt 370 n → (∀ (p : Addr) H', H2 p = none → Same H2 H' → H' p = some (.lst ((d.L n).map V.int)) → Q (.ref p) H') → sp [.ref x, .int n] H2 Q E := by
  cases d with
  | sun s ls lp ts =>
    obtain ⟨dx, fs, e, m⟩ := SunO.meth S
    exact ⟨CS, dx, fs, _, List.mem_cons_self, e, m.2.2.1, fun S2 bn q => ⟨x, _, s, ls, lp, ts, rfl, S2, bn.mono (by decide), q⟩⟩
  | moon s bd td bm tm =>
    obtain ⟨dx, fs, e, m⟩ := MoonO.meth S
    exact ⟨CO, dx, fs, _, List.mem_cons_of_mem _ List.mem_cons_self, e, m.2.2.1, fun S2 bn q => ⟨x, _, s, bd, bm, td, tm, rfl, S2, bn, q⟩⟩
end
/-- the date of a day; b: of the sun -/
def spDate (K : PySem.W.Frag) (CS CO CM : Addr) (b : Bool) : Sp := fun vs H Q _ => ∃ (x : Addr) (n : Int) (d : CalD), vs = [.ref x, .int n] ∧ isSun d = b ∧ CalO K CS CO CM H x d ∧ Bt 290 n ∧ ∀ (p : Addr) (y m r : Int) H', Same H H' → H' p = some (.tup [.int y, .int m, .int r]) → IsD d y m r → DayOf d y m r = n → Bt 300 y → Q (.ref p) H'
/-- the day of a date that is one -/
def spDay (K : PySem.W.Frag) (CS CO CM : Addr) (b : Bool) : Sp := fun vs H Q _ => ∃ (x p : Addr) (y m r : Int) (d : CalD), vs = [.ref x, .ref p] ∧ isSun d = b ∧ CalO K CS CO CM H x d ∧ SqT K H p [.int y, .int m, .int r] ∧ IsD d y m r ∧ Bt 360 y ∧ ∀ H', Same H H' → Q (.int (DayOf d y m r)) H'
section
variable {K : PySem.W.Frag} {CS CO CM : Addr} {H H' : Hp} {x : Addr} {d : CalD}
theorem CalO.dt (S : CalO K CS CO CM H x d) : ∃ C dx fs sp, (C, sp) ∈ [(CS, spDate K CS CO CM true), (CO, spDate K CS CO CM false)] ∧ H x = some (.ins C dx fs) ∧ fs.lookup (Str.ofString "date_of") = none ∧
    ∀ {H2 : Hp} {n : Int} {Q : VK} {E : XK}, CalO K CS CO CM H2 x d → Bt 290 n → (∀ (p : Addr) (y m r : Int) H', Same H2 H' → H' p = some (.tup [.int y, .int m, .int r]) → IsD d y m r → DayOf d y m r = n → Bt 300 y → Q (.ref p) H') → sp [.ref x, .int n] H2 Q E := by
  cases d with
  | sun s ls lp ts =>
    obtain ⟨dx, fs, e, m⟩ := SunO.meth S
    exact ⟨CS, dx, fs, _, List.mem_cons_self, e, m.2.2.2.2.1, fun S2 bn q => ⟨x, _, _, rfl, rfl, S2, bn, q⟩⟩
  | moon s bd td bm tm =>
    obtain ⟨dx, fs, e, m⟩ := MoonO.meth S
    exact ⟨CO, dx, fs, _, List.mem_cons_of_mem _ List.mem_cons_self, e, m.2.2.2.2.1, fun S2 bn q => ⟨x, _, _, rfl, rfl, S2, bn, q⟩⟩
theorem CalO.dy (S : CalO K CS CO CM H x d) : ∃ C dx fs sp, (C, sp) ∈ [(CS, spDay K CS CO CM true), (CO, spDay K CS CO CM false)] ∧ H x = some (.ins C dx fs) ∧ fs.lookup (Str.ofString "day_of") = none ∧
    ∀ {H2 : Hp} {p : Addr} {y m r : Int} {Q : VK} {E : XK}, CalO K CS CO CM H2 x d → SqT K H2 p [.int y, .int m, .int r] → IsD d y m r → Bt 360 y → (∀ H', Same H2 H' → Q (.int (DayOf d y m r)) H') → sp [.ref x, .ref p] H2 Q E := by
  cases d with
  | sun s ls lp ts =>
    obtain ⟨dx, fs, e, m⟩ := SunO.meth S
    exact ⟨CS, dx, fs, _, List.mem_cons_self, e, m.2.2.2.2.2, fun S2 hp hd by' q => ⟨x, _, _, _, _, _, rfl, rfl, S2, hp, hd, by', q⟩⟩
  | moon s bd td bm tm =>
    obtain ⟨dx, fs, e, m⟩ := MoonO.meth S
    exact ⟨CO, dx, fs, _, List.mem_cons_of_mem _ List.mem_cons_self, e, m.2.2.2.2.2, fun S2 hp hd by' q => ⟨x, _, _, _, _, _, rfl, rfl, S2, hp, hd, by', q⟩⟩
end
def cpl (z : Str) : List Nat := z.cps.toList
theorem str_ext {y z : Str} (h : cpl y = cpl z) : y = z := by
  cases y
  cases z
  simp only [cpl] at h
  exact congrArg Str.mk (Array.toList_inj.mp h)
def figs (cs : List Nat) : List Nat := if cs.head? = some 45 then cs.drop 1 else cs
structure IsNum (cs : List Nat) : Prop where
  lo : 1 ≤ (figs cs).length
  hi : (figs cs).length ≤ 60
  dg : ∀ c ∈ figs cs, 48 ≤ c ∧ c ≤ 57
  z0 : (figs cs).head? = some 48 → cs = [48]
def numVal (cs : List Nat) : Int := if cs.head? = some 45 then -((PySem.NumText.digitsVal (figs cs) : Nat) : Int) else ((PySem.NumText.digitsVal (figs cs) : Nat) : Int)
theorem len_cpl (z : Str) : (cpl z).length = z.length := Array.length_toList
theorem int_reads {z : Str} (h : IsNum (cpl z)) : PySem.intText? z = some (numVal (cpl z)) := by
  have hl : z.length ≤ 4300 := by
    have := h.hi
    rw [← len_cpl]
    unfold figs at this
    split at this
    · rw [List.length_drop] at this; omega
    · omega
  unfold numVal
  by_cases e : (cpl z).head? = some 45
  · rw [if_pos e]
    have ef : figs (cpl z) = (cpl z).drop 1 := by unfold figs; rw [if_pos e]
    have hz : z.cps.toList = 45 :: (cpl z).drop 1 := by
      show cpl z = _
      generalize cpl z = cs at e
      cases cs with
      | nil => cases e
      | cons a r =>
        injection e with e
        rw [e]
        rfl
    rw [ef]
    refine PySem.intText_neg hz (fun c hc => h.dg c (by rw [ef]; exact hc)) (fun z0 => ?_) hl
    have := h.lo
    rw [ef, z0] at this
    simp at this
  · rw [if_neg e]
    have ef : figs (cpl z) = cpl z := by unfold figs; rw [if_neg e]
    rw [ef]
    refine PySem.intText_digits (fun c hc => h.dg c (by rw [ef]; exact hc)) (fun z0 => ?_) hl
    have := h.lo
    rw [ef] at this
    have z1 : cpl z = [] := z0
    rw [z1] at this
    simp at this
theorem slice_from1 {z : Str} (h : 1 ≤ z.length) : cpl (Txt.slice z (some 1) none) = (cpl z).drop 1 := by
  rw [slice_from_eq (b := (z.length : Int)) (by decide) (by omega) rfl]
  show ((List.drop 1 z.cps.toList).take ((z.length : Int) - 1).toNat) = _
  rw [List.take_of_length_le]
  · rfl
  · rw [List.length_drop]
    have : z.cps.toList.length = z.length := len_cpl z
    omega
theorem slice_to1 (z : Str) : cpl (Txt.slice z none (some 1)) = (cpl z).take 1 := by
  by_cases h : 1 ≤ z.length
  · have e := slice_closes_toL (x := z) (j := 1) (by decide) (by omega)
    rw [eq_of_beq e]
    rfl
  · have e0 : (cpl z).length = 0 := by rw [len_cpl]; omega
    have e1 : (cpl (Txt.slice z none (some 1))).length = 0 := by
      have := Txt.slice_le z none (some 1)
      rw [len_cpl]
      omega
    rw [List.length_eq_zero_iff.mp e0, List.length_eq_zero_iff.mp e1]
    rfl
theorem slice_mem {z : Str} {lo hi : Option Int} {c : Nat} (h : c ∈ cpl (Txt.slice z lo hi)) : c ∈ cpl z := by
  unfold Txt.slice at h
  split at h
  · exact h
  · simp only [cpl] at h
    obtain ⟨i, _, hi⟩ := List.mem_filterMap.mp h
    have hi' : z.cps.toList[i]? = some c := by rw [Array.getElem?_toList]; exact hi
    exact List.mem_of_getElem? hi'
theorem asc_iff {z : Str} : asc z = true ↔ ∀ c ∈ cpl z, c < 128 := by
  unfold asc cpl
  rw [Array.all_eq_true']
  simp [Array.mem_toList_iff]
theorem starts_minus {z : Str} (h : 1 ≤ z.length ∨ True) : Txt.startswith z "-" = decide ((cpl z).head? = some 45) := by
  have ey : (Str.ofString "-") = ⟨#[45]⟩ := by decide +kernel
  rw [ey]
  unfold Txt.startswith Builtin.Str.subAt
  show (decide (0 + 1 ≤ z.length) && (z.cps.extract 0 (0 + 1) == #[45])) = _
  rw [Bool.eq_iff_iff, Bool.and_eq_true, decide_eq_true_eq, decide_eq_true_eq, beq_iff_eq]
  have el : (cpl z).length = z.length := len_cpl z
  have ex : (z.cps.extract 0 (0 + 1)).toList = (cpl z).take 1 := by
    rw [Array.toList_extract]
    simp [cpl, List.extract_eq_drop_take]
  constructor
  · rintro ⟨_, e⟩
    rw [e] at ex
    generalize cpl z = cs at ex
    cases cs with
    | nil => cases ex
    | cons a r =>
      injection ex with e1 _
      rw [e1]
      rfl
  · intro e
    cases hc : cpl z with
    | nil => rw [hc] at e; cases e
    | cons a r =>
      rw [hc] at e ex el
      injection e with e
      rw [List.length_cons] at el
      refine ⟨by omega, Array.toList_inj.mp ?_⟩
      rw [ex, e]
      rfl
theorem dig_mem (c : Nat) : c ∈ cpl (Str.ofString "0123456789") ↔ 48 ≤ c ∧ c ≤ 57 := by
  have e : cpl (Str.ofString "0123456789") = [48, 49, 50, 51, 52, 53, 54, 55, 56, 57] := by decide +kernel
  rw [e]
  simp only [List.mem_cons, List.not_mem_nil, or_false]
  omega
theorem in_dig (c : Nat) : (!(Builtin.Str.occurrences (Str.ofString "0123456789") ⟨#[c]⟩ 0 (Str.ofString "0123456789").length 1).isEmpty) = decide (48 ≤ c ∧ c ≤ 57) := by
  rw [StrLaws.found_one, Bool.eq_iff_iff, decide_eq_true_eq, decide_eq_true_eq]
  exact dig_mem c
/-- a text that may be handed in -/
structure TOk (z : Str) : Prop where
  asc : asc z = true
  len : z.length ≤ 1000000
theorem TOk.fit {z : Str} (h : TOk z) : z.length ≤ sizeLine := Nat.le_trans h.len (by decide)
theorem TOk.slice {z : Str} (h : TOk z) (lo hi : Option Int) : TOk (Txt.slice z lo hi) := ⟨asc_iff.mpr fun c hc => asc_iff.mp h.asc c (slice_mem hc), Nat.le_trans (Txt.slice_le z lo hi) h.len⟩
/-- what may be handed in -/
inductive Hnd (H : Hp) : V → Prop
  | txt (z : Str) : TOk z → Hnd H (.str z)
  | non : Hnd H .non
  | int (i : Int) : Hnd H (.int i)
  | tup (a : Addr) (xs : List V) : H a = some (.tup xs) → Hnd H (.ref a)
  | lst (a : Addr) (xs : List V) : H a = some (.lst xs) → Hnd H (.ref a)
theorem Hnd.keep {H H' : Hp} {v : V} (h : Hnd H v) (s : Same H H') : Hnd H' v := by
  cases h with
  | txt z hz => exact .txt z hz
  | non => exact .non
  | int i => exact .int i
  | tup a xs e => exact .tup a xs (s _ _ e)
  | lst a xs e => exact .lst a xs (s _ _ e)
def isT (v : V) : Bool := match v with | .str _ => true | _ => false
theorem kit_ss (K : PySem.W.Frag) : PySem.W.kitOne K (.type "str") (.type "str") = some true := by unfold PySem.W.kitOne; rw [if_pos (by simp)]
theorem kit_ns (K : PySem.W.Frag) : PySem.W.kitOne K (.type "NoneType") (.type "str") = some false := by first | rfl | decide +kernel | with_unfolding_all rfl
theorem kit_is' (K : PySem.W.Frag) : PySem.W.kitOne K (.type "int") (.type "str") = some false := by first | rfl | decide +kernel | with_unfolding_all rfl
theorem kit_ts (K : PySem.W.Frag) : PySem.W.kitOne K (.type "tuple") (.type "str") = some false := by first | rfl | decide +kernel | with_unfolding_all rfl
theorem kit_ls (K : PySem.W.Frag) : PySem.W.kitOne K (.type "list") (.type "str") = some false := by first | rfl | decide +kernel | with_unfolding_all rfl
theorem rd_isS {K : PySem.W.Frag} {H : Hp} {v : V} {Q : VK} (h : Hnd H v) (q : Q (.bl (isT v)) H) : rIsi K [v, .ty "str"] H Q := by
  cases h with
  | txt z hz => exact rd_isi (.str z) (kit_ss K) q
  | non => exact rd_isi .non (kit_ns K) q
  | int i => exact rd_isi (.int i) (kit_is' K) q
  | tup a xs e => exact rd_isi (.tup e) (kit_ts K) q
  | lst a xs e => exact rd_isi (.lst e) (kit_ls K) q
def spIsNum : Sp := fun vs H Q _ => ∃ z : Str, vs = [.str z] ∧ TOk z ∧ ∀ (v : Bool) (H' : Hp), Same H H' → (v = true ↔ IsNum (cpl z)) → Q (.bl v) H'
def isN (v : V) : Prop := ∃ z, v = .str z ∧ IsNum (cpl z)
def ENum (cN : Addr) (H : Hp) (E : XK) : Prop := ∀ H', Same H H' → E (.ref cN) none H'
def spReadN (cT : Addr) : Sp := fun vs H Q E => ∃ v : V, vs = [v] ∧ Hnd H v ∧ (∀ (z : Str) (H' : Hp), Same H H' → v = .str z → IsNum (cpl z) → Q (.int (numVal (cpl z))) H') ∧ (¬ isN v → ENum cT H E)
theorem cpl_app (a b : Str) : cpl (a ++ b) = cpl a ++ cpl b := by
  show (a.cps ++ b.cps).toList = _
  rw [Array.toList_append]
  rfl
theorem asc_app {a b : Str} (h1 : asc a = true) (h2 : asc b = true) : asc (a ++ b) = true := asc_iff.mpr fun c hc => by
  rw [cpl_app] at hc
  rcases List.mem_append.mp hc with h | h
  · exact asc_iff.mp h1 c h
  · exact asc_iff.mp h2 c h
theorem len_app (a b : Str) : (a ++ b).length = a.length + b.length := by
  rw [← len_cpl, cpl_app, List.length_append, len_cpl, len_cpl]
/-- a text of at most k signs -/
structure TL (k : Nat) (z : Str) : Prop where
  asc : asc z = true
  len : z.length ≤ k
theorem TL.app {k m : Nat} {a b : Str} (h1 : TL k a) (h2 : TL m b) : TL (k + m) (a ++ b) := ⟨asc_app h1.asc h2.asc, by rw [len_app]; have := h1.len; have := h2.len; omega⟩
theorem TL.mono {k m : Nat} {a : Str} (h1 : TL k a) (h : k ≤ m) : TL m a := ⟨h1.asc, Nat.le_trans h1.len h⟩
theorem TL.ok {k : Nat} {a : Str} (h1 : TL k a) (h : k ≤ 1000000) : TOk a := ⟨h1.asc, Nat.le_trans h1.len h⟩
theorem TL.slice {k : Nat} {z : Str} (h : TL k z) (lo hi : Option Int) : TL k (Txt.slice z lo hi) := ⟨asc_iff.mpr fun c hc => asc_iff.mp h.asc c (slice_mem hc), Nat.le_trans (Txt.slice_le z lo hi) h.len⟩
theorem TL.sign {c : Nat} (h : c < 128) : TL 1 ⟨#[c]⟩ := ⟨asc_iff.mpr fun d hd => by
  have : d = c := by simpa [cpl] using hd
  omega, Nat.le_refl _⟩
theorem digs_asc (m : Nat) : ∀ c ∈ (Nat.toDigits 10 m).map Char.toNat, c < 128 := fun c hc => by
  obtain ⟨ch, hch, e⟩ := List.mem_map.mp hc
  have r := digit_range (Nat.isDigit_of_mem_toDigits (by decide) (by decide) hch)
  omega
theorem TL.int {i : Int} (h : i.natAbs.log2 < 1920) : TL 1921 (intT i) := by
  refine ⟨asc_iff.mpr fun c hc => ?_, intT_len h⟩
  unfold intT cpl at hc
  rw [signs_ofString] at hc
  cases i with
  | ofNat m =>
    have e : (toString (Int.ofNat m)).toList = Nat.toDigits 10 m := by
      show (Nat.repr m).toList = _
      rw [Nat.toList_repr]
    rw [e] at hc
    exact digs_asc m c hc
  | negSucc m =>
    have e : (toString (Int.negSucc m)).toList = '-' :: Nat.toDigits 10 (m + 1) := by
      show ("-" ++ Nat.repr (m + 1)).toList = _
      rw [String.toList_append, Nat.toList_repr]
      rfl
    rw [e, List.map_cons] at hc
    rcases List.mem_cons.mp hc with h | h
    · have : ('-' : Char).toNat = 45 := by decide
      omega
    · exact digs_asc (m + 1) c h
theorem log_small {i : Int} (h1 : -1000000000000000000000000000000000000000000000000000000000000 ≤ i) (h2 : i ≤ 1000000000000000000000000000000000000000000000000000000000000) : i.natAbs.log2 < 1920 := by
  have b : Bt 200 i := bt_of h1 h2
  unfold Bt at b
  by_cases z : i.natAbs = 0
  · rw [z]; decide
  · exact Nat.lt_of_lt_of_le ((Nat.log2_lt z).mpr b) (by decide)
theorem mem_at {xs : List V} {i : Int} (h0 : 0 ≤ i) (h1 : i < (xs.length : Int)) : ∃ v, atI xs i = some v ∧ v ∈ xs := by
  have hk : i.toNat < xs.length := by omega
  refine ⟨xs[i.toNat], ?_, List.getElem_mem hk⟩
  have := atI_nat (xs := xs) (j := i.toNat) (v := xs[i.toNat]) (by simp [hk])
  rwa [show ((i.toNat : Nat) : Int) = i by omega] at this
/-- an item of a list of texts -/
def isTL (k : Nat) (v : V) : Bool := match v with | .str z => asc z && decide (z.length ≤ k) | _ => false
theorem isTL_iff {k : Nat} {v : V} (h : isTL k v = true) : ∃ z, v = .str z ∧ TL k z := by
  cases v with
  | str z =>
    have h' : (asc z && decide (z.length ≤ k)) = true := h
    rw [Bool.and_eq_true, decide_eq_true_eq] at h'
    exact ⟨z, rfl, h'.1, h'.2⟩
  | _ => cases h
theorem at_texts {k : Nat} {xs : List V} {i : Int} (hx : xs.all (isTL k) = true) (h0 : 0 ≤ i) (h1 : i < (xs.length : Int)) : ∃ z, atI xs i = some (.str z) ∧ TL k z := by
  obtain ⟨v, hv, hm⟩ := mem_at h0 h1
  obtain ⟨z, rfl, hz⟩ := isTL_iff (List.all_eq_true.mp hx v hm)
  exact ⟨z, hv, hz⟩
def spOddT : Sp := fun vs H Q _ => ∃ x : Int, vs = [.int x] ∧ ∀ (z : Str) (H' : Hp), Same H H' → TL 100 z → Q (.str z) H'
def spFreeT : Sp := fun vs H Q _ => ∃ (x : Int) (z : Str), vs = [.int x, .str z] ∧ TL 1000 z ∧ 1 ≤ z.length ∧ ∀ y, TL 1000 y → Q (.str y) H
theorem mul_mem {z : Str} {n : Int} {c : Nat} (h : c ∈ cpl (Txt.mul z n)) : c ∈ cpl z := by
  unfold Txt.mul at h
  split at h
  · have : cpl Str.empty = [] := by decide
    rw [this] at h
    cases h
  · split at h
    · exact h
    · have gen : ∀ (k : Nat) (acc : Array Nat), (∀ c ∈ acc.toList, c ∈ cpl z) → ∀ c ∈ ((List.replicate k z.cps).foldl (· ++ ·) acc).toList, c ∈ cpl z := by
        intro k
        induction k with
        | zero => intro acc ha c hc; exact ha c hc
        | succ k ih =>
          intro acc ha c hc
          rw [List.replicate_succ, List.foldl_cons] at hc
          refine ih _ (fun d hd => ?_) c hc
          rw [Array.toList_append] at hd
          rcases List.mem_append.mp hd with x | x
          · exact ha d x
          · exact x
      exact gen n.toNat #[] (by simp) c h
theorem mul_len (z : Str) (k : Nat) : ∀ acc : Array Nat, ((List.replicate k z.cps).foldl (· ++ ·) acc).size = acc.size + k * z.length := by
  induction k with
  | zero => intro acc; simp
  | succ k ih =>
    intro acc
    rw [List.replicate_succ, List.foldl_cons, ih, Array.size_append, Nat.succ_mul]
    show acc.size + z.length + _ = _
    omega
theorem TL.mul {k : Nat} {z : Str} {n : Int} (h : TL k z) (hn : n ≤ 10) : TL (10 * k) (Txt.mul z n) := by
  refine ⟨asc_iff.mpr fun c hc => asc_iff.mp h.asc c (mul_mem hc), ?_⟩
  have hl := h.len
  unfold Txt.mul
  split
  · show 0 ≤ _
    omega
  · split
    · omega
    · show ((List.replicate n.toNat z.cps).foldl (· ++ ·) #[]).size ≤ _
      rw [mul_len]
      have : n.toNat * z.length ≤ 10 * k := Nat.mul_le_mul (by omega) hl
      simpa using this
theorem four {a b c d : V} : ([a, b, c, d] : List V).length ≤ sizeLine := by show 4 ≤ sizeLine; decide
theorem digitsVal_snoc' (cs : List Nat) (c : Nat) : PySem.NumText.digitsVal (cs ++ [c]) = PySem.NumText.digitsVal cs * 10 + (c - 48) := by
  unfold PySem.NumText.digitsVal
  rw [List.foldl_append]
  rfl
theorem digitsVal_lt : ∀ (k : Nat) (cs : List Nat), cs.length = k → (∀ c ∈ cs, 48 ≤ c ∧ c ≤ 57) → PySem.NumText.digitsVal cs < 10 ^ k := by
  intro k
  induction k with
  | zero =>
    intro cs h _
    rw [List.length_eq_zero_iff.mp h]
    decide
  | succ k ih =>
    intro cs h hd
    have hne : cs ≠ [] := fun z => by rw [z] at h; cases h
    obtain ⟨r, c, rfl⟩ : ∃ r c, cs = r ++ [c] := ⟨cs.dropLast, cs.getLast hne, (List.dropLast_concat_getLast hne).symm⟩
    rw [List.length_append, List.length_singleton] at h
    have i1 := ih r (by omega) fun d hd' => hd d (List.mem_append_left _ hd')
    have c1 := hd c (List.mem_append_right _ (List.mem_singleton.mpr rfl))
    rw [digitsVal_snoc', Nat.pow_succ]
    omega
theorem dT (n : Nat) : cpl (intT (n : Int)) = (Nat.toDigits 10 n).map Char.toNat := by
  unfold intT cpl
  rw [signs_ofString]
  have e : (toString (Int.ofNat n)).toList = Nat.toDigits 10 n := by
    show (Nat.repr n).toList = _
    rw [Nat.toList_repr]
  exact congrArg (List.map Char.toNat) e
theorem ofNat_toNat {cs : List Nat} (h : ∀ c ∈ cs, 48 ≤ c ∧ c ≤ 57) : (cs.map Char.ofNat).map Char.toNat = cs := by
  rw [List.map_map]
  conv => rhs; rw [← List.map_id cs]
  refine List.map_congr_left fun c hc => ?_
  have := h c hc
  rcases (by omega : c = 48 ∨ c = 49 ∨ c = 50 ∨ c = 51 ∨ c = 52 ∨ c = 53 ∨ c = 54 ∨ c = 55 ∨ c = 56 ∨ c = 57) with e | e | e | e | e | e | e | e | e | e <;> subst e <;> rfl
theorem canon {cs : List Nat} (h : ∀ c ∈ cs, 48 ≤ c ∧ c ≤ 57) (ne : cs ≠ []) (z : cs.head? = some 48 → cs = [48]) : cpl (intT ((PySem.NumText.digitsVal cs : Nat) : Int)) = cs := by
  rw [dT]
  obtain ⟨c, r, rfl⟩ : ∃ c r, cs = c :: r := by
    cases cs with
    | nil => exact absurd rfl ne
    | cons c r => exact ⟨c, r, rfl⟩
  have hc := h c List.mem_cons_self
  rw [PySem.NumText.toDigits_digitsVal r.length (c :: r) (by simp) h (by
    by_cases e : c = 48
    · have := z (by rw [e]; rfl)
      injection this with _ e2
      exact .inl (by rw [e2]; rfl)
    · exact .inr ⟨c, r, rfl, by omega⟩)]
  exact ofNat_toNat h
theorem canon_iff {cs : List Nat} (h : ∀ c ∈ cs, 48 ≤ c ∧ c ≤ 57) (ne : cs ≠ []) : cpl (intT ((PySem.NumText.digitsVal cs : Nat) : Int)) = cs ↔ (cs.head? = some 48 → cs = [48]) := by
  refine ⟨fun e z => ?_, canon h ne⟩
  refine Classical.byContradiction fun hn => ?_
  obtain ⟨r, rfl⟩ : ∃ r, cs = 48 :: r := by
    cases cs with
    | nil => exact absurd rfl ne
    | cons c r =>
      injection z with z
      exact ⟨r, by rw [z]⟩
  have rn : r ≠ [] := fun y => hn (by rw [y])
  have dr : ∀ c ∈ r, 48 ≤ c ∧ c ≤ 57 := fun c hc => h c (List.mem_cons_of_mem _ hc)
  have ev : PySem.NumText.digitsVal (48 :: r) = PySem.NumText.digitsVal r := rfl
  rw [dT, ev, PySem.NumText.toDigits_all r dr] at e
  have l : r.length + 1 = (match r.dropWhile (· == 48) with | [] => ['0'] | c :: r => (c :: r).map Char.ofNat).length := by
    have := congrArg List.length e
    rw [List.length_map, List.length_cons] at this
    exact this.symm
  have d : (r.dropWhile (· == 48)).length ≤ r.length := (List.dropWhile_sublist _).length_le
  have r1 : 1 ≤ r.length := by
    cases r with
    | nil => exact absurd rfl rn
    | cons _ _ => simp
  cases hd : r.dropWhile (· == 48) with
  | nil =>
    rw [hd] at l
    have l' : r.length + 1 = 1 := l
    omega
  | cons a b =>
    rw [hd] at l d
    have l' : r.length + 1 = ((a :: b).map Char.ofNat).length := l
    rw [List.length_map] at l'
    omega
theorem int_digits (n : Nat) : (∀ c ∈ cpl (intT (n : Int)), 48 ≤ c ∧ c ≤ 57) ∧ cpl (intT (n : Int)) ≠ [] ∧ PySem.NumText.digitsVal (cpl (intT (n : Int))) = n := by
  rw [dT]
  refine ⟨fun c hc => ?_, fun e => ?_, PySem.W.KIN.val_back n⟩
  · obtain ⟨ch, hch, e⟩ := List.mem_map.mp hc
    have r := digit_range (Nat.isDigit_of_mem_toDigits (by decide) (by decide) hch)
    omega
  · have := congrArg List.length e
    rw [List.length_map] at this
    have p := Nat.length_toDigits_pos (b := 10) (n := n)
    rw [List.length_nil] at this
    omega
/-- a month or a day as a text -/
def Two (w : List Nat) : Prop := w.length = 2 ∧ w.head? = some 48
instance (w : List Nat) : Decidable (Two w) := by unfold Two; infer_instance
/-- what the law takes for a part: figures, and the text by two figures of its value -/
structure Figs (w : List Nat) : Prop where
  lo : 1 ≤ w.length
  hi : w.length ≤ 60
  dg : ∀ c ∈ w, 48 ≤ c ∧ c ≤ 57
theorem figs_pos {cs : List Nat} (h : cs.head? ≠ some 45) : figs cs = cs := by unfold figs; rw [if_neg h]
theorem val_pos {cs : List Nat} (h : cs.head? ≠ some 45) : numVal cs = ((PySem.NumText.digitsVal cs : Nat) : Int) := by unfold numVal; rw [if_neg h, figs_pos h]
theorem dg_head {cs : List Nat} (h : ∀ c ∈ cs, 48 ≤ c ∧ c ≤ 57) : cs.head? ≠ some 45 := by
  cases cs with
  | nil => exact fun z => nomatch z
  | cons a r =>
    intro z
    injection z with z
    have := h a List.mem_cons_self
    omega
theorem TOk.part {z : Str} (h : TOk z) {c : Nat} {p : List Nat} (hp : p ∈ spl c (cpl z)) (hs : ∀ a ∈ p, a ∈ cpl z) : TOk (⟨p.toArray⟩ : Str) := by
  refine ⟨asc_iff.mpr fun a ha => asc_iff.mp h.asc a (hs a ha), ?_⟩
  have l := spl_len c (cpl z) p hp
  rw [len_cpl] at l
  have : (⟨p.toArray⟩ : Str).length = p.length := by rw [← len_cpl]; rfl
  have := h.len
  omega
theorem spl_mem (c : Nat) : ∀ (l p : List Nat), p ∈ spl c l → ∀ a ∈ p, a ∈ l
  | [], p, hp, a, ha => by
    cases List.mem_singleton.mp hp
    cases ha
  | x :: l, p, hp, a, ha => by
    have ih := spl_mem c l
    by_cases h : x = c
    · subst h
      rw [spl_at] at hp
      rcases List.mem_cons.mp hp with e | e
      · rw [e] at ha; cases ha
      · exact List.mem_cons_of_mem _ (ih p e a ha)
    · rw [spl_not _ h] at hp
      rw [spl_eta c l] at ih
      rcases List.mem_cons.mp hp with e | e
      · rw [e] at ha
        rcases List.mem_cons.mp ha with y | y
        · rw [y]; exact List.mem_cons_self
        · exact List.mem_cons_of_mem _ (ih _ List.mem_cons_self a y)
      · exact List.mem_cons_of_mem _ (ih p (List.mem_cons_of_mem _ e) a ha)
theorem dT_len {n : Nat} (h : n < 10 ^ 60) : (cpl (intT (n : Int))).length ≤ 60 := by
  rw [dT, List.length_map]
  exact (Nat.length_toDigits_le_iff (by decide) (by decide)).mpr h
theorem figs_int {y : Int} (h : y.natAbs < 10 ^ 60) : IsNum (cpl (intT y)) ∧ numVal (cpl (intT y)) = y ∧ 47 ∉ cpl (intT y) := by
  have id := int_digits y.natAbs
  have dl := dT_len h
  have z0 : (cpl (intT ((y.natAbs : Nat) : Int))).head? = some 48 → cpl (intT ((y.natAbs : Nat) : Int)) = [48] := by
    have c := (canon_iff id.1 id.2.1).mp (by rw [id.2.2])
    exact c
  have l1 : 1 ≤ (cpl (intT ((y.natAbs : Nat) : Int))).length := by
    cases hh : cpl (intT ((y.natAbs : Nat) : Int)) with
    | nil => exact absurd hh id.2.1
    | cons a r => simp
  rcases Int.lt_or_le y 0 with c | c
  · have e : cpl (intT y) = 45 :: cpl (intT ((y.natAbs : Nat) : Int)) := by
      cases y with
      | ofNat k => exact absurd c (by simp)
      | negSucc k =>
        show cpl (intT (Int.negSucc k)) = 45 :: cpl (intT (((k + 1 : Nat)) : Int))
        rw [dT]
        unfold intT cpl
        rw [signs_ofString]
        show (("-" ++ Nat.repr (k + 1)).toList).map Char.toNat = _
        rw [String.toList_append, List.map_append, Nat.toList_repr]
        rfl
    have hh : (cpl (intT y)).head? = some 45 := by rw [e]; rfl
    have ef : figs (cpl (intT y)) = cpl (intT ((y.natAbs : Nat) : Int)) := by unfold figs; rw [if_pos hh, e]; rfl
    refine ⟨⟨by rw [ef]; exact l1, by rw [ef]; exact dl, by rw [ef]; exact id.1, fun z => ?_⟩, ?_, ?_⟩
    · rw [ef] at z
      have := z0 z
      have v := id.2.2
      rw [this] at v
      have : PySem.NumText.digitsVal [48] = 0 := rfl
      omega
    · unfold numVal
      rw [if_pos hh, ef, id.2.2]
      omega
    · rw [e]
      intro z
      rcases List.mem_cons.mp z with z | z
      · omega
      · have := id.1 47 z
        omega
  · have e : intT y = intT ((y.natAbs : Nat) : Int) := by congr 1; omega
    rw [e]
    have h45 := dg_head id.1
    refine ⟨⟨by rw [figs_pos h45]; exact l1, by rw [figs_pos h45]; exact dl, by rw [figs_pos h45]; exact id.1, fun z => z0 (by rw [figs_pos h45] at z; exact z)⟩, ?_, fun z => by have := id.1 47 z; omega⟩
    rw [val_pos h45, id.2.2]
    omega
theorem num_iff (a : List Nat) : IsNum a ↔ Figs (figs a) ∧ cpl (intT ((PySem.NumText.digitsVal (figs a) : Nat) : Int)) = figs a ∧ (a.head? = some 45 → PySem.NumText.digitsVal (figs a) ≠ 0) := by
  constructor
  · intro N
    have ne : figs a ≠ [] := fun z => by have := N.lo; rw [z] at this; simp at this
    have fz : (figs a).head? = some 48 → figs a = [48] := fun z => by
      have e := N.z0 z
      rw [e]
      rfl
    have c := (canon_iff N.dg ne).mpr fz
    refine ⟨⟨N.lo, N.hi, N.dg⟩, c, fun h z => ?_⟩
    rw [z] at c
    have e0 : cpl (intT ((0 : Nat) : Int)) = [48] := by decide +kernel
    rw [e0] at c
    have := N.z0 (by rw [← c]; rfl)
    rw [this] at h
    cases h
  · rintro ⟨F, c, s⟩
    have ne : figs a ≠ [] := fun z => by have := F.lo; rw [z] at this; simp at this
    have fz := (canon_iff F.dg ne).mp c
    refine ⟨F.lo, F.hi, F.dg, fun z => ?_⟩
    have e := fz z
    by_cases h : a.head? = some 45
    · refine absurd ?_ (s h)
      rw [e]
      rfl
    · rw [figs_pos h] at e
      exact e
theorem figs_lt {w : List Nat} (h : Figs w) : PySem.NumText.digitsVal w < 10 ^ 60 := Nat.lt_of_lt_of_le (digitsVal_lt w.length w rfl h.dg) (Nat.pow_le_pow_right (by decide) h.hi)
def numT (i : Int) : List Nat := cpl (intT i)
def txt (p : List Nat) : Str := ⟨p.toArray⟩
theorem cpl_txt (p : List Nat) : cpl (txt p) = p := rfl
theorem txt_cpl (z : Str) : txt (cpl z) = z := str_ext (cpl_txt _)
theorem txt_num (i : Int) : txt (numT i) = intT i := txt_cpl _
def joinC (c : Nat) : List (List Nat) → List Nat
  | [] => []
  | w :: ws => w ++ (ws.map (c :: ·)).flatten
theorem joinC_cons (c : Nat) (w y : List Nat) (ws : List (List Nat)) : joinC c (w :: y :: ws) = w ++ c :: joinC c (y :: ws) := by
  show w ++ ((c :: y) ++ (ws.map (c :: ·)).flatten) = w ++ c :: (y ++ (ws.map (c :: ·)).flatten)
  rfl
theorem glue_fold (c : Nat) : ∀ (zs : List Str) (acc : Array Nat), (zs.foldl (fun acc (p : Str) => acc ++ (⟨#[c]⟩ : Str).cps ++ p.cps) acc).toList = acc.toList ++ ((zs.map cpl).map (c :: ·)).flatten
  | [], acc => by simp
  | z :: zs, acc => by
    rw [List.foldl_cons, glue_fold c zs, Array.toList_append, Array.toList_append, List.map_cons, List.map_cons, List.flatten_cons]
    show (acc.toList ++ [c] ++ cpl z) ++ _ = acc.toList ++ ((c :: cpl z) ++ _)
    simp
theorem join_cpl (c : Nat) (zs : List Str) : cpl (Txt.join ⟨#[c]⟩ zs) = joinC c (zs.map cpl) := by
  cases zs with
  | nil => rfl
  | cons z zs =>
    show ((zs.foldl (fun acc (p : Str) => acc ++ (⟨#[c]⟩ : Str).cps ++ p.cps) z.cps)).toList = _
    rw [glue_fold]
    rfl
theorem e44 : Str.ofString "," = ⟨#[44]⟩ := by decide +kernel
theorem e32 : Str.ofString " " = ⟨#[32]⟩ := by decide +kernel
theorem eNo : Str.ofString "" = ⟨#[]⟩ := by decide +kernel
/-- a number whose text can be read -/
def Sm (i : Int) : Prop := i.natAbs < 10 ^ 60
theorem num_ok {i : Int} (h : Sm i) : IsNum (numT i) ∧ numVal (numT i) = i := ⟨(figs_int h).1, (figs_int h).2.1⟩
theorem num_len {i : Int} (h : Sm i) : (numT i).length ≤ 61 := by
  have := (num_ok h).1.hi
  unfold figs at this
  split at this
  · rw [List.length_drop] at this
    omega
  · omega
/-- the text of a term -/
def tmW (t : Tm) : List Nat := (if t.1 = 1 then 43 else 45) :: joinC 44 [numT t.2.1, numT t.2.2.1, numT t.2.2.2]
def sunWs (s : Int) (ls : List Int) (lp : Int) (ts : List Tm) : List (List Nat) := numT s :: joinC 44 (ls.map numT) :: (if ts = [] then [] else [108, 101, 97, 112] :: numT lp :: ts.map tmW)
def moonWs (s bd : Int) (td : List Tm) (bm : Int) (tm : List Tm) : List (List Nat) := numT s :: numT bd :: (td.map tmW ++ [47] :: numT bm :: tm.map tmW)
def calW : CalD → List (List Nat)
  | .sun s ls lp ts => [115, 117, 110] :: sunWs s ls lp ts
  | .moon s bd td bm tm => [109, 111, 111, 110] :: moonWs s bd td bm tm
def calT (d : CalD) : List Nat := joinC 32 (calW d)
/-- two calendars that tell the same -/
structure Like (d e : CalD) : Prop where
  L : ∀ y, d.L y = e.L y
  Y : ∀ y, d.Y y = e.Y y
  cy : d.cy = e.cy
theorem Like.day {d e : CalD} (h : Like d e) (y m r : Int) : DayOf d y m r = DayOf e y m r := by
  unfold DayOf
  rw [h.L, h.Y]
theorem sm_of {i : Int} (h1 : -100000000000000000000000000000000000000000000000000 ≤ i) (h2 : i ≤ 100000000000000000000000000000000000000000000000000) : Sm i := by
  unfold Sm
  have : (10 : Nat) ^ 60 = 1000000000000000000000000000000000000000000000000000000000000 := by decide
  omega
theorem okT_sm {t : Tm} (h : OkT t) : Sm t.2.1 ∧ Sm t.2.2.1 ∧ Sm t.2.2.2 := by
  have a0 := h.a0
  have a1 := h.a1
  have b0 := h.b0
  have b1 := h.b1
  have n0 := h.n0
  have n1 := h.n1
  exact ⟨sm_of (by omega) (by omega), sm_of (by omega) (by omega), sm_of (by omega) (by omega)⟩
theorem joinC_ch {c : Nat} {P : Nat → Prop} (hc : P c) : ∀ {ws : List (List Nat)}, (∀ w ∈ ws, ∀ a ∈ w, P a) → ∀ a ∈ joinC c ws, P a
  | [], _, a, ha => by cases ha
  | w :: ws, h, a, ha => by
    rcases List.mem_append.mp ha with z | z
    · exact h w List.mem_cons_self a z
    · obtain ⟨x, hx, hz⟩ := List.mem_flatten.mp z
      obtain ⟨y, hy, rfl⟩ := List.mem_map.mp hx
      rcases List.mem_cons.mp hz with e | e
      · rw [e]; exact hc
      · exact h y (List.mem_cons_of_mem _ hy) a e
theorem joinC_len (c k : Nat) : ∀ {ws : List (List Nat)}, (∀ w ∈ ws, w.length ≤ k) → (joinC c ws).length ≤ ws.length * (k + 1)
  | [], _ => Nat.zero_le _
  | [w], h => by
    have := h w List.mem_cons_self
    show (w ++ []).length ≤ 1 * (k + 1)
    rw [List.append_nil]
    omega
  | w :: y :: ws, h => by
    have a := h w List.mem_cons_self
    have b := joinC_len c k (ws := y :: ws) fun x hx => h x (List.mem_cons_of_mem _ hx)
    rw [joinC_cons, List.length_append, List.length_cons, List.length_cons (as := y :: ws), Nat.succ_mul]
    omega
theorem tmW_len {t : Tm} (h : OkT t) : (tmW t).length ≤ 187 := by
  obtain ⟨s1, s2, s3⟩ := okT_sm h
  have := joinC_len 44 61 (ws := [numT t.2.1, numT t.2.2.1, numT t.2.2.2]) fun w hw => by
    rcases List.mem_cons.mp hw with rfl | hw
    · exact num_len s1
    rcases List.mem_cons.mp hw with rfl | hw
    · exact num_len s2
    · rw [List.mem_singleton.mp hw]
      exact num_len s3
  unfold tmW
  rw [List.length_cons]
  have e : ([numT t.2.1, numT t.2.2.1, numT t.2.2.2] : List (List Nat)).length * (61 + 1) = 186 := rfl
  omega
theorem rd_slT {K : PySem.W.Frag} {a : Addr} {xs : List V} {lo hi : Option Int} {H : Hp} {Q : VK} (h : SqT K H a xs) (n : ¬ (HT.sIx xs.length 0 lo = 0 ∧ HT.sIx xs.length xs.length hi = xs.length)) (q : ∀ p, H p = none → Q (.ref p) (upd H p (.tup (cutV xs lo hi)))) : rSlT K (.ref a) lo hi H Q := ⟨a, xs, rfl, h, n, q⟩
theorem cut_from' (xs : List V) (k : Nat) : cutV xs (some (k : Int)) none = xs.drop k := by
  unfold cutV
  rw [HT.sIx_nat, HT.sIx_none]
  by_cases h : k ≤ xs.length
  · rw [Nat.min_eq_left h, List.take_of_length_le (by rw [List.length_drop]; exact Nat.le_refl _)]
  · rw [Nat.min_eq_right (by omega), List.drop_of_length_le (Nat.le_refl _), List.drop_of_length_le (by omega), List.take_nil]
def strV (v : V) : V := match v with | .int n => .str (intT n) | _ => .non
theorem strV_map (ns : List Int) : (ns.map V.int).map strV = (ns.map intT).map V.str := by
  rw [List.map_map, List.map_map]
  rfl
def tStr : TE := tCB (fun xs H Q => ∃ i : Int, xs = [V.int i] ∧ i.natAbs.log2 < 1920 ∧ Q (V.str (Str.ofString (toString i))) H) (tCons (tVar 0) tNil)
theorem comp_str {J : It} {ok : Hp → Prop} {ns : List Int} {σ : L2.St} {H : Hp} {Q : VK} (Wk : Walk J ok (ns.map V.int)) (hz : ns.length ≤ 1000) (hok : ∀ D ys, H D = none → ok (L2.upd H D (.lst ys))) (sm : ∀ n ∈ ns, n.natAbs.log2 < 1920)
    (h : ∀ D, H D = none → Q (.ref D) (L2.upd H D (.lst ((ns.map intT).map V.str)))) : CompR tTrue tStr σ Q J H := by
  refine comp_go Wk (by rw [List.length_map]; exact small1000 hz) hok (fun _ => true) strV (fun x hx D ys Q' hD h => rd_true h) (fun x hx _ D ys Q' hD h => ?_) (fun D hD => ?_)
  · obtain ⟨n, hn, rfl⟩ := List.mem_map.mp hx
    exact ⟨_, rfl, n, rfl, sm n hn, h⟩
  · rw [List.filter_eq_self.mpr (fun _ _ => rfl), strV_map]
    exact h D hD
theorem sum_lens {k : Nat} : ∀ {zs : List Str}, (∀ z ∈ zs, z.length ≤ k) → (zs.map (·.length)).sum ≤ zs.length * k
  | [], _ => Nat.zero_le _
  | z :: zs, h => by
    have := sum_lens (zs := zs) fun y hy => h y (List.mem_cons_of_mem _ hy)
    have := h z List.mem_cons_self
    rw [List.map_cons, List.sum_cons, List.length_cons, Nat.succ_mul]
    omega
theorem join_nums (ns : List Int) : Txt.join (Str.ofString ",") (ns.map intT) = txt (joinC 44 (ns.map numT)) := by
  rw [e44]
  exact str_ext (by rw [join_cpl, List.map_map]; rfl)
theorem join_words (ws : List (List Nat)) : Txt.join (Str.ofString " ") (ws.map txt) = txt (joinC 32 ws) := by
  rw [e32]
  exact str_ext (by rw [join_cpl, List.map_map]; exact congrArg (joinC 32) (List.map_id' ws))
theorem txt_len (p : List Nat) : (txt p).length = p.length := by rw [← len_cpl]; rfl
theorem intT_lenS {i : Int} (h : Sm i) : (intT i).length ≤ 61 := by rw [← len_cpl]; exact num_len h
def spTermText (K : PySem.W.Frag) : Sp := fun vs H Q _ => ∃ (p : Addr) (t : Tm), vs = [.ref p] ∧ SqT K H p (tmV t) ∧ OkT t ∧ ∀ H', Same H H' → Q (.str (txt (tmW t))) H'
theorem sm_log {i : Int} (h : Sm i) : i.natAbs.log2 < 1920 := by
  refine log_small ?_ ?_
  · unfold Sm at h
    have : (10 : Nat) ^ 60 = 1000000000000000000000000000000000000000000000000000000000000 := by decide
    omega
  · unfold Sm at h
    have : (10 : Nat) ^ 60 = 1000000000000000000000000000000000000000000000000000000000000 := by decide
    omega
def wV (ws : List (List Nat)) : List V := (ws.map txt).map V.str
theorem wV_app (a b : List (List Nat)) : wV (a ++ b) = wV a ++ wV b := by unfold wV; rw [List.map_append, List.map_append]
theorem wV_len (a : List (List Nat)) : (wV a).length = a.length := by unfold wV; rw [List.length_map, List.length_map]
theorem eSun : Str.ofString "sun" = txt [115, 117, 110] := by decide +kernel
theorem eMoon : Str.ofString "moon" = txt [109, 111, 111, 110] := by decide +kernel
theorem eLeap : Str.ofString "leap" = txt [108, 101, 97, 112] := by decide +kernel
theorem eSlash : Str.ofString "/" = txt [47] := by decide +kernel
theorem eStr (i : Int) : Str.ofString (toString i) = txt (numT i) := (txt_num i).symm
def spTermWords (K : PySem.W.Frag) : Sp := fun vs H Q _ => ∃ (p : Addr) (ts : List Tm), vs = [.ref p] ∧ TmT K H p ts ∧ ∀ (l : Addr) H', H l = none → Same H H' → H' l = some (.lst (wV (ts.map tmW))) → Q (.ref l) H'
def spShowS (K : PySem.W.Frag) (CS CM : Addr) : Sp := fun vs H Q _ => ∃ (x : Addr) (s : Int) (ls : List Int) (lp : Int) (ts : List Tm), vs = [.ref x] ∧ SunO K CS CM H x s ls lp ts ∧ Sm s ∧ ∀ H', Same H H' → Q (.str (txt (calT (.sun s ls lp ts)))) H'
def spShowM (K : PySem.W.Frag) (CO CM : Addr) : Sp := fun vs H Q _ => ∃ (x : Addr) (s bd : Int) (td : List Tm) (bm : Int) (tm : List Tm), vs = [.ref x] ∧ MoonO K CO CM H x s bd td bm tm ∧ Sm s ∧ ∀ H', Same H H' → Q (.str (txt (calT (.moon s bd td bm tm)))) H'
theorem lens_sm {ls : List Int} (h : ∀ n ∈ ls, 0 ≤ n ∧ n ≤ 1000) : ∀ n ∈ ls, Sm n := fun n hn => sm_of (by have := h n hn; omega) (by have := h n hn; omega)
theorem lensT_len {ls : List Int} (h : ∀ n ∈ ls, 0 ≤ n ∧ n ≤ 1000) (l : ls.length ≤ 20) : (joinC 44 (ls.map numT)).length ≤ 1240 := by
  have := joinC_len 44 61 (ws := ls.map numT) fun w hw => by
    obtain ⟨n, hn, rfl⟩ := List.mem_map.mp hw
    exact num_len (lens_sm h n hn)
  rw [List.length_map] at this
  omega
/-- how long the words of a calendar are at most -/
theorem calW_len {d : CalD} (g : d.good) (s : Sm d.st) : (∀ w ∈ calW d, w.length ≤ 1240) ∧ (calW d).length ≤ 20 := by
  cases d with
  | sun s0 ls lp ts =>
    have g' : GoodS ls lp ts := g
    have few := g'.few
    have p0 := g'.p0
    have p1 := g'.p1
    have l1 := g'.l1
    have slp : Sm lp := sm_of (by omega) (by omega)
    have s' : Sm s0 := s
    refine ⟨fun w hw => ?_, ?_⟩
    · have hw : w ∈ [115, 117, 110] :: sunWs s0 ls lp ts := hw
      unfold sunWs at hw
      rcases List.mem_cons.mp hw with rfl | hw
      · decide
      rcases List.mem_cons.mp hw with rfl | hw
      · exact Nat.le_trans (num_len s') (by decide)
      rcases List.mem_cons.mp hw with rfl | hw
      · exact lensT_len g'.m l1
      by_cases c : ts = []
      · rw [if_pos c] at hw
        cases hw
      · rw [if_neg c] at hw
        rcases List.mem_cons.mp hw with rfl | hw
        · decide
        rcases List.mem_cons.mp hw with rfl | hw
        · exact Nat.le_trans (num_len slp) (by decide)
        · obtain ⟨t, ht, rfl⟩ := List.mem_map.mp hw
          exact Nat.le_trans (tmW_len (g'.ok t ht)) (by decide)
    · show ([115, 117, 110] :: sunWs s0 ls lp ts).length ≤ 20
      unfold sunWs
      by_cases c : ts = []
      · rw [if_pos c]
        show 3 ≤ 20
        decide
      · rw [if_neg c]
        simp only [List.length_cons, List.length_map]
        omega
  | moon s0 bd td bm tm =>
    have g' : GoodMo bd td bm tm := g
    have f1 := g'.fwd
    have f2 := g'.fwm
    have n1 := falls_nn (ts := td)
    have n2 := falls_nn (ts := tm)
    have h1 := g'.fd
    have h2 := g'.fm
    have h3 := g'.gd
    have h4 := g'.gm
    have s' : Sm s0 := s
    refine ⟨fun w hw => ?_, ?_⟩
    · have hw : w ∈ [109, 111, 111, 110] :: moonWs s0 bd td bm tm := hw
      unfold moonWs at hw
      rcases List.mem_cons.mp hw with rfl | hw
      · decide
      rcases List.mem_cons.mp hw with rfl | hw
      · exact Nat.le_trans (num_len s') (by decide)
      rcases List.mem_cons.mp hw with rfl | hw
      · exact Nat.le_trans (num_len (sm_of (by omega) (by omega))) (by decide)
      rcases List.mem_append.mp hw with hw | hw
      · obtain ⟨t, ht, rfl⟩ := List.mem_map.mp hw
        exact Nat.le_trans (tmW_len (g'.okd t ht)) (by decide)
      rcases List.mem_cons.mp hw with rfl | hw
      · decide
      rcases List.mem_cons.mp hw with rfl | hw
      · exact Nat.le_trans (num_len (sm_of (by omega) (by omega))) (by decide)
      · obtain ⟨t, ht, rfl⟩ := List.mem_map.mp hw
        exact Nat.le_trans (tmW_len (g'.okm t ht)) (by decide)
    · show ([109, 111, 111, 110] :: moonWs s0 bd td bm tm).length ≤ 20
      unfold moonWs
      simp only [List.length_cons, List.length_map, List.length_append]
      omega
theorem join_fit {d : CalD} (g : d.good) (s : Sm d.st) : (((calW d).map txt).map (·.length)).sum + ((calW d).map txt).length * (Str.ofString " ").length ≤ 16777216 := by
  obtain ⟨h1, h2⟩ := calW_len g s
  have e1 : (Str.ofString " ").length = 1 := by decide +kernel
  have := sum_lens (k := 1240) (zs := (calW d).map txt) fun z hz => by
    obtain ⟨w, hw, rfl⟩ := List.mem_map.mp hz
    rw [txt_len]
    exact h1 w hw
  rw [List.length_map] at this
  rw [e1, List.length_map]
  omega
theorem at_n0 {α : Type} {a : α} {l : List α} : atI (a :: l) 0 = some a := atI_nat (j := 0) rfl
theorem at_n1 {α : Type} {a b : α} {l : List α} : atI (a :: b :: l) 1 = some b := atI_nat (j := 1) rfl
theorem at_n2 {α : Type} {a b c : α} {l : List α} : atI (a :: b :: c :: l) 2 = some c := atI_nat (j := 2) rfl
theorem at_n3 {α : Type} {a b c d : α} {l : List α} : atI (a :: b :: c :: d :: l) 3 = some d := atI_nat (j := 3) rfl
structure TmU (K : PySem.W.Frag) (H : Hp) (p : Addr) (ts : List Tm) : Prop where
  ex : ∃ vs, SqT K H p vs ∧ Tms H vs ts
  few : ts.length ≤ 5000
theorem TmU.same {K : PySem.W.Frag} {H H' : Hp} {p : Addr} {ts : List Tm} (T : TmU K H p ts) (s : Same H H') : TmU K H' p ts := by
  obtain ⟨vs, h1, h2⟩ := T.ex
  exact ⟨⟨vs, s.tup h1, h2.same s⟩, T.few⟩
theorem TmT.toU {K : PySem.W.Frag} {H : Hp} {p : Addr} {ts : List Tm} (T : TmT K H p ts) : TmU K H p ts := ⟨T.ex, Nat.le_trans T.few (by decide)⟩
def ENoM (cM : Addr) (H : Hp) (E : XK) : Prop := ∀ H', Same H H' → E (.ref cM) none H'
structure Gd (b : Int) (ts : List Tm) : Prop where
  b0 : 0 ≤ b
  b1 : b ≤ 20000
  few : ts.length ≤ 6
  ok : ∀ t ∈ ts, OkT t
  fl : falls ts ≤ b
def spIsTermU : Sp := fun vs H Q _ => ∃ (p : Addr) (t : Tm), vs = [.ref p] ∧ H p = some (.tup (tmV t)) ∧ Q (.bl (okB t)) H
def spLeastU (K : PySem.W.Frag) : Sp := fun vs H Q _ => ∃ (p : Addr) (b : Int) (ts : List Tm), vs = [.int b, .ref p] ∧ TmU K H p ts ∧ ∀ H', Same H H' → Q (.int (b - falls ts)) H'
def spRefuseME (K : PySem.W.Frag) (cM : Addr) : Sp := fun vs H Q E => ∃ (p : Addr) (b : Int) (ts : List Tm), vs = [.int b, .ref p] ∧ TmU K H p ts ∧ (Gd b ts → ∀ H', Same H H' → Q .non H') ∧ (¬ Gd b ts → ENoM cM H E)
/-- the terms handed in: none, or a list -/
def Hdt (H : Hp) (v : V) (us : List V) : Prop := (v = .non ∧ us = []) ∨ ∃ l, v = .ref l ∧ H l = some (.lst us)
theorem Hdt.same {H H' : Hp} {v : V} {us : List V} (h : Hdt H v us) (s : Same H H') : Hdt H' v us := by
  rcases h with z | ⟨l, z, e⟩
  · exact .inl z
  · exact .inr ⟨l, z, s _ _ e⟩
theorem Hdt.but {H H' : Hp} {v : V} {us : List V} {x dx C : Addr} {fs : List (Str × V)} (h : Hdt H v us) (hx : H x = some (.ins C dx fs)) (k : But x H H') : Hdt H' v us := by
  rcases h with z | ⟨l, z, e⟩
  · exact .inl z
  · exact .inr ⟨l, z, k _ _ (ne_of e hx (by intro z; cases z)) e⟩
def spInitME (K : PySem.W.Frag) (C cM : Addr) : Sp := fun vs H Q E => ∃ (x dx : Addr) (b : Int) (v : V) (us : List V) (ts : List Tm), vs = [.ref x, .int b, v] ∧ H x = some (.ins C dx []) ∧ Tms H us ts ∧ Hdt H v us ∧ ts.length ≤ 5000 ∧
  (IsM b ts → ∀ H', But x H H' → Me K C H' x b ts → Q .non H') ∧ (¬ IsM b ts → ∀ H', But x H H' → E (.ref cM) none H')
theorem in_made {H1 : Hp} {x dx : Addr} {o o' : HO} (hx : H1 x = none) (hd : H1 dx = none) : Same H1 (upd (upd H1 dx o) x o') := fun y u e => by
  rw [upd_ne (ne_of_none e hx), upd_ne (ne_of_none e hd)]; exact e
theorem but_made {x dx : Addr} {H1 H' : Hp} {o o' : HO} (hx : H1 x = none) (hd : H1 dx = none) (k : But x (upd (upd H1 dx o) x o') H') : Same H1 H' := fun y u e => by
  have y1 : y ≠ x := ne_of_none e hx
  exact k y u y1 (in_made hx hd y u e)
theorem init_meE {K : PySem.W.Frag} {C cM : Addr} {H1 : Hp} {x dx : Addr} {b : Int} {v : V} {us : List V} {ts : List Tm} {Q : VK} {E : XK} (hx : H1 x = none) (hdx : H1 dx = none) (hT : Tms H1 us ts) (hv : Hdt H1 v us) (few : ts.length ≤ 5000)
    (q : IsM b ts → ∀ H', Same H1 H' → Me K C H' x b ts → Q .non H') (qe : ¬ IsM b ts → ∀ H', Same H1 H' → E (.ref cM) none H') : spInitME K C cM [.ref x, .int b, v] (upd (upd H1 dx (.own x)) x (.ins C dx [])) Q E :=
  ⟨x, dx, b, v, us, ts, rfl, upd_same, hT.same (in_made hx hdx), hv.same (in_made hx hdx), few, fun m H5 k5 M => q m _ (but_made hx hdx k5) M, fun m H5 k5 => qe m _ (but_made hx hdx k5)⟩
structure GdMo (ls : List Int) (lp : Int) : Prop where
  l0 : 1 ≤ ls.length
  l1 : ls.length ≤ 20
  m : ∀ n ∈ ls, 0 ≤ n ∧ n ≤ 1000
  p0 : 1 ≤ lp
  p1 : lp ≤ (ls.length : Int)
theorem GoodS.gd {ls : List Int} {lp : Int} {ts : List Tm} (g : GoodS ls lp ts) : GdMo ls lp := ⟨g.l0, g.l1, g.m, g.p0, g.p1⟩
theorem GoodS.isM {ls : List Int} {lp : Int} {ts : List Tm} (s : GoodS ls lp ts) : IsM ls.sum ts := by
  have b := s.sum
  have f1 := s.f1
  exact ⟨b.1, b.2, s.few, s.ok, by omega, UP_pos s.ok s.f1 (per_pos' s.ok).1⟩
def spRefMoE (K : PySem.W.Frag) (cM : Addr) : Sp := fun vs H Q E => ∃ (l : Addr) (lp : Int) (ls : List Int), vs = [.ref l, .int lp] ∧ SqL K H l (ls.map V.int) ∧ (GdMo ls lp → Q .non H) ∧ (¬ GdMo ls lp → ENoM cM H E)
def spInitSE (K : PySem.W.Frag) (C CM cM : Addr) : Sp := fun vs H Q E => ∃ (x dx l : Addr) (s lp : Int) (v : V) (ls : List Int) (us : List V) (ts : List Tm), vs = [.ref x, .int s, .ref l, .int lp, v] ∧ H x = some (.ins C dx []) ∧ H l = some (.lst (ls.map V.int)) ∧ Tms H us ts ∧ Hdt H v us ∧ ts.length ≤ 5000 ∧ Bt 290 s ∧
  (GoodS ls lp ts → ∀ H', But x H H' → SunO K C CM H' x s ls lp ts → Q .non H') ∧ (¬ GoodS ls lp ts → ∀ H', But x H H' → E (.ref cM) none H')
theorem init_sunE {K : PySem.W.Frag} {C CM cM : Addr} {H1 : Hp} {x dx l : Addr} {s lp : Int} {v : V} {ls : List Int} {us : List V} {ts : List Tm} {Q : VK} {E : XK} (hx : H1 x = none) (hdx : H1 dx = none) (hl : H1 l = some (.lst (ls.map V.int))) (hT : Tms H1 us ts) (hv : Hdt H1 v us) (few : ts.length ≤ 5000) (bs : Bt 290 s)
    (q : GoodS ls lp ts → ∀ H', Same H1 H' → SunO K C CM H' x s ls lp ts → Q .non H') (qe : ¬ GoodS ls lp ts → ∀ H', Same H1 H' → E (.ref cM) none H') : spInitSE K C CM cM [.ref x, .int s, .ref l, .int lp, v] (upd (upd H1 dx (.own x)) x (.ins C dx [])) Q E :=
  ⟨x, dx, l, s, lp, v, ls, us, ts, rfl, upd_same, in_made hx hdx _ _ hl, hT.same (in_made hx hdx), hv.same (in_made hx hdx), few, bs, fun m H5 k5 M => q m _ (but_made hx hdx k5) M, fun m H5 k5 => qe m _ (but_made hx hdx k5)⟩
structure IsPt (b : Int) (ts : List Tm) (g : Int) : Prop where
  f : falls ts < b
  g : b ≤ g
def spRefPtE (K : PySem.W.Frag) (CM cM : Addr) : Sp := fun vs H Q E => ∃ (y : Addr) (b g : Int) (ts : List Tm), vs = [.ref y, .int g] ∧ Me K CM H y b ts ∧ (IsPt b ts g → ∀ H', Same H H' → Q .non H') ∧ (¬ IsPt b ts g → ENoM cM H E)
def spInitMoE (K : PySem.W.Frag) (C CM cM : Addr) : Sp := fun vs H Q E => ∃ (x dx d m : Addr) (s bd bm : Int) (td tm : List Tm), vs = [.ref x, .int s, .ref d, .ref m] ∧ H x = some (.ins C dx []) ∧ Me K CM H d bd td ∧ Me K CM H m bm tm ∧ Bt 290 s ∧
  (GoodMo bd td bm tm → ∀ H', But x H H' → MoonO K C CM H' x s bd td bm tm → Q .non H') ∧ (¬ GoodMo bd td bm tm → ∀ H', But x H H' → E (.ref cM) none H')
theorem init_moonE {K : PySem.W.Frag} {C CM cM : Addr} {H1 : Hp} {x dx d m : Addr} {s bd bm : Int} {td tm : List Tm} {Q : VK} {E : XK} (hx : H1 x = none) (hdx : H1 dx = none) (hd : Me K CM H1 d bd td) (hm : Me K CM H1 m bm tm) (bs : Bt 290 s)
    (q : GoodMo bd td bm tm → ∀ H', Same H1 H' → MoonO K C CM H' x s bd td bm tm → Q .non H') (qe : ¬ GoodMo bd td bm tm → ∀ H', Same H1 H' → E (.ref cM) none H') : spInitMoE K C CM cM [.ref x, .int s, .ref d, .ref m] (upd (upd H1 dx (.own x)) x (.ins C dx [])) Q E :=
  ⟨x, dx, d, m, s, bd, bm, td, tm, rfl, upd_same, hd.same (in_made hx hdx), hm.same (in_made hx hdx), bs, fun g H5 k5 M => q g _ (but_made hx hdx k5) M, fun g H5 k5 => qe g _ (but_made hx hdx k5)⟩
theorem Me.isM {K : PySem.W.Frag} {C : Addr} {H : Hp} {x : Addr} {b : Int} {ts : List Tm} (M : Me K C H x b ts) : (∀ t ∈ ts, OkT t) ∧ ts.length ≤ 6 := by
  obtain ⟨_, _, _, T⟩ := M.ex
  exact ⟨T.ok, T.few⟩
theorem GoodMo.isMd {bd : Int} {td : List Tm} {bm : Int} {tm : List Tm} (g : GoodMo bd td bm tm) : IsM bd td := ⟨by have := falls_nn (ts := td); have := g.fd; omega, by have := g.gd; omega, g.fwd, g.okd, Int.le_of_lt g.fd, UP_pos g.okd g.fd (per_pos' g.okd).1⟩
theorem GoodMo.isMm {bd : Int} {td : List Tm} {bm : Int} {tm : List Tm} (g : GoodMo bd td bm tm) : IsM bm tm := ⟨by have := falls_nn (ts := tm); have := g.fm; omega, by have := g.gm; omega, g.fwm, g.okm, Int.le_of_lt g.fm, UP_pos g.okm g.fm (per_pos' g.okm).1⟩
def spReadNsE (K : PySem.W.Frag) (cT : Addr) : Sp := fun vs H Q E => ∃ z : Str, vs = [.str z] ∧ TOk z ∧
  ((∀ p ∈ spl 44 (cpl z), IsNum p) → ∀ (l : Addr) H', H l = none → Same H H' → H' l = some (.lst (((spl 44 (cpl z)).map numVal).map V.int)) → Q (.ref l) H') ∧ (¬ (∀ p ∈ spl 44 (cpl z), IsNum p) → ENum cT H E)
/-- the text of a term, and what it tells -/
structure TermT (w : List Nat) : Prop where
  hd : w.head? = some 43 ∨ w.head? = some 45
  num : ∀ p ∈ spl 44 (w.drop 1), IsNum p
  len : (spl 44 (w.drop 1)).length = 3
def tmOf (w : List Nat) : Tm := (if w.head? = some 43 then 1 else -1, numVal ((spl 44 (w.drop 1)).getD 0 []), numVal ((spl 44 (w.drop 1)).getD 1 []), numVal ((spl 44 (w.drop 1)).getD 2 []))
def spReadTE (K : PySem.W.Frag) (cT : Addr) : Sp := fun vs H Q E => ∃ z : Str, vs = [.str z] ∧ TOk z ∧
  (TermT (cpl z) → ∀ (p : Addr) H', Same H H' → H' p = some (.tup [.int (tmOf (cpl z)).1, .int (tmOf (cpl z)).2.1, .int (tmOf (cpl z)).2.2.1, .int (tmOf (cpl z)).2.2.2]) → Q (.ref p) H') ∧ (¬ TermT (cpl z) → ENum cT H E)
theorem head_take (w : List Nat) (c : Nat) : w.take 1 = [c] ↔ w.head? = some c := by
  cases w with
  | nil => simp
  | cons a r => simp
theorem str1_eq {y : Str} {c : Nat} : y = ⟨#[c]⟩ ↔ cpl y = [c] := ⟨fun h => by rw [h]; rfl, fun h => str_ext h⟩
def NumsT (p : List Nat) : Prop := ∀ q ∈ spl 44 p, IsNum q
def numsOf (p : List Nat) : List Int := (spl 44 p).map numVal
def AllT (ws : List (List Nat)) : Prop := ∀ t ∈ ws, TermT t
inductive SunF : List (List Nat) → Int → List Int → Int → List Tm → Prop
  | plain {a b : List Nat} : IsNum a → NumsT b → SunF [a, b] (numVal a) (numsOf b) 1 []
  | leap {a b c : List Nat} {ts : List (List Nat)} : IsNum a → NumsT b → IsNum c → ts ≠ [] → AllT ts → SunF (a :: b :: [108, 101, 97, 112] :: c :: ts) (numVal a) (numsOf b) (numVal c) (ts.map tmOf)
inductive MoonF : List (List Nat) → Int → Int → List Tm → Int → List Tm → Prop
  | mk {a b c : List Nat} {td tm : List (List Nat)} : IsNum a → IsNum b → IsNum c → AllT td → AllT tm → MoonF (a :: b :: (td ++ [47] :: c :: tm)) (numVal a) (numVal b) (td.map tmOf) (numVal c) (tm.map tmOf)
inductive CalF (p : List Nat) : CalD → Prop
  | sun {us : List (List Nat)} {s : Int} {ls : List Int} {lp : Int} {ts : List Tm} : p.length ≤ 4000 → spl 32 p = [115, 117, 110] :: us → SunF us s ls lp ts → CalF p (.sun s ls lp ts)
  | moon {us : List (List Nat)} {s bd : Int} {td : List Tm} {bm : Int} {tm : List Tm} : p.length ≤ 4000 → spl 32 p = [109, 111, 111, 110] :: us → MoonF us s bd td bm tm → CalF p (.moon s bd td bm tm)
theorem num_slash {a : List Nat} (h : IsNum a) : a ≠ [47] := fun z => by
  subst z
  have := h.dg 47 (by simp [figs])
  omega
theorem term_slash {a : List Nat} (h : TermT a) : a ≠ [47] := fun z => by
  subst z
  rcases h.hd with e | e <;> simp at e
theorem allT_slash {ts : List (List Nat)} (h : AllT ts) : [47] ∉ ts := fun z => term_slash (h _ z) rfl
theorem cut_uniq {α : Type} {s : α} : ∀ {a b r t : List α}, s ∉ a → s ∉ b → a ++ s :: r = b ++ s :: t → a = b ∧ r = t
  | [], [], r, t, _, _, e => ⟨rfl, (List.cons.inj e).2⟩
  | [], y :: b, r, t, _, h, e => absurd (by rw [(List.cons.inj e).1]; exact List.mem_cons_self) h
  | x :: a, [], r, t, h, _, e => absurd (by rw [← (List.cons.inj e).1]; exact List.mem_cons_self) h
  | x :: a, y :: b, r, t, ha, hb, e => by
    obtain ⟨e1, e2⟩ := List.cons.inj e
    obtain ⟨h1, h2⟩ := cut_uniq (fun z => ha (List.mem_cons_of_mem _ z)) (fun z => hb (List.mem_cons_of_mem _ z)) e2
    exact ⟨by rw [e1, h1], h2⟩
/-- what a moon's words are, cut at the first stroke -/
theorem MoonF.cut {A r : List (List Nat)} {s bd : Int} {td : List Tm} {bm : Int} {tm : List Tm} (h : [47] ∉ A) (F : MoonF (A ++ [47] :: r) s bd td bm tm) :
    ∃ a b c t m, A = a :: b :: t ∧ r = c :: m ∧ IsNum a ∧ IsNum b ∧ IsNum c ∧ AllT t ∧ AllT m ∧ s = numVal a ∧ bd = numVal b ∧ td = t.map tmOf ∧ bm = numVal c ∧ tm = m.map tmOf := by
  generalize e : A ++ [47] :: r = us at F
  cases F with
  | @mk a b c t m ha hb hc ht hm =>
    have e' : A ++ [47] :: r = (a :: b :: t) ++ [47] :: c :: m := e
    obtain ⟨e1, e2⟩ := cut_uniq h (fun z => by
      rcases List.mem_cons.mp z with y | y
      · exact num_slash ha y.symm
      rcases List.mem_cons.mp y with y | y
      · exact num_slash hb y.symm
      · exact allT_slash ht y) e'
    exact ⟨a, b, c, t, m, e1, e2, ha, hb, hc, ht, hm, rfl, rfl, rfl, rfl, rfl⟩
theorem MoonF.has {us : List (List Nat)} {s bd : Int} {td : List Tm} {bm : Int} {tm : List Tm} (F : MoonF us s bd td bm tm) : us.count [47] = 1 ∧ [47] ∈ (us.drop 2).dropLast := by
  cases F with
  | @mk a b c t m ha hb hc ht hm =>
    constructor
    · rw [List.count_cons_of_ne (num_slash ha), List.count_cons_of_ne (num_slash hb), List.count_append, List.count_eq_zero.mpr (allT_slash ht), List.count_cons_self, List.count_cons_of_ne (num_slash hc), List.count_eq_zero.mpr (allT_slash hm)]
    · show [47] ∈ (t ++ [47] :: c :: m).dropLast
      rw [List.dropLast_append_of_ne_nil (by simp)]
      exact List.mem_append_right _ (by rw [List.dropLast_cons_of_ne_nil (by simp)]; exact List.mem_cons_self)
theorem SunF.uniq {us : List (List Nat)} {s s' : Int} {ls ls' : List Int} {lp lp' : Int} {ts ts' : List Tm} (F : SunF us s ls lp ts) (G : SunF us s' ls' lp' ts') : s = s' ∧ ls = ls' ∧ lp = lp' ∧ ts = ts' := by
  cases F with
  | plain => cases G; exact ⟨rfl, rfl, rfl, rfl⟩
  | leap => cases G; exact ⟨rfl, rfl, rfl, rfl⟩
theorem MoonF.uniq {us : List (List Nat)} {s s' bd bd' : Int} {td td' : List Tm} {bm bm' : Int} {tm tm' : List Tm} (F : MoonF us s bd td bm tm) (G : MoonF us s' bd' td' bm' tm') : s = s' ∧ bd = bd' ∧ td = td' ∧ bm = bm' ∧ tm = tm' := by
  cases F with
  | @mk a b c t m ha hb hc ht hm =>
    have h0 : [47] ∉ a :: b :: t := fun z => by
      rcases List.mem_cons.mp z with y | y
      · exact num_slash ha y.symm
      rcases List.mem_cons.mp y with y | y
      · exact num_slash hb y.symm
      · exact allT_slash ht y
    obtain ⟨a', b', c', t', m', e1, e2, _, _, _, _, _, rfl, rfl, rfl, rfl, rfl⟩ := MoonF.cut (A := a :: b :: t) (r := c :: m) h0 G
    cases e1
    cases e2
    exact ⟨rfl, rfl, rfl, rfl, rfl⟩
theorem CalF.uniq {p : List Nat} {d e : CalD} (F : CalF p d) (G : CalF p e) : d = e := by
  cases F with
  | sun l1 c1 F =>
    cases G with
    | sun l2 c2 G =>
      rw [c1] at c2
      cases c2
      obtain ⟨rfl, rfl, rfl, rfl⟩ := F.uniq G
      rfl
    | moon l2 c2 G =>
      rw [c1] at c2
      cases c2
  | moon l1 c1 F =>
    cases G with
    | sun l2 c2 G =>
      rw [c1] at c2
      cases c2
    | moon l2 c2 G =>
      rw [c1] at c2
      cases c2
      obtain ⟨rfl, rfl, rfl, rfl, rfl⟩ := F.uniq G
      rfl
theorem joinC_spl (c : Nat) : ∀ l : List Nat, joinC c (spl c l) = l
  | [] => rfl
  | a :: l => by
    have ih := joinC_spl c l
    have eta := spl_eta c l
    by_cases h : a = c
    · subst h
      rw [spl_at, eta, joinC_cons, ← eta, ih]
      rfl
    · rw [spl_not l h]
      rw [eta] at ih
      show (a :: (spl c l).headD []) ++ _ = a :: l
      rw [List.cons_append]
      exact congrArg (a :: ·) ih
theorem neg_text {n : Nat} (h : n ≠ 0) : cpl (intT (-(n : Int))) = 45 :: cpl (intT (n : Int)) := by
  cases n with
  | zero => exact absurd rfl h
  | succ m =>
    rw [dT]
    show cpl (intT (Int.negSucc m)) = _
    unfold intT cpl
    rw [signs_ofString]
    have e2 : (toString (Int.negSucc m)).toList = '-' :: Nat.toDigits 10 (m + 1) := by
      show ("-" ++ Nat.repr (m + 1)).toList = _
      rw [String.toList_append, Nat.toList_repr]
      rfl
    rw [e2]
    rfl
theorem num_back {a : List Nat} (h : IsNum a) : numT (numVal a) = a := by
  obtain ⟨f, e, nz⟩ := (num_iff a).mp h
  unfold numT numVal
  by_cases c : a.head? = some 45
  · rw [if_pos c, neg_text (nz c), e]
    unfold figs
    rw [if_pos c]
    cases a with
    | nil => cases c
    | cons x r =>
      injection c with c
      rw [c]
      rfl
  · rw [if_neg c, e, figs_pos c]
theorem num_sm {a : List Nat} (h : IsNum a) : Sm (numVal a) := by
  have := figs_lt ((num_iff a).mp h).1
  unfold Sm numVal
  split <;> omega
theorem nums_back {b : List Nat} (h : NumsT b) : joinC 44 ((numsOf b).map numT) = b := by
  unfold numsOf
  rw [List.map_map]
  conv => rhs; rw [← joinC_spl 44 b]
  congr 1
  conv => rhs; rw [← List.map_id (spl 44 b)]
  exact List.map_congr_left fun q hq => num_back (h q hq)
theorem term_back {w : List Nat} (T : TermT w) : tmW (tmOf w) = w := by
  obtain ⟨x, y, z, e⟩ : ∃ x y z, spl 44 (w.drop 1) = [x, y, z] := by
    match spl 44 (w.drop 1), T.len with
    | [x, y, z], _ => exact ⟨x, y, z, rfl⟩
  have n := T.num
  have j := joinC_spl 44 (w.drop 1)
  rw [e] at n j
  have e1 : joinC 44 [numT (tmOf w).2.1, numT (tmOf w).2.2.1, numT (tmOf w).2.2.2] = w.drop 1 := by
    unfold tmOf
    rw [e]
    show joinC 44 [numT (numVal x), numT (numVal y), numT (numVal z)] = _
    rw [num_back (n x (by simp)), num_back (n y (by simp)), num_back (n z (by simp))]
    exact j
  unfold tmW
  rw [e1]
  cases w with
  | nil => rcases T.hd with h | h <;> cases h
  | cons a r =>
    have ha : a = 43 ∨ a = 45 := by
      rcases T.hd with h | h <;> injection h with h
      · exact .inl h
      · exact .inr h
    unfold tmOf
    rcases ha with rfl | rfl <;> rfl
theorem terms_back : ∀ {ts : List (List Nat)}, AllT ts → (ts.map tmOf).map tmW = ts
  | [], _ => rfl
  | t :: ts, h => by rw [List.map_cons, List.map_cons, term_back (h t List.mem_cons_self), terms_back fun x hx => h x (List.mem_cons_of_mem _ hx)]
theorem SunF.back {us : List (List Nat)} {s : Int} {ls : List Int} {lp : Int} {ts : List Tm} (F : SunF us s ls lp ts) : sunWs s ls lp ts = us ∧ Sm s := by
  cases F with
  | plain ha hb =>
    unfold sunWs
    rw [if_pos rfl, num_back ha, nums_back hb]
    exact ⟨rfl, num_sm ha⟩
  | leap ha hb hc hn ht =>
    unfold sunWs
    rw [if_neg (fun z => hn (List.map_eq_nil_iff.mp z)), num_back ha, nums_back hb, num_back hc, terms_back ht]
    exact ⟨rfl, num_sm ha⟩
theorem MoonF.back {us : List (List Nat)} {s bd : Int} {td : List Tm} {bm : Int} {tm : List Tm} (F : MoonF us s bd td bm tm) : moonWs s bd td bm tm = us ∧ Sm s := by
  cases F with
  | mk ha hb hc ht hm =>
    unfold moonWs
    rw [num_back ha, num_back hb, num_back hc, terms_back ht, terms_back hm]
    exact ⟨rfl, num_sm ha⟩
theorem CalF.back {p : List Nat} {d : CalD} (F : CalF p d) : calT d = p ∧ Sm d.st := by
  cases F with
  | sun l c F =>
    refine ⟨?_, F.back.2⟩
    show joinC 32 ([115, 117, 110] :: sunWs _ _ _ _) = p
    rw [F.back.1, ← c, joinC_spl]
  | moon l c F =>
    refine ⟨?_, F.back.2⟩
    show joinC 32 ([109, 111, 111, 110] :: moonWs _ _ _ _ _) = p
    rw [F.back.1, ← c, joinC_spl]
theorem sm_bt {i : Int} (h : Sm i) : Bt 290 i := by
  unfold Sm at h
  unfold Bt
  exact Nat.lt_of_lt_of_le h (by decide)
def Wds (us : List (List Nat)) : Prop := us.length ≤ 5000 ∧ ∀ w ∈ us, TOk (txt w)
theorem Wds.of {us vs : List (List Nat)} (h : Wds us) (l : vs.length ≤ us.length) (m : ∀ w ∈ vs, w ∈ us) : Wds vs := ⟨Nat.le_trans l h.1, fun w hw => h.2 w (m w hw)⟩
theorem Wds.drop {us : List (List Nat)} (h : Wds us) (k : Nat) : Wds (us.drop k) := h.of (by rw [List.length_drop]; omega) fun w hw => List.mem_of_mem_drop hw
theorem Wds.take {us : List (List Nat)} (h : Wds us) (k : Nat) : Wds (us.take k) := h.of (by rw [List.length_take]; omega) fun w hw => List.mem_of_mem_take hw
def spReadTsE (K : PySem.W.Frag) (cT : Addr) : Sp := fun vs H Q E => ∃ (l : Addr) (ws : List (List Nat)), vs = [.ref l] ∧ H l = some (.lst (wV ws)) ∧ Wds ws ∧
  (AllT ws → ∀ (l' : Addr) (us : List V) H', Same H H' → H' l' = some (.lst us) → Tms H' us (ws.map tmOf) → Q (.ref l') H') ∧ (¬ AllT ws → ENum cT H E)
def spReadSE (K : PySem.W.Frag) (CS CM cT cM : Addr) : Sp := fun vs H Q E => ∃ (l : Addr) (us : List (List Nat)), vs = [.ref l] ∧ H l = some (.lst (wV us)) ∧ Wds us ∧
  (∀ s ls lp ts, SunF us s ls lp ts → GoodS ls lp ts → ∀ (x : Addr) H', Same H H' → SunO K CS CM H' x s ls lp ts → Q (.ref x) H') ∧
  (∀ s ls lp ts, SunF us s ls lp ts → ¬ GoodS ls lp ts → ENoM cM H E) ∧ ((¬ ∃ s ls lp ts, SunF us s ls lp ts) → ENum cT H E)
def spReadME (K : PySem.W.Frag) (CO CM cT cM : Addr) : Sp := fun vs H Q E => ∃ (l : Addr) (us : List (List Nat)), vs = [.ref l] ∧ H l = some (.lst (wV us)) ∧ Wds us ∧
  (∀ s bd td bm tm, MoonF us s bd td bm tm → GoodMo bd td bm tm → ∀ (x : Addr) H', Same H H' → MoonO K CO CM H' x s bd td bm tm → Q (.ref x) H') ∧
  (∀ s bd td bm tm, MoonF us s bd td bm tm → ¬ GoodMo bd td bm tm → ENoM cM H E) ∧ ((¬ ∃ s bd td bm tm, MoonF us s bd td bm tm) → ENum cT H E)
def spReadable73 : Sp := fun vs H Q _ => ∃ v : V, vs = [v] ∧ Hnd H v ∧ (∀ z, v = .str z → ∀ b : Bool, (b = true ↔ (cpl z).length ≤ 4000) → Q (.bl b) H) ∧ (isT v = false → Q (.bl false) H)
/-- the calendar of a text -/
def CalV (v : V) (d : CalD) : Prop := ∃ z, v = .str z ∧ CalF (cpl z) d
theorem CalV.uniq {v : V} {d e : CalD} (F : CalV v d) (G : CalV v e) : d = e := by
  obtain ⟨z, rfl, F⟩ := F
  obtain ⟨y, h, G⟩ := G
  cases h
  exact F.uniq G
def spReadCE (K : PySem.W.Frag) (CS CO CM cT cM : Addr) : Sp := fun vs H Q E => ∃ v : V, vs = [v] ∧ Hnd H v ∧
  (∀ d, CalV v d → d.good → ∀ (x : Addr) H', Same H H' → CalO K CS CO CM H' x d → Q (.ref x) H') ∧ (∀ d, CalV v d → ¬ d.good → ENoM cM H E) ∧ ((¬ ∃ d, CalV v d) → ENum cT H E)
theorem few_map {ws : List (List Nat)} (h : Wds ws) : (ws.map tmOf).length ≤ 5000 := by rw [List.length_map]; exact h.1
theorem txt_inj {a b : List Nat} (h : txt a = txt b) : a = b := by
  have := congrArg cpl h
  rwa [cpl_txt, cpl_txt] at this
theorem count_txt (x : List Nat) : ∀ us : List (List Nat), (us.map txt).count (txt x) = us.count x
  | [] => rfl
  | u :: us => by
    rw [List.map_cons, List.count_cons, List.count_cons, count_txt x us]
    congr 1
    by_cases h : u = x
    · rw [h]; simp
    · have : txt u ≠ txt x := fun z => h (txt_inj z)
      simp [h, this]
theorem idx_at (A r : List (List Nat)) : ((A ++ [47] :: r).map txt)[A.length]? = some (txt [47]) := by
  rw [List.getElem?_map, List.getElem?_append_right (Nat.le_refl _), Nat.sub_self]
  rfl
theorem idx_no {A : List (List Nat)} (r : List (List Nat)) (h : [47] ∉ A) : ∀ m, m < A.length → ((A ++ [47] :: r).map txt)[m]? ≠ some (txt [47]) := fun m hm z => by
  rw [List.getElem?_map, List.getElem?_append_left hm, List.getElem?_eq_getElem hm] at z
  have := txt_inj (Option.some.inj z)
  exact h (this ▸ List.getElem_mem hm)
theorem cutN (xs : List V) (i j : Nat) : cutV xs (some (i : Int)) (some (j : Int)) = (xs.take j).drop i := by
  unfold cutV
  rw [HT.sIx_nat, HT.sIx_nat, List.drop_take]
  by_cases h : i ≤ xs.length
  · rw [Nat.min_eq_left h]
    by_cases g : j ≤ xs.length
    · rw [Nat.min_eq_left g]
    · rw [Nat.min_eq_right (by omega), List.take_of_length_le (by rw [List.length_drop]; omega), List.take_of_length_le (by rw [List.length_drop]; omega)]
  · rw [List.drop_of_length_le (show xs.length ≤ i by omega), List.drop_of_length_le (by omega), List.take_nil, List.take_nil]
theorem wV_drop (ws : List (List Nat)) (k : Nat) : (wV ws).drop k = wV (ws.drop k) := by unfold wV; rw [List.map_drop, List.map_drop]
theorem wV_take (ws : List (List Nat)) (k : Nat) : (wV ws).take k = wV (ws.take k) := by unfold wV; rw [List.map_take, List.map_take]
theorem cutW (ws : List (List Nat)) (i j : Nat) : cutV (wV ws) (some (i : Int)) (some (j : Int)) = wV ((ws.take j).drop i) := by rw [cutN, wV_take, wV_drop]
theorem cutWf (ws : List (List Nat)) (i : Nat) : cutV (wV ws) (some (i : Int)) none = wV (ws.drop i) := by rw [cut_from', wV_drop]
def wt (zs : List Str) : Nat := (zs.map fun z => z.length + 1).sum
structure WL (k : Nat) (zs : List Str) : Prop where
  asc : ∀ z ∈ zs, asc z = true
  len : wt zs ≤ k
theorem wt_app (a b : List Str) : wt (a ++ b) = wt a + wt b := by unfold wt; rw [List.map_append, List.sum_append]
theorem wt_cons (z : Str) (b : List Str) : wt (z :: b) = z.length + 1 + wt b := by unfold wt; rw [List.map_cons, List.sum_cons]
theorem wt_len : ∀ zs : List Str, zs.length ≤ wt zs
  | [] => Nat.zero_le _
  | z :: zs => by
    have := wt_len zs
    rw [wt_cons, List.length_cons]
    omega
theorem wt_mem : ∀ {zs : List Str} {z : Str}, z ∈ zs → z.length + 1 ≤ wt zs
  | y :: zs, z, h => by
    rw [wt_cons]
    rcases List.mem_cons.mp h with e | e
    · rw [e]; omega
    · have := wt_mem e
      omega
theorem wt_sub {a b : List Str} (h : a.Sublist b) : wt a ≤ wt b := by
  induction h with
  | slnil => exact Nat.le_refl _
  | cons x _ ih => rw [wt_cons]; omega
  | cons_cons x _ ih => rw [wt_cons, wt_cons]; omega
theorem WL.mono {k m : Nat} {zs : List Str} (h : WL k zs) (l : k ≤ m) : WL m zs := ⟨h.asc, Nat.le_trans h.len l⟩
theorem WL.nil (k : Nat) : WL k [] := ⟨(fun z h => by cases h), Nat.zero_le _⟩
theorem WL.app {k m : Nat} {a b : List Str} (h : WL k a) (g : WL m b) : WL (k + m) (a ++ b) := ⟨fun z hz => by
  rcases List.mem_append.mp hz with e | e
  · exact h.asc z e
  · exact g.asc z e, by rw [wt_app]; exact Nat.add_le_add h.len g.len⟩
theorem WL.one {k : Nat} {z : Str} (h : TL k z) : WL (k + 1) [z] := ⟨fun y hy => by rw [List.mem_singleton.mp hy]; exact h.asc, by rw [wt_cons]; show z.length + 1 + 0 ≤ k + 1; have := h.len; omega⟩
theorem WL.cons {k m : Nat} {z : Str} {b : List Str} (h : TL k z) (g : WL m b) : WL (k + 1 + m) (z :: b) := WL.app (WL.one h) g
theorem WL.sub {k : Nat} {a b : List Str} (h : WL k b) (s : a.Sublist b) : WL k a := ⟨fun z hz => h.asc z (s.subset hz), Nat.le_trans (wt_sub s) h.len⟩
theorem WL.cut {k : Nat} {zs : List Str} (h : WL k zs) (lo hi : Option Int) : ∃ ys : List Str, cutV (zs.map V.str) lo hi = ys.map V.str ∧ WL k ys := by
  unfold cutV
  rw [← List.map_drop, ← List.map_take]
  exact ⟨_, rfl, h.sub ((List.take_sublist _ _).trans (List.drop_sublist _ _))⟩
theorem WL.mem {k : Nat} {zs : List Str} (h : WL k zs) {z : Str} (m : z ∈ zs) : TL k z := ⟨h.asc z m, by have := wt_mem m; have := h.len; omega⟩
theorem WL.at {k : Nat} {zs : List Str} (h : WL k zs) {i : Int} (h0 : 0 ≤ i) (h1 : i < (zs.length : Int)) : ∃ z, atI (zs.map V.str) i = some (.str z) ∧ TL k z := by
  obtain ⟨v, hv, hm⟩ := mem_at (xs := zs.map V.str) h0 (by rw [List.length_map]; exact h1)
  obtain ⟨z, hz, rfl⟩ := List.mem_map.mp hm
  exact ⟨z, hv, h.mem hz⟩
theorem WL.fit {k : Nat} {zs : List Str} (h : WL k zs) : (zs.map V.str).length ≤ k := by rw [List.length_map]; exact Nat.le_trans (wt_len zs) h.len
theorem flat_wt (c : Nat) : ∀ ws : List (List Nat), ((ws.map (c :: ·)).flatten).length = (ws.map fun w => w.length + 1).sum
  | [] => rfl
  | w :: ws => by rw [List.map_cons, List.flatten_cons, List.length_append, flat_wt c ws, List.map_cons, List.sum_cons, List.length_cons]
theorem joinC_wt (c : Nat) (ws : List (List Nat)) : (joinC c ws).length ≤ (ws.map fun w => w.length + 1).sum := by
  cases ws with
  | nil => exact Nat.zero_le _
  | cons w ws =>
    show (w ++ (ws.map (c :: ·)).flatten).length ≤ _
    rw [List.length_append, flat_wt, List.map_cons, List.sum_cons]
    omega
theorem wt_cpl (zs : List Str) : wt zs = ((zs.map cpl).map fun w => w.length + 1).sum := by
  unfold wt
  rw [List.map_map]
  exact congrArg List.sum (List.map_congr_left fun z _ => by show z.length + 1 = (cpl z).length + 1; rw [len_cpl])
theorem WL.join {k c : Nat} {zs : List Str} (h : WL k zs) (hc : c < 128) : TL k (Txt.join ⟨#[c]⟩ zs) := by
  refine ⟨asc_iff.mpr fun a ha => ?_, ?_⟩
  · rw [join_cpl] at ha
    refine joinC_ch (P := fun a => a < 128) hc (fun w hw a ha => ?_) a ha
    obtain ⟨z, hz, rfl⟩ := List.mem_map.mp hw
    exact asc_iff.mp (h.asc z hz) a ha
  · rw [← len_cpl, join_cpl]
    have := joinC_wt c (zs.map cpl)
    rw [← wt_cpl] at this
    exact Nat.le_trans this h.len
theorem WL.sum {k c : Nat} {zs : List Str} (h : WL k zs) (l : k ≤ 16777216) : (zs.map (·.length)).sum + zs.length * (⟨#[c]⟩ : Str).length ≤ 16777216 := by
  have e : ∀ ys : List Str, (ys.map (·.length)).sum + ys.length * (⟨#[c]⟩ : Str).length = wt ys := fun ys => by
    have e1 : (⟨#[c]⟩ : Str).length = 1 := rfl
    rw [e1, Nat.mul_one]
    induction ys with
    | nil => rfl
    | cons y ys ih => rw [wt_cons, List.map_cons, List.sum_cons, List.length_cons, ← ih]; omega
  rw [e]
  exact Nat.le_trans h.len l
theorem spl_wt (c : Nat) : ∀ l : List Nat, ((spl c l).map fun w => w.length + 1).sum = l.length + 1
  | [] => rfl
  | a :: l => by
    have ih := spl_wt c l
    by_cases h : a = c
    · subst h
      rw [spl_at, List.map_cons, List.sum_cons, ih, List.length_cons]
      show 0 + 1 + _ = _
      omega
    · have eta := spl_eta c l
      rw [eta, List.map_cons, List.sum_cons] at ih
      rw [spl_not l h, List.map_cons, List.sum_cons, List.length_cons, List.length_cons]
      omega
theorem WL.spl {k c : Nat} {z : Str} (h : TL k z) : WL (k + 1) (splS c z) := by
  have e : (splS c z).map cpl = L2.spl c (cpl z) := by
    unfold splS
    rw [List.map_map]
    exact List.map_id' _
  refine ⟨fun y hy => asc_iff.mpr fun a ha => ?_, ?_⟩
  · have m : cpl y ∈ L2.spl c (cpl z) := by rw [← e]; exact List.mem_map.mpr ⟨y, hy, rfl⟩
    exact asc_iff.mp h.asc a (spl_mem c (cpl z) (cpl y) m a ha)
  · rw [wt_cpl, e, spl_wt, len_cpl]
    have := h.len
    omega
def spTerms73 : Sp := fun vs H Q _ => ∃ x : Int, vs = [.int x] ∧ ∀ (l : Addr) (zs : List Str) (H' : Hp), Same H H' → H' l = some (.lst (zs.map V.str)) → WL 30000 zs → Q (.ref l) H'
def spWords73 (K : PySem.W.Frag) : Sp := fun vs H Q _ => ∃ (a : Addr) (ns : List Int), vs = [.ref a] ∧ SqL K H a (ns.map V.int) ∧ ns.length ≤ 63 ∧ ∀ (l : Addr) (zs : List Str) (H' : Hp), Same H H' → H' l = some (.lst (zs.map V.str)) → WL 90000 zs → Q (.ref l) H'
def spCut73 : Sp := fun vs H Q _ => ∃ (k : Nat) (z : Str) (x : Int), vs = [.str z, .int x] ∧ TL k z ∧ k ≤ 1000000 ∧ ∀ y, TL (2 * k) y → Q (.str y) H
def spChg73 : Sp := fun vs H Q _ => ∃ (k : Nat) (z : Str) (x : Int), vs = [.str z, .int x] ∧ TL k z ∧ k ≤ 300000 ∧ ∀ (y : Str) (H' : Hp), Same H H' → TL (3 * k + 8000) y → Q (.str y) H'
noncomputable def oNum (w : List Nat) : V := by
  classical exact if IsNum w then .int (numVal w) else .non
theorem oNum_y {w : List Nat} (h : IsNum w) : oNum w = .int (numVal w) := by unfold oNum; rw [if_pos h]
theorem oNum_n {w : List Nat} (h : ¬ IsNum w) : oNum w = .non := by unfold oNum; rw [if_neg h]
theorem oNum_flat (w : List Nat) : flatV (oNum w) = true := by
  by_cases h : IsNum w
  · rw [oNum_y h]; rfl
  · rw [oNum_n h]; rfl
theorem oNums_flat (ws : List (List Nat)) : (ws.map oNum).all flatV = true := by
  rw [List.all_map, List.all_eq_true]
  exact fun w _ => oNum_flat w
theorem oNums_in : ∀ ws : List (List Nat), inV .non (ws.map oNum) = true ↔ ¬ ∀ w ∈ ws, IsNum w
  | [] => ⟨(fun z => nomatch z), fun z => absurd (fun w h => (nomatch h)) z⟩
  | w :: ws => by
    have ih := oNums_in ws
    have e : inV .non ((w :: ws).map oNum) = (eqV (oNum w) .non || inV .non (ws.map oNum)) := rfl
    rw [e, Bool.or_eq_true, ih]
    by_cases h : IsNum w
    · rw [oNum_y h]
      exact ⟨fun z all => by rcases z with z | z; (cases z); exact z fun x hx => all x (List.mem_cons_of_mem _ hx), fun z => .inr fun all => z fun x hx => by
        rcases List.mem_cons.mp hx with rfl | hx
        · exact h
        · exact all x hx⟩
    · rw [oNum_n h]
      exact ⟨fun _ all => h (all w List.mem_cons_self), fun _ => .inl rfl⟩
theorem oNums_y {ws : List (List Nat)} (h : ∀ w ∈ ws, IsNum w) : ws.map oNum = (ws.map numVal).map V.int := by
  rw [List.map_map]
  exact List.map_congr_left fun w hw => oNum_y (h w hw)
def spVal73 : Sp := fun vs H Q _ => ∃ z : Str, vs = [.str z] ∧ TOk z ∧ ∀ H', Same H H' → Q (oNum (cpl z)) H'
def spVals73 : Sp := fun vs H Q _ => ∃ z : Str, vs = [.str z] ∧ TOk z ∧ ∀ (l : Addr) H', H l = none → Same H H' → H' l = some (.lst ((spl 44 (cpl z)).map oNum)) → Q (.ref l) H'
def spRdTs73 : Sp := fun vs H Q _ => ∃ (l : Addr) (ws : List (List Nat)), vs = [.ref l] ∧ H l = some (.lst (wV ws)) ∧ Wds ws ∧
  (AllT ws → ∀ (l' : Addr) (us : List V) H', Same H H' → H' l' = some (.lst us) → Tms H' us (ws.map tmOf) → Q (.ref l') H') ∧ (¬ AllT ws → ∀ H', Same H H' → Q .non H')
structure AreT (b : Int) (ts : List Tm) (g : Int) : Prop where
  few : ts.length ≤ 6
  ok : ∀ t ∈ ts, OkT t
  f : falls ts < b
  g : b ≤ g
def spAreT73 : Sp := fun vs H Q _ => ∃ (l : Addr) (b g : Int) (us : List V) (ts : List Tm), vs = [.int b, .ref l, .int g] ∧ H l = some (.lst us) ∧ Tms H us ts ∧ ts.length ≤ 5000 ∧ (∀ t ∈ ts, t.1 = 1 ∨ t.1 = -1) ∧ ∀ (c : Bool) H', Same H H' → (c = true ↔ AreT b ts g) → Q (.bl c) H'
theorem tmOf_sg (ws : List (List Nat)) : ∀ t ∈ ws.map tmOf, t.1 = 1 ∨ t.1 = -1 := fun t ht => by
  obtain ⟨w, _, rfl⟩ := List.mem_map.mp ht
  show (if w.head? = some 43 then (1 : Int) else -1) = 1 ∨ _ = -1
  by_cases c : w.head? = some 43
  · exact .inl (if_pos c)
  · exact .inr (if_neg c)
def saysT (H : Hp) (Q : VK) (z : Str) : Prop := ∀ H', Same H H' → Q (.str z) H'
def spOfSun73 : Sp := fun vs H Q _ => ∃ (l : Addr) (w : List Nat) (us : List (List Nat)), vs = [.ref l] ∧ H l = some (.lst (wV (w :: us))) ∧ Wds (w :: us) ∧ 2 ≤ us.length ∧
  (∀ s ls lp ts, SunF us s ls lp ts → GoodS ls lp ts → saysT H Q "told") ∧ (∀ s ls lp ts, SunF us s ls lp ts → ¬ GoodS ls lp ts → saysT H Q "measure") ∧ ((¬ ∃ s ls lp ts, SunF us s ls lp ts) → saysT H Q "text")
def spOfMoon73 : Sp := fun vs H Q _ => ∃ (l : Addr) (w : List Nat) (us : List (List Nat)), vs = [.ref l] ∧ H l = some (.lst (wV (w :: us))) ∧ Wds (w :: us) ∧ w ≠ [47] ∧ 2 ≤ us.length ∧
  (∀ s bd td bm tm, MoonF us s bd td bm tm → GoodMo bd td bm tm → saysT H Q "told") ∧ (∀ s bd td bm tm, MoonF us s bd td bm tm → ¬ GoodMo bd td bm tm → saysT H Q "measure") ∧ ((¬ ∃ s bd td bm tm, MoonF us s bd td bm tm) → saysT H Q "text")
def spDue73 : Sp := fun vs H Q _ => ∃ v : V, vs = [v] ∧ Hnd H v ∧ (∀ d, CalV v d → d.good → saysT H Q "told") ∧ (∀ d, CalV v d → ¬ d.good → saysT H Q "measure") ∧ ((¬ ∃ d, CalV v d) → saysT H Q "text")
theorem slice_drop (z : Str) : cpl (Txt.slice z (some 1) none) = (cpl z).drop 1 := by
  by_cases h : 1 ≤ z.length
  · exact slice_from1 h
  · have e0 : (cpl z).length = 0 := by rw [len_cpl]; omega
    have e1 : (cpl (Txt.slice z (some 1) none)).length = 0 := by
      have := Txt.slice_le z (some 1) none
      rw [len_cpl]
      omega
    rw [List.length_eq_zero_iff.mp e0, List.length_eq_zero_iff.mp e1]
    rfl
theorem in_sign (y : Str) : inV (.str y) [.str (Str.ofString "+"), .str (Str.ofString "-")] = true ↔ cpl y = [43] ∨ cpl y = [45] := by
  have e1 : Str.ofString "+" = txt [43] := by decide +kernel
  have e2 : Str.ofString "-" = txt [45] := by decide +kernel
  have e : inV (.str y) [.str (Str.ofString "+"), .str (Str.ofString "-")] = ((Str.ofString "+" == y) || ((Str.ofString "-" == y) || false)) := rfl
  rw [e, e1, e2, Bool.or_false, Bool.or_eq_true, beq_iff_eq, beq_iff_eq]
  constructor
  · rintro (h | h)
    · exact .inl (by rw [← h, cpl_txt])
    · exact .inr (by rw [← h, cpl_txt])
  · rintro (h | h)
    · exact .inl (str_ext (by rw [h, cpl_txt]))
    · exact .inr (str_ext (by rw [h, cpl_txt]))
theorem wV_flat (ws : List (List Nat)) : (wV ws).all flatV = true := by
  unfold wV
  rw [List.all_map, List.all_map, List.all_eq_true]
  exact fun _ _ => rfl
theorem in_wV (x : List Nat) : ∀ ws : List (List Nat), inV (.str (txt x)) (wV ws) = true ↔ x ∈ ws
  | [] => ⟨(fun z => nomatch z), (fun z => nomatch z)⟩
  | w :: ws => by
    have e : inV (.str (txt x)) (wV (w :: ws)) = ((txt w == txt x) || inV (.str (txt x)) (wV ws)) := rfl
    rw [e, Bool.or_eq_true, beq_iff_eq, in_wV x ws, List.mem_cons]
    exact ⟨fun h => h.imp (fun z => (txt_inj z).symm) id, fun h => h.imp (fun z => by rw [z]) id⟩
theorem mem_inner {α : Type} {x : α} {us : List α} (h : x ∈ (us.drop 2).dropLast) : x ∈ us.dropLast := by
  have ne : us.drop 2 ≠ [] := fun z => by rw [z] at h; cases h
  have e : us.dropLast = us.take 2 ++ (us.drop 2).dropLast := by
    conv => lhs; rw [← List.take_append_drop 2 us]
    exact List.dropLast_append_of_ne_nil ne
  rw [e]
  exact List.mem_append_right _ h
theorem cut_inner (w0 : List Nat) {us : List (List Nat)} (h : 2 ≤ us.length) : cutV (wV (w0 :: us)) (some 3) (some (-1)) = wV ((us.drop 2).dropLast) := by
  have n : (wV (w0 :: us)).length = us.length + 1 := wV_len _
  have e1 : HT.sIx (wV (w0 :: us)).length 0 (some 3) = 3 := by
    rw [show (some 3 : Option Int) = some ((3 : Nat) : Int) from rfl, HT.sIx_nat, n]
    omega
  have e2 : HT.sIx (wV (w0 :: us)).length (wV (w0 :: us)).length (some (-1)) = us.length := by
    show (if (-1 : Int) < 0 then (-1 + ((wV (w0 :: us)).length : Int)).toNat else min (-1 : Int).toNat (wV (w0 :: us)).length) = us.length
    rw [if_pos (by decide), n]
    omega
  unfold cutV
  rw [e1, e2, wV_drop]
  show (wV (us.drop 2)).take (us.length - 3) = _
  rw [wV_take, List.dropLast_eq_take, List.length_drop, show us.length - 3 = us.length - 2 - 1 by omega]
/-- the word that is told of what is handed in -/
theorem word_of (v : V) : ∃ z : Str, ((¬ ∃ d, CalV v d) → z = Str.ofString "text") ∧ ∀ (H : Hp) (Q : VK), saysT H Q z → (∀ d, CalV v d → d.good → saysT H Q "told") ∧ (∀ d, CalV v d → ¬ d.good → saysT H Q "measure") ∧ ((¬ ∃ d, CalV v d) → saysT H Q "text") := by
  by_cases D : ∃ d, CalV v d
  · obtain ⟨d, F⟩ := D
    by_cases g : d.good
    · exact ⟨"told", fun n => absurd ⟨d, F⟩ n, fun H Q s => ⟨fun _ _ _ => s, fun e G n => absurd (by rw [← F.uniq G]; exact g) n, fun n => absurd ⟨d, F⟩ n⟩⟩
    · exact ⟨"measure", fun n => absurd ⟨d, F⟩ n, fun H Q s => ⟨fun e G n => absurd (by rw [F.uniq G]; exact n) g, fun _ _ _ => s, fun n => absurd ⟨d, F⟩ n⟩⟩
  · exact ⟨"text", fun _ => rfl, fun H Q s => ⟨fun d F => absurd ⟨d, F⟩ D, fun d F => absurd ⟨d, F⟩ D, fun _ => s⟩⟩
theorem not_cal {v : V} (h : isT v = false) : ¬ ∃ d, CalV v d := fun ⟨d, z, e, _⟩ => by rw [e] at h; cases h
def bd73 (i : Nat) : Nat := if i = 0 then 90000 else if i = 1 then 278000 else 842000
theorem CalO.show {K : PySem.W.Frag} {CS CO CM : Addr} {H : Hp} {x : Addr} {d : CalD} (S : CalO K CS CO CM H x d) (sm : Sm d.st) : ∃ C dx fs sp, (C, sp) ∈ [(CS, spShowS K CS CM), (CO, spShowM K CO CM)] ∧ H x = some (.ins C dx fs) ∧ fs.lookup (Str.ofString "shown") = none ∧
    ∀ {H2 : Hp} {Q : VK} {E : XK}, CalO K CS CO CM H2 x d → (∀ H', Same H2 H' → Q (.str (txt (calT d))) H') → sp [.ref x] H2 Q E := by
  cases d with
  | sun s ls lp ts =>
    obtain ⟨dx, p, y, e, _⟩ := SunO.ex S
    exact ⟨CS, dx, _, _, List.mem_cons_self, e, rfl, fun S2 q => ⟨x, s, ls, lp, ts, rfl, S2, sm, q⟩⟩
  | moon s bd td bm tm =>
    obtain ⟨dx, p, y, e, _⟩ := MoonO.ex S
    exact ⟨CO, dx, _, _, List.mem_cons_of_mem _ List.mem_cons_self, e, rfl, fun S2 q => ⟨x, s, bd, td, bm, tm, rfl, S2, sm, q⟩⟩
theorem rd_slW {K : PySem.W.Frag} {a : Addr} {zs : List Str} {k : Nat} {lo hi : Option Int} {H : Hp} {Q : VK} (h : H a = some (.lst (zs.map V.str))) (W : WL k zs) (q : ∀ (p : Addr) (H' : Hp) (ys : List Str), Same H H' → H' p = some (.lst (ys.map V.str)) → WL k ys → Q (.ref p) H') : rSlL K (.ref a) lo hi H Q := by
  obtain ⟨ys, e, V⟩ := W.cut lo hi
  refine rd_slL (SqL.of h) fun p hp => ?_
  rw [e]
  exact q p _ ys (same_new hp _) upd_same V
theorem rd_catW {l b : Addr} {xs zs : List Str} {k m : Nat} {H : Hp} {Q : VK} (h : H l = some (.lst (xs.map V.str))) (W : WL k xs) (g : H b = some (.lst (zs.map V.str))) (Y : WL m zs) (hz : k + m ≤ 16777216) (q : ∀ (p : Addr) (H' : Hp) (ys : List Str), Same H H' → H' p = some (.lst (ys.map V.str)) → WL (k + m) ys → Q (.ref p) H') : rCat (.ref l) (.ref b) H Q := by
  refine rd_cat h g (by have := W.fit; have := Y.fit; rw [sizeLine_eq]; omega) fun p hp => ?_
  rw [← List.map_append]
  exact q p _ _ (same_new hp _) upd_same (W.app Y)
theorem rd_joinW {K : PySem.W.Frag} {l : Addr} {zs : List Str} {k : Nat} {H : Hp} {Q : VK} (h : H l = some (.lst (zs.map V.str))) (W : WL k zs) (hz : k ≤ 16777216) (q : ∀ y, TL k y → Q (.str y) H) : rJoin K (.str (Str.ofString " ")) [.ref l] H Q := by
  refine ⟨_, l, zs, rfl, rfl, SqL.of h, (by rw [e32]; exact W.sum hz), ?_⟩
  rw [e32]
  exact q _ (W.join (by decide))
theorem mul600 : MulOk (Str.ofString " +1,3,4") 600 := by
  have l1 : (Str.ofString " +1,3,4").length = 7 := by decide +kernel
  refine ⟨by decide, fun a b => ?_, fun a b => ?_⟩
  · rw [l1]
    have : (2 ^ 63 - 1 : Int) / 600 = 15372286728091293 := by decide
    omega
  · rw [l1]
    unfold Builtin.Str.tooLong
    rw [decide_eq_false_iff_not, sizeLine_eq]
    decide
theorem tl600 : TL 4200 (Txt.mul (Str.ofString " +1,3,4") 600) := by
  have l1 : (Str.ofString " +1,3,4").length = 7 := by decide +kernel
  have a1 : asc (Str.ofString " +1,3,4") = true := by decide +kernel
  refine ⟨asc_iff.mpr fun c hc => asc_iff.mp a1 c (mul_mem hc), ?_⟩
  unfold Txt.mul
  split
  · show 0 ≤ _
    omega
  · split
    · omega
    · show ((List.replicate (600 : Int).toNat (Str.ofString " +1,3,4").cps).foldl (· ++ ·) #[]).size ≤ _
      rw [mul_len, l1]
      decide
theorem log64 {i : Int} (h0 : 0 ≤ i) (h1 : i < 10 ^ Int.toNat 64) : i.natAbs.log2 < 1920 := by
  by_cases z : i.natAbs = 0
  · rw [z]; decide
  · have e : (10 : Int) ^ Int.toNat 64 = ((10 ^ 64 : Nat) : Int) := by decide
    rw [e] at h1
    have b : i.natAbs < 2 ^ 213 := Nat.lt_of_lt_of_le (show i.natAbs < 10 ^ 64 by omega) (by decide)
    exact Nat.lt_of_lt_of_le ((Nat.log2_lt z).mpr b) (by decide)
theorem at_n4 {α : Type} {a b c d e : α} {l : List α} : atI (a :: b :: c :: d :: e :: l) 4 = some e := atI_nat (j := 4) rfl
theorem SunF.nums {a b : List Nat} {r : List (List Nat)} {s : Int} {ls : List Int} {lp : Int} {ts : List Tm} (F : SunF (a :: b :: r) s ls lp ts) : ∀ w ∈ a :: spl 44 b, IsNum w := fun w hw => by
  cases F <;> rcases List.mem_cons.mp hw with rfl | hw <;> first | assumption | exact (by assumption : NumsT b) w hw
def TmsV (H : Hp) (ws : List (List Nat)) (v : V) : Prop := (AllT ws ∧ ∃ (l : Addr) (us : List V), v = .ref l ∧ H l = some (.lst us) ∧ Tms H us (ws.map tmOf)) ∨ (¬ AllT ws ∧ v = .non)
theorem TmsV.same {H H' : Hp} {ws : List (List Nat)} {v : V} (h : TmsV H ws v) (s : Same H H') : TmsV H' ws v := by
  rcases h with ⟨h, l, us, e, g, t⟩ | h
  · exact .inl ⟨h, l, us, e, s _ _ g, t.same s⟩
  · exact .inr h
structure Errs (K : PySem.W.Frag) (mg : Str → Option Value) (c_FeastError c_NoNumber c_NoMeasure c_NoText c_Measure c_Calendar c_Sun c_Moon : Addr) : Prop where
  m_FeastError : mg "FeastError" = some (.ref c_FeastError)
  m_NoMeasure : mg "NoMeasure" = some (.ref c_NoMeasure)
  h_NoMeasure : HCls K mg "NoMeasure" c_NoMeasure
  m_NoText : mg "NoText" = some (.ref c_NoText)
  h_NoText : HCls K mg "NoText" c_NoText
  x_NoText : XCls K mg "NoText" c_NoText
  g_NoText : XGet K c_NoText
  i_NoText_FeastError : PySem.W.kitOne K (.ref c_NoText) (.ref c_FeastError) = some true
  i_NoText_NoMeasure : PySem.W.kitOne K (.ref c_NoText) (.ref c_NoMeasure) = some false
  r_NoText_NoText : PySem.W.mroIn K c_NoText (.ref c_NoText) = some true
  x_NoMeasure : XCls K mg "NoMeasure" c_NoMeasure
  g_NoMeasure : XGet K c_NoMeasure
  i_NoMeasure_FeastError : PySem.W.kitOne K (.ref c_NoMeasure) (.ref c_FeastError) = some true
  r_NoMeasure_NoMeasure : PySem.W.mroIn K c_NoMeasure (.ref c_NoMeasure) = some true
  r_NoMeasure_NoText : PySem.W.mroIn K c_NoMeasure (.ref c_NoText) = some false
  i_NoMeasure_NoText : PySem.W.kitOne K (.ref c_NoMeasure) (.ref c_NoText) = some false
  cl_Measure : Cls K c_Measure
  na_Measure_base : NoAttr K c_Measure "base"
  na_Measure_terms : NoAttr K c_Measure "terms"
  na_Measure_full_count : NoAttr K c_Measure "full_count"
  na_Measure_full_sum : NoAttr K c_Measure "full_sum"
  cl_Sun : Cls K c_Sun
  na_Sun_start : NoAttr K c_Sun "start"
  na_Sun_months : NoAttr K c_Sun "months"
  na_Sun_leap : NoAttr K c_Sun "leap"
  na_Sun_years : NoAttr K c_Sun "years"
  cl_Moon : Cls K c_Moon
  na_Moon_start : NoAttr K c_Moon "start"
  na_Moon_days : NoAttr K c_Moon "days"
  na_Moon_many : NoAttr K c_Moon "many"
section
variable {P : Program} {w : World} {K : PySem.W.Frag} {mg : Str → Option Value} {base : Heap}
variable {c_FeastError c_NoNumber c_NoMeasure c_NoText c_Measure c_Calendar c_Sun c_Moon : Addr}
theorem sc_refuse_below_one : FnScope ["number"] ["number"] (defScope s_refuse_below_one) := ⟨rfl, rfl, rfl, by decide +kernel, rfl, by decide +kernel, by decide +kernel⟩
theorem ok_refuse_below_one {f : Addr} {fd : FuncData} (F : Fun K "refuse_below_one" "refuse_below_one" s_refuse_below_one f fd) : FnOk P w K mg base CX0 1 f fd ["number"] spRefuse := by
  refine F.ok (k := 0) sc_refuse_below_one (fun vs H Q E h => ?_) (fun cdv A outer s H vs Q E hr h => ?_)
  · obtain ⟨n, rfl, _⟩ := h
    rfl
  obtain ⟨n, rfl, hn, q⟩ := h
  refine ⟨_, (pss_one (ps_if (pt_cmpR op_lt (pv 0) pe_int (nomark _))
        (pss_one ps_never)
        pss_nil)), ?_⟩
  walk_at "rd"
  refine iteN (by omega) ?_
  walk_at "rd"
  exact q
theorem sc_equation : FnScope ["one", "other", "row", "below", "times", "rest"] ["one", "other"] (defScope s_equation) := ⟨rfl, rfl, rfl, by decide +kernel, rfl, by decide +kernel, by decide +kernel⟩
theorem ok_equation {f : Addr} {fd : FuncData} (F : Fun K "equation" "equation" s_equation f fd) : FnOk P w K mg base CX0 1 f fd ["one", "other"] spEq := by
  refine F.ok (k := 0) sc_equation (fun vs H Q E h => ?_) (fun cdv A outer s H vs Q E hr h => ?_)
  · obtain ⟨a, b, rfl, _⟩ := h
    rfl
  obtain ⟨a, b, rfl, ha, hb, q⟩ := h
  refine ⟨_, (pss_cons (ps_set (i := 2) sc_equation.nd rfl (by first | exact Or.inl rfl | exact Or.inr rfl) (pe_tup (pa_cons pe_int (pa_cons pe_int (pa_cons (pv 0) pa_nil)))))
      (pss_cons (ps_set (i := 3) sc_equation.nd rfl (by first | exact Or.inl rfl | exact Or.inr rfl) (pe_tup (pa_cons pe_int (pa_cons pe_int (pa_cons (pv 1) pa_nil)))))
      (pss_cons (ps_while PassesOwn.never (pt_cmpR op_ne (pe_ix ix_tup (pv 3) pe_int (fun _ _ => rfl)) pe_int (nomark _))
        (pss_cons (ps_set (i := 4) sc_equation.nd rfl (by first | exact Or.inl rfl | exact Or.inr rfl) (pe_op op_fdivF (pe_ix ix_tup (pv 2) pe_int (fun _ _ => rfl)) (pe_ix ix_tup (pv 3) pe_int (fun _ _ => rfl))))
      (pss_cons (ps_set (i := 5) sc_equation.nd rfl (by first | exact Or.inl rfl | exact Or.inr rfl) (pe_tup (pa_cons (pe_op op_sub (pe_ix ix_tup (pv 2) pe_int (fun _ _ => rfl)) (pe_op op_mulB (pv 4) (pe_ix ix_tup (pv 3) pe_int (fun _ _ => rfl)))) (pa_cons (pe_op op_sub (pe_ix ix_tup (pv 2) pe_int (fun _ _ => rfl)) (pe_op op_mulB (pv 4) (pe_ix ix_tup (pv 3) pe_int (fun _ _ => rfl)))) (pa_cons (pe_op op_sub (pe_ix ix_tup (pv 2) pe_int (fun _ _ => rfl)) (pe_op op_mulB (pv 4) (pe_ix ix_tup (pv 3) pe_int (fun _ _ => rfl)))) pa_nil)))))
      (pss_cons (ps_set (i := 2) sc_equation.nd rfl (by first | exact Or.inl rfl | exact Or.inr rfl) (pv 3))
      (pss_one (ps_set (i := 3) sc_equation.nd rfl (by first | exact Or.inl rfl | exact Or.inr rfl) (pv 5)))))))
      (pss_cons (ps_if (pt_cmpR op_lt (pe_ix ix_tup (pv 2) pe_int (fun _ _ => rfl)) pe_int (nomark _))
        (pss_one (ps_ret (pe_tup (pa_cons (pe_un un_neg (pe_ix ix_tup (pv 2) pe_int (fun _ _ => rfl))) (pa_cons (pe_un un_neg (pe_ix ix_tup (pv 2) pe_int (fun _ _ => rfl))) (pa_cons (pe_un un_neg (pe_ix ix_tup (pv 2) pe_int (fun _ _ => rfl))) pa_nil))))))
        pss_nil)
      (pss_one (ps_ret (pv 2))))))), ?_⟩
  walk_at "rd"
  refine ⟨three, fun p1 hp1 => ?_⟩
  walk_at "rd"
  refine ⟨three, fun p2 hp2 => ?_⟩
  walk_at "rd"
  have n12 : p1 ≠ p2 := fun z => by rw [← z, upd_same] at hp2; cases hp2
  refine ⟨fun m σ' H' => ∃ (pr pb : Addr) (u v r u' v' r' : Int) (t1 t2 : Option V), σ' = [some (.int a), some (.int b), some (.ref pr), some (.ref pb), t1, t2] ∧ Same H H' ∧
      H' pr = some (.tup [.int u, .int v, .int r]) ∧ H' pb = some (.tup [.int u', .int v', .int r']) ∧ EqI a b u v r u' v' r' ∧ m = r'.natAbs,
    ⟨_, p1, p2, 1, 0, a, 0, 1, b, none, none, rfl, (same_new hp1 _).trans (same_new hp2 _), by rw [upd_ne n12]; exact upd_same, upd_same, EqI.start a b, rfl⟩, ?_⟩
  rintro m σ' H' ⟨pr, pb, u, v, r, u', v', r', t1, t2, rfl, sm, hpr, hpb, I, rfl⟩
  have B := I.bounds
  have br := bt_le2 (m := 510) ha hb (show r.natAbs ≤ a.natAbs + b.natAbs + 4 by omega) (by decide)
  have br' := bt_le (m := 510) hb (show r'.natAbs ≤ 4 * b.natAbs + 4 by omega) (by decide)
  have bu' := bt_le (m := 510) hb (show u'.natAbs ≤ 4 * b.natAbs + 4 by omega) (by decide)
  have bv' := bt_le (m := 510) ha (show v'.natAbs ≤ 4 * a.natAbs + 4 by omega) (by decide)
  walk_at "rd"
  refine rd_ixT (SqT.of hpb) at32 ?_
  walk_at "rd"
  by_cases hz : r' = 0
  · subst hz
    refine iteNS rfl ?_
    have D := I.done
    walk_at "rd"
    refine rd_ixT (SqT.of hpr) at32 ?_
    walk_at "rd"
    refine ite2d (fun c => ?_) (fun c => ?_)
    · walk_at "rd"
      refine rd_ixT (SqT.of hpr) at30 ?_
      walk_at "rd"
      refine rd_ixT (SqT.of hpr) at31 ?_
      walk_at "rd"
      refine rd_ixT (SqT.of hpr) at32 ?_
      walk_at "rd"
      refine ⟨three, fun p hp => ?_⟩
      exact q p _ _ _ _ (sm.trans (same_new hp _)) upd_same (D.1 c)
    · walk_at "rd"
      exact q pr _ _ _ _ sm hpr (D.2 c)
  · refine iteNN (fun z => hz (V.int.inj z)) ?_
    refine ⟨_, fun σ' H' hh => hh, ?_⟩
    have St := I.step hz
    have bq := bt_le (m := 520) br (show (r.fdiv r').natAbs ≤ 4 * r.natAbs + 4 by have := quot_bound (r := r) hz; omega) (by decide)
    walk_at "rd"
    refine rd_ixT (SqT.of hpr) at32 ?_
    walk_at "rd"
    refine rd_ixT (SqT.of hpb) at32 ?_
    refine rd_i ⟨hz, br'.mono (by decide)⟩ ?_
    walk_at "rd"
    refine rd_ixT (SqT.of hpr) at30 ?_
    walk_at "rd"
    refine rd_ixT (SqT.of hpb) at30 ?_
    refine rd_i ⟨520, 510, bq, bu', by decide⟩ ?_
    walk_at "rd"
    refine rd_ixT (SqT.of hpr) at31 ?_
    walk_at "rd"
    refine rd_ixT (SqT.of hpb) at31 ?_
    refine rd_i ⟨520, 510, bq, bv', by decide⟩ ?_
    walk_at "rd"
    refine rd_ixT (SqT.of hpr) at32 ?_
    walk_at "rd"
    refine rd_ixT (SqT.of hpb) at32 ?_
    refine rd_i ⟨520, 510, bq, br', by decide⟩ ?_
    walk_at "rd"
    refine ⟨three, fun p hp => ?_⟩
    walk_at "rd"
    exact ⟨_, St.2, pb, p, u', v', r', _, _, _, _, _, rfl, sm.trans (same_new hp _), (same_new hp _) _ _ hpb, upd_same, St.1, rfl⟩
theorem sc_divisor : FnScope ["one", "other"] ["one", "other"] (defScope s_divisor) := ⟨rfl, rfl, rfl, by decide +kernel, rfl, by decide +kernel, by decide +kernel⟩
theorem ok_divisor {f : Addr} {fd : FuncData} (F : Fun K "divisor" "divisor" s_divisor f fd) (c_equation : Cal P w K mg base 1 "equation" ["one", "other"] spEq) : FnOk P w K mg base CX0 2 f fd ["one", "other"] spDivisor := by
  refine F.ok (k := 1) sc_divisor (fun vs H Q E h => ?_) (fun cdv A outer s H vs Q E hr h => ?_)
  · obtain ⟨a, b, rfl, _⟩ := h
    rfl
  obtain ⟨a, b, rfl, ha, hb, q⟩ := h
  refine ⟨_, (pss_one (ps_ret (pe_ix ix_tup (pe_cal c_equation (hr.mono (by decide)) rfl (pa_cons (pv 0) (pa_cons (pv 1) pa_nil))) pe_int (fun _ _ => rfl)))), ?_⟩
  walk_at "rd"
  refine ⟨a, b, rfl, ha, hb, fun p u v g H' sm hp e => ?_⟩
  walk_at "rd"
  refine rd_ixT (SqT.of hp) at32 ?_
  rw [e.gd]
  exact q _ sm
theorem sc_common : FnScope ["one", "other"] ["one", "other"] (defScope s_common) := ⟨rfl, rfl, rfl, by decide +kernel, rfl, by decide +kernel, by decide +kernel⟩
theorem ok_common {f : Addr} {fd : FuncData} (F : Fun K "common" "common" s_common f fd) (c_refuse_below_one : Cal P w K mg base 1 "refuse_below_one" ["number"] spRefuse) (c_divisor : Cal P w K mg base 2 "divisor" ["one", "other"] spDivisor) : FnOk P w K mg base CX0 3 f fd ["one", "other"] spCommon := by
  refine F.ok (k := 2) sc_common (fun vs H Q E h => ?_) (fun cdv A outer s H vs Q E hr h => ?_)
  · obtain ⟨a, b, rfl, _⟩ := h
    rfl
  obtain ⟨a, b, rfl, a0, b0, ha, hb, q⟩ := h
  refine ⟨_, (pss_cons (ps_expr (pe_cal c_refuse_below_one (hr.mono (by decide)) rfl (pa_cons (pv 0) pa_nil)))
      (pss_cons (ps_expr (pe_cal c_refuse_below_one (hr.mono (by decide)) rfl (pa_cons (pv 1) pa_nil)))
      (pss_one (ps_ret (pe_op op_mulB (pe_op op_fdivB (pv 0) (pe_cal c_divisor (hr.mono (by decide)) rfl (pa_cons (pv 0) (pa_cons (pv 1) pa_nil)))) (pv 1)))))), ?_⟩
  walk_at "rd"
  refine ⟨a, rfl, by omega, ?_⟩
  walk_at "rd"
  refine ⟨b, rfl, by omega, ?_⟩
  walk_at "rd"
  refine ⟨a, b, rfl, ha, hb, fun H' sm => ?_⟩
  have g0 := gcd_pos (b := b) a0
  have g1 := gcd_le (b := b) a0
  refine rd_i ⟨g0, (ha.le (x := (Int.gcd a b : Int)) (by omega)).mono (by decide)⟩ ?_
  walk_at "rd"
  have d0 : 0 ≤ a / (Int.gcd a b : Int) := Int.ediv_nonneg (by omega) (by omega)
  have d1 : a / (Int.gcd a b : Int) ≤ a := Int.ediv_le_self _ (by omega)
  refine rd_i ⟨500, 500, ha.le (by omega), hb, by decide⟩ ?_
  exact q _ sm
theorem sc_signs_upto : FnScope ["terms", "k"] ["terms", "k"] (defScope s_signs_upto) := ⟨rfl, rfl, rfl, by decide +kernel, rfl, by decide +kernel, by decide +kernel⟩
theorem ok_signs_upto {f : Addr} {fd : FuncData} (F : Fun K "signs_upto" "signs_upto" s_signs_upto f fd) (z_sum : mg "sum" = none) : FnOk P w K mg base CX0 1 f fd ["terms", "k"] (spSigns K) := by
  refine F.ok (k := 0) sc_signs_upto (fun vs H Q E h => ?_) (fun cdv A outer s H vs Q E hr h => ?_)
  · obtain ⟨p, k, ts, rfl, _⟩ := h
    rfl
  obtain ⟨p, k, ts, rfl, T, bk, q⟩ := h
  obtain ⟨us, hS, hT⟩ := T.ex
  refine ⟨_, (pss_one (ps_ret (pe_callB (call_sum rfl) rfl z_sum PyProof.Rows.boot_sum (pa_cons (pe_comp rfl (compOk_freeM ["terms", "k"] ["terms", "k"] rfl rfl (by with_unfolding_all rfl) (by decide +kernel) rfl (by decide +kernel) rfl (by decide +kernel) (by walk_at "fm") (by with_unfolding_all rfl) (by with_unfolding_all rfl)) (pi_tup (pv 0)) (fun _ _ _ _ => pifs_nil) (fun _ _ _ _ => (pe_op op_mulB (pe_ix ix_tup_c (pv 0) pe_int (fun _ _ => rfl)) (pe_op op_fdivB (pe_op op_add (pe_op op_mulB (pe_ix ix_tup_c (pv 0) pe_int (fun _ _ => rfl)) (pv 2)) (pe_ix ix_tup_c (pv 0) pe_int (fun _ _ => rfl))) (pe_ix ix_tup_c (pv 0) pe_int (fun _ _ => rfl)))))) pa_nil)))), ?_⟩
  walk_at "rd"
  refine comp_t rfl hS (by rw [hT.len]; exact small1000 (by have := T.few; omega)) (fun v => ((tmAt H v).map fun _ => true).getD false) (fun v => ((tmAt H v).map fun t => V.int (t.1 * ctT t k)).getD .non) (fun x hx D ys Q' hD h => ?_) (fun x hx _ D ys Q' hD h => ?_) (fun D hD => ?_)
  · obtain ⟨a, t, rfl, ht, ha⟩ := hT.mem hx
    rw [tmAt_eq ha] at h
    exact h
  · obtain ⟨a, t, rfl, ht, ha⟩ := hT.mem hx
    rw [tmAt_eq ha] at h
    have ok := T.ok t ht
    have n0 := ok.n0
    have n1 := ok.n1
    have a0 := ok.a0
    have a1 := ok.a1
    have sg := ok.sg
    have b0 := ok.b0
    have b1 := ok.b1
    have ha' := same_new hD (.lst ys) _ _ ha
    walk_at "rd"
    refine rd_ixT (SqT.of ha') at40 ?_
    walk_at "rd"
    refine rd_ixT (SqT.of ha') at41 ?_
    walk_at "rd"
    refine rd_i ⟨64, 400, bt_small (by omega) (by omega) (by decide), bk, by decide⟩ ?_
    walk_at "rd"
    refine rd_ixT (SqT.of ha') at42 ?_
    walk_at "rd"
    refine rd_ixT (SqT.of ha') at43 ?_
    refine rd_i (cdiv_small (by omega) (by omega)) ?_
    have bb : Bt 465 (t.2.1 * k + t.2.2.1) := ((show Bt 64 t.2.1 from bt_small (by omega) (by omega) (by decide)).mul bk).add ((show Bt 64 t.2.2.1 from bt_small (by omega) (by omega) (by decide)).mono (by decide))
    refine rd_i ⟨200, 465, bt_of (by omega) (by omega), bt_div bb (by omega), by decide⟩ ?_
    exact h
  rw [hT.fm (fun _ => true) fun t => V.int (t.1 * ctT t k), List.filter_eq_self.mpr (fun _ _ => rfl)]
  have e : (ts.map fun t => V.int (t.1 * ctT t k)) = (ts.map fun t => t.1 * ctT t k).map V.int := by rw [List.map_map]; rfl
  rw [e]
  walk_at "rd"
  refine ⟨D, _, rfl, SqL.of upd_same, ?_⟩
  exact q _ (same_new hD _)
theorem sc_is_term : FnScope ["term"] ["term"] (defScope s_is_term) := ⟨rfl, rfl, rfl, by decide +kernel, rfl, by decide +kernel, by decide +kernel⟩
theorem ok_is_term {f : Addr} {fd : FuncData} (F : Fun K "is_term" "is_term" s_is_term f fd) {tk_GREATEST_N : Tok} (m_GREATEST_N : mg "GREATEST_N" = some (.int 1000 tk_GREATEST_N)) : FnOk P w K mg base CX0 1 f fd ["term"] spIsTermU := by
  refine F.ok (k := 0) sc_is_term (fun vs H Q E h => ?_) (fun cdv A outer s H vs Q E hr h => ?_)
  · obtain ⟨p, t, rfl, _⟩ := h
    rfl
  obtain ⟨p, t, rfl, hp, q⟩ := h
  have fin : ∀ b, (b = true ↔ OkT t) → Q (.bl b) H := fun b hb => by
    have : b = okB t := by
      rw [Bool.eq_iff_iff, hb, okB_iff]
    rw [this]
    exact q
  have no : ¬ OkT t → Q (.bl false) H := fun hn => fin false ⟨fun z => (nomatch z), fun z => absurd z hn⟩
  refine ⟨_, (pss_cons (ps_if (PW.pt (pw_and (pt_cmpR op_ne (pe_ix ix_tup (pv 0) pe_int (fun _ _ => rfl)) pe_int (nomark _)) (pw_and1 (pt_cmpR op_ne (pe_ix ix_tup (pv 0) pe_int (fun _ _ => rfl)) (pe_un un_neg pe_int) (nomark _)))))
        (pss_one (ps_ret pe_bl))
        pss_nil)
      (pss_one (ps_ret (pe_and (pe_chain op_le op_le pe_int (pe_ix ix_tup (pv 0) pe_int (fun _ _ => rfl)) (pe_glob rfl m_GREATEST_N (rel_int _ _))) (pe_and (pe_chain op_le op_le pe_int (pe_ix ix_tup (pv 0) pe_int (fun _ _ => rfl)) (pe_ix ix_tup (pv 0) pe_int (fun _ _ => rfl))) (pe_one (pe_chain op_le op_lt pe_int (pe_ix ix_tup (pv 0) pe_int (fun _ _ => rfl)) (pe_ix ix_tup (pv 0) pe_int (fun _ _ => rfl))))))))), ?_⟩
  walk_at "rd"
  refine rd_ixT (SqT.of hp) at40 ?_
  walk_at "rd"
  by_cases e : t.1 = 1
  · have sg : t.1 = 1 ∨ t.1 = -1 := .inl e
    refine iteNS (congrArg V.int e) (iteF ?_)
    walk_at "rd"
    refine rd_ixT (SqT.of hp) at43 ?_
    walk_at "rd"
    by_cases c1 : 1 ≤ t.2.2.2
    · refine iteD c1 ?_
      walk_at "rd"
      by_cases c2 : t.2.2.2 ≤ 1000
      · rw [decide_eq_true c2]
        refine iteT ?_
        walk_at "rd"
        refine rd_ixT (SqT.of hp) at41 ?_
        walk_at "rd"
        by_cases c3 : 0 ≤ t.2.1
        · refine iteD c3 ?_
          walk_at "rd"
          refine rd_ixT (SqT.of hp) at43 ?_
          walk_at "rd"
          by_cases c4 : t.2.1 ≤ t.2.2.2
          · rw [decide_eq_true c4]
            refine iteT ?_
            walk_at "rd"
            refine rd_ixT (SqT.of hp) at42 ?_
            walk_at "rd"
            by_cases c5 : 0 ≤ t.2.2.1
            · refine iteD c5 ?_
              walk_at "rd"
              refine rd_ixT (SqT.of hp) at43 ?_
              walk_at "rd"
              exact fin _ ⟨fun z => ⟨sg, c1, c2, c3, c4, c5, of_decide_eq_true z⟩, fun z => decide_eq_true z.b1⟩
            · refine iteN c5 ?_
              exact no fun z => c5 z.b0
          · rw [decide_eq_false c4]
            refine iteF ?_
            exact no fun z => c4 z.a1
        · refine iteN c3 ?_
          walk_at "rd"
          refine iteF ?_
          exact no fun z => c3 z.a0
      · rw [decide_eq_false c2]
        refine iteF ?_
        exact no fun z => c2 z.n1
    · refine iteN c1 ?_
      walk_at "rd"
      refine iteF ?_
      exact no fun z => c1 z.n0
  · refine iteNN (fun z => e (V.int.inj z)) ?_
    walk_at "rd"
    refine rd_ixT (SqT.of hp) at40 ?_
    walk_at "rd"
    by_cases e2 : t.1 = -1
    · have sg : t.1 = 1 ∨ t.1 = -1 := .inr e2
      refine iteNS (congrArg V.int e2) ?_
      walk_at "rd"
      refine rd_ixT (SqT.of hp) at43 ?_
      walk_at "rd"
      by_cases c1 : 1 ≤ t.2.2.2
      · refine iteD c1 ?_
        walk_at "rd"
        by_cases c2 : t.2.2.2 ≤ 1000
        · rw [decide_eq_true c2]
          refine iteT ?_
          walk_at "rd"
          refine rd_ixT (SqT.of hp) at41 ?_
          walk_at "rd"
          by_cases c3 : 0 ≤ t.2.1
          · refine iteD c3 ?_
            walk_at "rd"
            refine rd_ixT (SqT.of hp) at43 ?_
            walk_at "rd"
            by_cases c4 : t.2.1 ≤ t.2.2.2
            · rw [decide_eq_true c4]
              refine iteT ?_
              walk_at "rd"
              refine rd_ixT (SqT.of hp) at42 ?_
              walk_at "rd"
              by_cases c5 : 0 ≤ t.2.2.1
              · refine iteD c5 ?_
                walk_at "rd"
                refine rd_ixT (SqT.of hp) at43 ?_
                walk_at "rd"
                exact fin _ ⟨fun z => ⟨sg, c1, c2, c3, c4, c5, of_decide_eq_true z⟩, fun z => decide_eq_true z.b1⟩
              · refine iteN c5 ?_
                exact no fun z => c5 z.b0
            · rw [decide_eq_false c4]
              refine iteF ?_
              exact no fun z => c4 z.a1
          · refine iteN c3 ?_
            walk_at "rd"
            refine iteF ?_
            exact no fun z => c3 z.a0
        · rw [decide_eq_false c2]
          refine iteF ?_
          exact no fun z => c2 z.n1
      · refine iteN c1 ?_
        walk_at "rd"
        refine iteF ?_
        exact no fun z => c1 z.n0
    · refine iteNN (fun z => e2 (V.int.inj z)) ?_
      walk_at "rd"
      exact no fun z => by rcases z.sg with y | y <;> omega
theorem sc_least_length : FnScope ["base", "terms"] ["base", "terms"] (defScope s_least_length) := ⟨rfl, rfl, rfl, by decide +kernel, rfl, by decide +kernel, by decide +kernel⟩
theorem ok_least_length {f : Addr} {fd : FuncData} (F : Fun K "least_length" "least_length" s_least_length f fd) (z_len : mg "len" = none) : FnOk P w K mg base CX0 1 f fd ["base", "terms"] (spLeastU K) := by
  refine F.ok (k := 0) sc_least_length (fun vs H Q E h => ?_) (fun cdv A outer s H vs Q E hr h => ?_)
  · obtain ⟨p, b, ts, rfl, _⟩ := h
    rfl
  obtain ⟨p, b, ts, rfl, T, q⟩ := h
  obtain ⟨us, hS, hT⟩ := T.ex
  refine ⟨_, (pss_one (ps_ret (pe_op op_sub (pv 0) (pe_callB call_len_seq rfl z_len PySem.boot_len (pa_cons (pe_comp rfl (compOk_nil ["base", "terms"] rfl (by decide +kernel) rfl (by decide +kernel) rfl (by decide +kernel) (by decide +kernel)) (pi_tup (pv 1)) (fun _ _ _ _ => (pifs_one (pt_cmpR op_eq (pe_ix ix_tup_c (pv 0) pe_int (fun _ _ => rfl)) (pe_un un_neg pe_int) (nomark _)))) (fun _ _ _ _ => (pv 0))) pa_nil))))), ?_⟩
  walk_at "rd"
  refine comp_t rfl hS (by rw [hT.len, sizeLine_eq]; have := T.few; omega) (fun v => ((tmAt H v).map fun t => decide (t.1 = -1)).getD false) (fun v => v) (fun x hx D ys Q' hD h => ?_) (fun x hx _ D ys Q' hD h => ⟨_, rfl, h⟩) (fun D hD => ?_)
  · obtain ⟨a, t, rfl, ht, ha⟩ := hT.mem hx
    rw [tmAt_eq ha] at h
    walk_at "rd"
    refine rd_ixT (SqT.of (same_new hD _ _ _ ha)) at40 ?_
    walk_at "rd"
    rw [dec_int0]
    exact h
  walk_at "rd"
  refine ⟨D, _, rfl, .inl (SqL.of upd_same), ?_⟩
  walk_at "rd"
  have e : ((us.filter fun v => ((tmAt H v).map fun t => decide (t.1 = -1)).getD false).map fun v => v).length = (ts.filter fun t => decide (t.1 = -1)).length := by
    have := congrArg List.length (hT.fm (fun t => decide (t.1 = -1)) (fun _ => V.non))
    rw [List.length_map, List.length_map] at this
    rw [List.length_map]
    exact this
  rw [e]
  exact q _ (same_new hD _)
theorem sc_refuse_measure : FnScope ["base", "terms"] ["base", "terms"] (defScope s_refuse_measure) := ⟨rfl, rfl, rfl, by decide +kernel, rfl, by decide +kernel, by decide +kernel⟩
theorem ok_refuse_measure {f : Addr} {fd : FuncData} (F : Fun K "refuse_measure" "refuse_measure" s_refuse_measure f fd) (er : Errs K mg c_FeastError c_NoNumber c_NoMeasure c_NoText c_Measure c_Calendar c_Sun c_Moon) (c_is_term : Cal P w K mg base 1 "is_term" ["term"] spIsTermU) (c_least_length : Cal P w K mg base 1 "least_length" ["base", "terms"] (spLeastU K)) (z_len : mg "len" = none) (z_all : mg "all" = none) {tk_GREATEST_BASE : Tok} (m_GREATEST_BASE : mg "GREATEST_BASE" = some (.int 20000 tk_GREATEST_BASE)) {tk_MOST_TERMS : Tok} (m_MOST_TERMS : mg "MOST_TERMS" = some (.int 6 tk_MOST_TERMS)) : FnOk P w K mg base (CX1 P w) 2 f fd ["base", "terms"] (spRefuseME K c_NoMeasure) := by
  refine F.okE (k := 1) sc_refuse_measure (fun vs H Q E h => ?_) (fun cdv A outer s H vs Q E hr h T => ?_)
  · obtain ⟨p, b, ts, rfl, _⟩ := h
    rfl
  obtain ⟨p, b, ts, rfl, U, q, qe⟩ := h
  obtain ⟨us, hS, hT⟩ := U.ex
  have few9 := U.few
  have ul := hT.len
  refine ⟨_, (pss_cons (ps_if (PW.pt (pw_or (pt_cmpR op_lt (pv 0) pe_int (nomark _)) (pw_or1 (pt_cmpR op_gt (pv 0) (pe_glob rfl m_GREATEST_BASE (rel_int _ _)) (nomark _)))))
        (pss_one (ps_raise T rfl er.x_NoMeasure rfl (pa_cons pe_str pa_nil)))
        pss_nil)
      (pss_cons (ps_if (pt_cmpR op_gt (pe_callB call_len_seq rfl z_len PySem.boot_len (pa_cons (pv 1) pa_nil)) (pe_glob rfl m_MOST_TERMS (rel_int _ _)) (nomark _))
        (pss_one (ps_raise T rfl er.x_NoMeasure rfl (pa_cons pe_str pa_nil)))
        pss_nil)
      (pss_cons (ps_if (pt_not (pt_val (pe_callB (call_all rfl) rfl z_all PyProof.Rows.boot_all (pa_cons (pe_comp rfl (compOk_nil ["base", "terms"] rfl (by decide +kernel) rfl (by decide +kernel) rfl (by decide +kernel) (by decide +kernel)) (pi_tup (pv 1)) (fun _ _ _ _ => pifs_nil) (fun _ _ _ _ => (pe_cal c_is_term (hr.mono (by decide)) rfl (pa_cons (pv 0) pa_nil)))) pa_nil))))
        (pss_one (ps_raise T rfl er.x_NoMeasure rfl (pa_cons pe_str pa_nil)))
        pss_nil)
      (pss_one (ps_if (pt_cmpR op_lt (pe_cal c_least_length (hr.mono (by decide)) rfl (pa_cons (pv 0) (pa_cons (pv 1) pa_nil))) pe_int (nomark _))
        (pss_one (ps_raise T rfl er.x_NoMeasure rfl (pa_cons pe_str pa_nil)))
        pss_nil))))), ?_⟩
  walk_at "rdx"
  by_cases c1 : b < 0
  · refine iteD c1 (iteT ?_)
    walk_at "rdx"
    exact ⟨(by show 1 ≤ sizeLine; decide), qe (fun g => by have := g.b0; omega) _ (Same.refl _)⟩
  refine iteN c1 ?_
  walk_at "rdx"
  by_cases c2 : 20000 < b
  · refine iteD c2 ?_
    walk_at "rdx"
    exact ⟨(by show 1 ≤ sizeLine; decide), qe (fun g => by have := g.b1; omega) _ (Same.refl _)⟩
  refine iteN c2 ?_
  walk_at "rdx"
  refine ⟨p, us, rfl, .inr hS, ?_⟩
  walk_at "rdx"
  by_cases c3 : 6 < (us.length : Int)
  · refine iteD c3 ?_
    walk_at "rdx"
    exact ⟨(by show 1 ≤ sizeLine; decide), qe (fun g => by have := g.few; omega) _ (Same.refl _)⟩
  refine iteN c3 ?_
  walk_at "rdx"
  refine comp_t rfl hS (by rw [ul]; exact small1000 (by omega)) (fun v => ((tmAt H v).map fun _ => true).getD false) (fun v => ((tmAt H v).map fun t => V.bl (okB t)).getD .non) (fun x hx D ys Q' hD h => ?_) (fun x hx _ D ys Q' hD h => ?_) (fun D hD => ?_)
  · obtain ⟨a, t, rfl, ht, ha⟩ := hT.mem hx
    rw [tmAt_eq ha] at h
    exact h
  · obtain ⟨a, t, rfl, ht, ha⟩ := hT.mem hx
    rw [tmAt_eq ha] at h
    walk_at "rdx"
    exact ⟨a, t, rfl, same_new hD _ _ _ ha, h⟩
  rw [hT.fm (fun _ => true) fun t => V.bl (okB t), List.filter_eq_self.mpr (fun _ _ => rfl)]
  have e : (ts.map fun t => V.bl (okB t)) = (ts.map okB).map V.bl := by rw [List.map_map]; rfl
  rw [e]
  have s1 := same_new hD (.lst ((ts.map okB).map V.bl))
  have t1 : upd H D (.lst ((ts.map okB).map V.bl)) D = some (.lst ((ts.map okB).map V.bl)) := upd_same
  generalize upd H D (.lst ((ts.map okB).map V.bl)) = H1 at s1 t1 ⊢
  have all : (ts.map okB).all id = true ↔ ∀ t ∈ ts, OkT t := by
    rw [List.all_eq_true]
    refine ⟨fun h t ht => okB_iff.mp (h _ (List.mem_map.mpr ⟨t, ht, rfl⟩)), fun h v hv => ?_⟩
    obtain ⟨t, ht, rfl⟩ := List.mem_map.mp hv
    exact okB_iff.mpr (h t ht)
  walk_at "rdx"
  refine ⟨D, ts.map okB, rfl, SqL.of t1, ?_⟩
  walk_at "rdx"
  by_cases c4 : (ts.map okB).all id = true
  · rw [c4]
    refine iteF ?_
    walk_at "rdx"
    refine ⟨p, b, ts, rfl, U.same s1, fun H2 s2 => ?_⟩
    walk_at "rdx"
    by_cases c5 : b - falls ts < 0
    · refine iteD c5 ?_
      walk_at "rdx"
      exact ⟨(by show 1 ≤ sizeLine; decide), qe (fun g => by have := g.fl; omega) _ (s1.trans s2)⟩
    · refine iteN c5 ?_
      walk_at "rdx"
      exact q ⟨by omega, by omega, by omega, all.mp c4, by omega⟩ _ (s1.trans s2)
  · rw [(Bool.not_eq_true _).mp c4]
    refine iteT ?_
    walk_at "rdx"
    exact ⟨(by show 1 ≤ sizeLine; decide), qe (fun g => c4 (all.mpr g.ok)) _ s1⟩
theorem sc_period_of : FnScope ["terms", "told", "term"] ["terms"] (defScope s_period_of) := ⟨rfl, rfl, rfl, by decide +kernel, rfl, by decide +kernel, by decide +kernel⟩
theorem ok_period_of {f : Addr} {fd : FuncData} (F : Fun K "period_of" "period_of" s_period_of f fd) (c_common : Cal P w K mg base 3 "common" ["one", "other"] spCommon) : FnOk P w K mg base CX0 4 f fd ["terms"] (spPeriod K) := by
  refine F.ok (k := 3) sc_period_of (fun vs H Q E h => ?_) (fun cdv A outer s H vs Q E hr h => ?_)
  · obtain ⟨p, ts, rfl, _⟩ := h
    rfl
  obtain ⟨p, ts, rfl, T, q⟩ := h
  obtain ⟨us, hS, hT⟩ := T.ex
  have few := T.few
  have ulen := hT.len
  refine ⟨_, (pss_cons (ps_set (i := 1) sc_period_of.nd rfl (by first | exact Or.inl rfl | exact Or.inr rfl) pe_int)
      (pss_cons (ps_for PassesOwn.never rfl (pi_tup (pv 0)) (pg_name (i := 2) sc_period_of.nd rfl (by first | exact Or.inl rfl | exact Or.inr rfl))
        (pss_one (ps_set (i := 1) sc_period_of.nd rfl (by first | exact Or.inl rfl | exact Or.inr rfl) (pe_cal c_common (hr.mono (by decide)) rfl (pa_cons (pv 1) (pa_cons (pe_ix ix_tup (pv 2) pe_int (fun _ _ => rfl)) pa_nil))))))
      (pss_one (ps_ret (pv 1))))), ?_⟩
  walk_at "rd"
  walk_at "rdf"
  walk_at "rd"
  refine ⟨p, rfl, ⟨us, hS⟩, for_tup (xs := us) (fun i σ' H' => Same H H' ∧ ∃ c : Option V, σ' = [some (.ref p), some (.int (PER (ts.take i))), c]) ⟨Same.refl _, none, rfl⟩ ?_ ?_ ?_⟩
  · rintro i σ' H' _ ⟨s, _⟩
    exact s.tup hS
  · rintro i x σ' H' hx ⟨s, c, rfl⟩
    obtain ⟨a, t, rfl, ht, ha⟩ := hT.at hx
    have i6 : i < 6 := by
      have := (List.getElem?_eq_some_iff.mp ht).1
      omega
    obtain ⟨h1, h2⟩ := per_pow T.ok i (by omega)
    have h3 := pow6 (show i ≤ 6 by omega)
    have ok := T.ok t (List.mem_of_getElem? ht)
    have n0 := ok.n0
    have n1 := ok.n1
    walk_at "rd"
    refine rd_ixT (SqT.of (s _ _ ha)) at43 ?_
    walk_at "rd"
    refine ⟨_, _, rfl, h1, by omega, bt_small (by omega) (by omega) (by decide), bt_small (by omega) (by omega) (by decide), fun H2 s2 => ?_⟩
    walk_at "rd"
    refine ⟨s.trans s2, some (.ref a), ?_⟩
    have e2 : PER (ts.take (i + 1)) = lcmI (PER (ts.take i)) t.2.2.2 := by
      unfold PER
      rw [List.take_add_one, ht, Option.toList_some, List.foldl_append]
      rfl
    rw [e2]
    rfl
  · rintro σ' H' ⟨s, c, rfl⟩
    walk_at "rd"
    rw [ulen, List.take_length]
    exact q _ s
theorem sc_Measure_upto : FnScope ["self", "k"] ["self", "k"] (defScope s_Measure_upto) := ⟨rfl, rfl, rfl, by decide +kernel, rfl, by decide +kernel, by decide +kernel⟩
theorem ok_Measure_upto {f : Addr} {fd : FuncData} (F : Fun K "upto" "Measure.upto" s_Measure_upto f fd) (er : Errs K mg c_FeastError c_NoNumber c_NoMeasure c_NoText c_Measure c_Calendar c_Sun c_Moon) (c_signs_upto : Cal P w K mg base 1 "signs_upto" ["terms", "k"] (spSigns K)) : FnOk P w K mg base CX0 2 f fd ["self", "k"] (spUpto K c_Measure) := by
  refine F.ok (k := 1) sc_Measure_upto (fun vs H Q E h => ?_) (fun cdv A outer s H vs Q E hr h => ?_)
  · obtain ⟨x, p, dx, k, b, ts, fs, rfl, _⟩ := h
    rfl
  obtain ⟨x, p, dx, k, b, ts, fs, rfl, hx, fb, ft, T, b0, b1, bk, q⟩ := h
  refine ⟨_, (pss_one (ps_ret (pe_op op_add (pe_op op_mulB (pe_fld (pv 0) (by rfl)) (pv 1)) (pe_cal c_signs_upto (hr.mono (by decide)) rfl (pa_cons (pe_fld (pv 0) (by rfl)) (pa_cons (pv 1) pa_nil)))))), ?_⟩
  walk_at "rd"
  refine ⟨x, c_Measure, dx, fs, _, rfl, hx, er.cl_Measure, er.na_Measure_base, fb, ?_⟩
  walk_at "rd"
  refine rd_i ⟨64, 400, bt_small (by omega) (by omega) (by decide), bk, by decide⟩ ?_
  walk_at "rd"
  refine ⟨x, c_Measure, dx, fs, _, rfl, hx, er.cl_Measure, er.na_Measure_terms, ft, ?_⟩
  walk_at "rd"
  refine ⟨p, k, ts, rfl, T, bk, fun H' s => ?_⟩
  walk_at "rd"
  exact q _ s
theorem sc_Measure___init__ : FnScope ["self", "base", "terms"] ["self", "base", "terms"] (defScope s_Measure___init__) := ⟨rfl, rfl, rfl, by decide +kernel, rfl, by decide +kernel, by decide +kernel⟩
theorem ok_Measure___init__ {f : Addr} {fd : FuncData} {ds : Array Value} (F : FunD K "__init__" "Measure.__init__" s_Measure___init__ f fd ds) (er : Errs K mg c_FeastError c_NoNumber c_NoMeasure c_NoText c_Measure c_Calendar c_Sun c_Moon) (c_refuse_measure : CalE P w K mg base 2 "refuse_measure" ["base", "terms"] (spRefuseME K c_NoMeasure)) (c_period_of : Cal P w K mg base 4 "period_of" ["terms"] (spPeriod K)) (c_Measure_upto : CalM P w K mg base CX0 2 c_Measure "upto" ["self", "k"] (spUpto K c_Measure)) (z_tuple : mg "tuple" = none) : FnOk P w K mg base (CX1 P w) 5 f fd ["self", "base", "terms"] (spInitME K c_Measure c_NoMeasure) := by
  refine F.okE (k := 4) sc_Measure___init__ (fun vs H Q E h => ?_) (fun cdv A outer s H vs Q E hr h T => ?_)
  · obtain ⟨x, dx, b, v, us, ts, rfl, _⟩ := h
    rfl
  obtain ⟨x, dx, b, v, us, ts, rfl, hx, hT, hv, few9, q, qe⟩ := h
  refine ⟨_, (pss_cons (ps_fld (pv 0) (pv 1) (by rfl))
      (pss_cons (ps_fld (pv 0) (pe_ifExp (pt_cmpR op_isN (pv 2) pe_non (nomark _)) (pe_tup pa_nil) (pe_callTy call_tuple_of rfl z_tuple PyProof.Rows.boot_tuple (pa_cons (pv 2) pa_nil))) (by rfl))
      (pss_cons (ps_expr (pe_calE T c_refuse_measure (hr.mono (by decide)) rfl (pa_cons (pe_fld (pv 0) (by rfl)) (pa_cons (pe_fld (pv 0) (by rfl)) pa_nil))))
      (pss_cons (ps_fld (pv 0) (pe_cal c_period_of (hr.mono (by decide)) rfl (pa_cons (pe_fld (pv 0) (by rfl)) pa_nil)) (by rfl))
      (pss_cons (ps_fld (pv 0) (pe_mcal c_Measure_upto er.cl_Measure (hr.mono (by decide)) (pv 0) (pa_cons (pe_fld (pv 0) (by rfl)) pa_nil)) (by rfl))
      (pss_one (ps_if (pt_cmpR op_eq (pe_fld (pv 0) (by rfl)) pe_int (nomark _))
        (pss_one (ps_raise T rfl er.x_NoMeasure rfl (pa_cons pe_str pa_nil)))
        pss_nil))))))), ?_⟩
  walk_at "rdx"
  refine ⟨x, c_Measure, dx, [], rfl, hx, er.cl_Measure, er.na_Measure_base, by decide, ?_⟩
  have k1 : ∀ y o, y ≠ x → H y = some o → upd H x (.ins c_Measure dx (putF (Str.ofString "base") (.int b) [])) y = some o := fun y o hy h => by rw [upd_ne hy]; exact h
  have x1 : upd H x (.ins c_Measure dx (putF (Str.ofString "base") (.int b) [])) x = some (.ins c_Measure dx [(Str.ofString "base", .int b)]) := upd_same
  generalize upd H x (.ins c_Measure dx (putF (Str.ofString "base") (.int b) [])) = H1 at k1 x1 ⊢
  have tmk : ∀ {H' : Hp}, (∀ y o, y ≠ x → H y = some o → H' y = some o) → Tms H' us ts := fun {H'} k => by
    have : ∀ {vs : List V} {ts : List Tm}, Tms H vs ts → Tms H' vs ts := fun {vs ts} h => by
      induction h with
      | nil => exact .nil
      | cons h _ ih => exact .cons (k _ _ (fun e => by subst e; rw [hx] at h; cases h) h) ih
    exact this hT
  walk_at "rdx"
  rcases hv with ⟨rfl, eu⟩ | ⟨l, rfl, hl⟩
  all_goals refine ⟨rfl, ?_⟩
  all_goals walk_at "rdx"
  all_goals first | refine iteD rfl ?_ | refine iteN (fun z => by cases z) ?_
  all_goals walk_at "rdx"
  all_goals first
    | refine ⟨l, us, rfl, .inl ⟨SqL.of (k1 _ _ (ne_of hl hx (by intro z; cases z)) hl), fun p hp => ?_⟩⟩
    | (refine ⟨Nat.zero_le _, fun p hp => ?_⟩
       rw [show upd H1 p (.tup []) = upd H1 p (.tup us) by rw [eu]])
  all_goals
    have px : x ≠ p := ne_of_none x1 hp
    walk_at "rdx"
    refine ⟨x, c_Measure, dx, _, rfl, by rw [upd_ne px]; exact x1, er.cl_Measure, er.na_Measure_terms, (by show 1 < 1000; decide), ?_⟩
    have k2 : ∀ y o, y ≠ x → H1 y = some o → upd (upd H1 p (.tup us)) x (.ins c_Measure dx (putF (Str.ofString "terms") (.ref p) [(Str.ofString "base", .int b)])) y = some o := fun y o hy h => by
      rw [upd_ne hy]
      exact same_new hp _ _ _ h
    have x2 : upd (upd H1 p (.tup us)) x (.ins c_Measure dx (putF (Str.ofString "terms") (.ref p) [(Str.ofString "base", .int b)])) x = some (.ins c_Measure dx [(Str.ofString "base", .int b), (Str.ofString "terms", .ref p)]) := upd_same
    have p2 : upd (upd H1 p (.tup us)) x (.ins c_Measure dx (putF (Str.ofString "terms") (.ref p) [(Str.ofString "base", .int b)])) p = some (.tup us) := by rw [upd_ne (Ne.symm px), upd_same]
    generalize upd (upd H1 p (.tup us)) x (.ins c_Measure dx (putF (Str.ofString "terms") (.ref p) [(Str.ofString "base", .int b)])) = H2 at k2 x2 p2 ⊢
    have k02 : ∀ y o, y ≠ x → H y = some o → H2 y = some o := fun y o hy h => k2 y o hy (k1 y o hy h)
    have U2 : TmU K H2 p ts := ⟨⟨us, SqT.of p2, tmk k02⟩, few9⟩
    walk_at "rdx"
    refine ⟨x, c_Measure, dx, _, _, rfl, x2, er.cl_Measure, er.na_Measure_base, rfl, ?_⟩
    walk_at "rdx"
    refine ⟨x, c_Measure, dx, _, _, rfl, x2, er.cl_Measure, er.na_Measure_terms, rfl, ?_⟩
    walk_at "rdx"
    refine ⟨p, b, ts, rfl, U2, fun gd H3 s3 => ?_, fun gd H3 s3 => qe (fun m => gd ⟨m.b0, m.b1, m.few, m.ok, m.fl⟩) _ fun y o hy h => s3 _ _ (k02 y o hy h)⟩
    have ok := gd.ok
    have few := gd.few
    have g : GoodM b ts := ⟨gd.b0, gd.b1, gd.fl⟩
    have T2 : TmT K H2 p ts := ⟨⟨us, SqT.of p2, tmk k02⟩, ok, few⟩
    have x3 := s3 _ _ x2
    walk_at "rdx"
    refine ⟨x, c_Measure, dx, _, _, rfl, x3, er.cl_Measure, er.na_Measure_terms, rfl, ?_⟩
    walk_at "rdx"
    refine ⟨p, ts, rfl, T2.same s3, fun H4 s4 => ?_⟩
    have x4 := s4 _ _ x3
    have p4 := (s3.trans s4) _ _ p2
    walk_at "rdx"
    refine ⟨x, c_Measure, dx, _, rfl, x4, er.cl_Measure, er.na_Measure_full_count, (by show 2 < 1000; decide), ?_⟩
    have pne : p ≠ x := Ne.symm px
    have k5 : ∀ y o, y ≠ x → H4 y = some o → upd H4 x (.ins c_Measure dx (putF (Str.ofString "full_count") (.int (PER ts)) [(Str.ofString "base", .int b), (Str.ofString "terms", .ref p)])) y = some o := fun y o hy h => by rw [upd_ne hy]; exact h
    have x5 : upd H4 x (.ins c_Measure dx (putF (Str.ofString "full_count") (.int (PER ts)) [(Str.ofString "base", .int b), (Str.ofString "terms", .ref p)])) x = some (.ins c_Measure dx [(Str.ofString "base", .int b), (Str.ofString "terms", .ref p), (Str.ofString "full_count", .int (PER ts))]) := upd_same
    generalize upd H4 x (.ins c_Measure dx (putF (Str.ofString "full_count") (.int (PER ts)) [(Str.ofString "base", .int b), (Str.ofString "terms", .ref p)])) = H5 at k5 x5 ⊢
    have k05 : ∀ y o, y ≠ x → H y = some o → H5 y = some o := fun y o hy h => k5 y o hy ((s3.trans s4) _ _ (k02 y o hy h))
    have T5 : TmT K H5 p ts := ⟨⟨us, SqT.of (k5 _ _ pne p4), tmk k05⟩, ok, few⟩
    obtain ⟨h1, h2⟩ := per_pow ok 6 (by decide)
    rw [List.take_of_length_le few] at h1 h2
    have h3 := pow6 (show 6 ≤ 6 by decide)
    walk_at "rdx"
    refine ⟨x, dx, _, rfl, x5, rfl, ?_⟩
    walk_at "rdx"
    refine ⟨x, c_Measure, dx, _, _, rfl, x5, er.cl_Measure, er.na_Measure_full_count, rfl, ?_⟩
    walk_at "rdx"
    refine ⟨x, p, dx, PER ts, b, ts, _, rfl, x5, rfl, rfl, T5, g.b0, g.b1, bt_small (by omega) (by omega) (by decide), fun H6 s6 => ?_⟩
    have x6 := s6 _ _ x5
    walk_at "rdx"
    refine ⟨x, c_Measure, dx, _, rfl, x6, er.cl_Measure, er.na_Measure_full_sum, (by show 3 < 1000; decide), ?_⟩
    have k7 : ∀ y o, y ≠ x → H6 y = some o → upd H6 x (.ins c_Measure dx (putF (Str.ofString "full_sum") (.int (UP b ts (PER ts))) [(Str.ofString "base", .int b), (Str.ofString "terms", .ref p), (Str.ofString "full_count", .int (PER ts))])) y = some o := fun y o hy h => by rw [upd_ne hy]; exact h
    have x7 : upd H6 x (.ins c_Measure dx (putF (Str.ofString "full_sum") (.int (UP b ts (PER ts))) [(Str.ofString "base", .int b), (Str.ofString "terms", .ref p), (Str.ofString "full_count", .int (PER ts))])) x = some (.ins c_Measure dx (mF b p (PER ts) (UP b ts (PER ts)))) := upd_same
    generalize upd H6 x (.ins c_Measure dx (putF (Str.ofString "full_sum") (.int (UP b ts (PER ts))) [(Str.ofString "base", .int b), (Str.ofString "terms", .ref p), (Str.ofString "full_count", .int (PER ts))])) = H7 at k7 x7 ⊢
    have k07 : ∀ y o, y ≠ x → H y = some o → H7 y = some o := fun y o hy h => k7 y o hy (s6 _ _ (k05 y o hy h))
    walk_at "rdx"
    refine ⟨x, c_Measure, dx, _, _, rfl, x7, er.cl_Measure, er.na_Measure_full_sum, rfl, ?_⟩
    walk_at "rdx"
    have nn := (UP_nought (b := b) ok g.fl h1).1
    by_cases c : UP b ts (PER ts) = 0
    · refine iteD (congrArg V.int c) ?_
      walk_at "rdx"
      exact ⟨(by show 1 ≤ sizeLine; decide), qe (fun m => by have := m.po; omega) _ k07⟩
    refine iteN (fun z => c (V.int.inj z)) ?_
    walk_at "rdx"
    have po : 0 < UP b ts (PER ts) := by omega
    exact q ⟨gd.b0, gd.b1, few, ok, gd.fl, po⟩ _ k07 ⟨⟨dx, p, x7, ⟨us, SqT.of (k7 _ _ pne (s6 _ _ (k5 _ _ pne p4))), tmk k07⟩, ok, few⟩, g, po⟩
theorem sc_refuse_months : FnScope ["lengths", "leap"] ["lengths", "leap"] (defScope s_refuse_months) := ⟨rfl, rfl, rfl, by decide +kernel, rfl, by decide +kernel, by decide +kernel⟩
theorem ok_refuse_months {f : Addr} {fd : FuncData} (F : Fun K "refuse_months" "refuse_months" s_refuse_months f fd) (er : Errs K mg c_FeastError c_NoNumber c_NoMeasure c_NoText c_Measure c_Calendar c_Sun c_Moon) (z_len : mg "len" = none) (z_min : mg "min" = none) (z_max : mg "max" = none) {tk_MOST_MONTHS : Tok} (m_MOST_MONTHS : mg "MOST_MONTHS" = some (.int 20 tk_MOST_MONTHS)) {tk_LONGEST_MONTH : Tok} (m_LONGEST_MONTH : mg "LONGEST_MONTH" = some (.int 1000 tk_LONGEST_MONTH)) : FnOk P w K mg base (CX1 P w) 1 f fd ["lengths", "leap"] (spRefMoE K c_NoMeasure) := by
  refine F.okE (k := 0) sc_refuse_months (fun vs H Q E h => ?_) (fun cdv A outer s H vs Q E hr h T => ?_)
  · obtain ⟨l, lp, ls, rfl, _⟩ := h
    rfl
  obtain ⟨l, lp, ls, rfl, hS, q, qe⟩ := h
  refine ⟨_, (pss_cons (ps_if (PW.pt (pw_or (pt_cmpR op_lt (pe_callB call_len_seq rfl z_len PySem.boot_len (pa_cons (pv 0) pa_nil)) pe_int (nomark _)) (pw_or1 (pt_cmpR op_gt (pe_callB call_len_seq rfl z_len PySem.boot_len (pa_cons (pv 0) pa_nil)) (pe_glob rfl m_MOST_MONTHS (rel_int _ _)) (nomark _)))))
        (pss_one (ps_raise T rfl er.x_NoMeasure rfl (pa_cons pe_str pa_nil)))
        pss_nil)
      (pss_cons (ps_if (PW.pt (pw_or (pt_cmpR op_lt (pe_callB (call_minL rfl) rfl z_min PyProof.Rows.boot_min (pa_cons (pv 0) pa_nil)) pe_int (nomark _)) (pw_or1 (pt_cmpR op_gt (pe_callB (call_maxL rfl) rfl z_max PyProof.Rows.boot_max (pa_cons (pv 0) pa_nil)) (pe_glob rfl m_LONGEST_MONTH (rel_int _ _)) (nomark _)))))
        (pss_one (ps_raise T rfl er.x_NoMeasure rfl (pa_cons pe_str pa_nil)))
        pss_nil)
      (pss_one (ps_if (PW.pt (pw_or (pt_cmpR op_lt (pv 1) pe_int (nomark _)) (pw_or1 (pt_cmpR op_gt (pv 1) (pe_callB call_len_seq rfl z_len PySem.boot_len (pa_cons (pv 0) pa_nil)) (nomark _)))))
        (pss_one (ps_raise T rfl er.x_NoMeasure rfl (pa_cons pe_str pa_nil)))
        pss_nil)))), ?_⟩
  have no : ¬ GdMo ls lp → 1 ≤ sizeLine ∧ E (.ref c_NoMeasure) none H := fun n => ⟨by decide, qe n _ (Same.refl _)⟩
  walk_at "rdx"
  refine ⟨l, _, rfl, .inl hS, ?_⟩
  rw [List.length_map]
  walk_at "rdx"
  by_cases c1 : (ls.length : Int) < 1
  · refine iteD c1 (iteT ?_)
    walk_at "rdx"
    exact no fun g => by have := g.l0; omega
  refine iteN c1 ?_
  walk_at "rdx"
  refine ⟨l, _, rfl, .inl hS, ?_⟩
  rw [List.length_map]
  walk_at "rdx"
  by_cases c2 : 20 < (ls.length : Int)
  · refine iteD c2 ?_
    walk_at "rdx"
    exact no fun g => by have := g.l1; omega
  refine iteN c2 ?_
  have ne : ls ≠ [] := fun z => by rw [z] at c1; simp at c1
  walk_at "rdx"
  refine ⟨l, ls, rfl, hS, ne, fun m hm hle => ?_⟩
  walk_at "rdx"
  by_cases c3 : m < 0
  · refine iteD c3 (iteT ?_)
    walk_at "rdx"
    exact no fun g => by have := g.m m hm; omega
  refine iteN c3 ?_
  walk_at "rdx"
  refine ⟨l, ls, rfl, hS, ne, fun m' hm' hge => ?_⟩
  walk_at "rdx"
  by_cases c4 : 1000 < m'
  · refine iteD c4 ?_
    walk_at "rdx"
    exact no fun g => by have := g.m m' hm'; omega
  refine iteN c4 ?_
  walk_at "rdx"
  by_cases c5 : lp < 1
  · refine iteD c5 (iteT ?_)
    walk_at "rdx"
    exact no fun g => by have := g.p0; omega
  refine iteN c5 ?_
  walk_at "rdx"
  refine ⟨l, _, rfl, .inl hS, ?_⟩
  rw [List.length_map]
  walk_at "rdx"
  by_cases c6 : (ls.length : Int) < lp
  · refine iteD c6 ?_
    walk_at "rdx"
    exact no fun g => by have := g.p1; omega
  refine iteN c6 ?_
  walk_at "rdx"
  exact q ⟨by omega, by omega, fun n hn => ⟨by have := hle n hn; omega, by have := hge n hn; omega⟩, by omega, by omega⟩
theorem sc_Sun___init__ : FnScope ["self", "start", "lengths", "leap", "terms"] ["self", "start", "lengths", "leap", "terms"] (defScope s_Sun___init__) := ⟨rfl, rfl, rfl, by decide +kernel, rfl, by decide +kernel, by decide +kernel⟩
theorem ok_Sun___init__ {f : Addr} {fd : FuncData} {ds : Array Value} (F : FunD K "__init__" "Sun.__init__" s_Sun___init__ f fd ds) (er : Errs K mg c_FeastError c_NoNumber c_NoMeasure c_NoText c_Measure c_Calendar c_Sun c_Moon) (c_refuse_months : CalE P w K mg base 1 "refuse_months" ["lengths", "leap"] (spRefMoE K c_NoMeasure)) (c_Measure___init__ : CalI P w K mg base (CX1 P w) 5 "Measure" c_Measure ["self", "base", "terms"] (spInitME K c_Measure c_NoMeasure)) (c_least_length : Cal P w K mg base 1 "least_length" ["base", "terms"] (spLeastU K)) (z_tuple : mg "tuple" = none) (z_sum : mg "sum" = none) : FnOk P w K mg base (CX1 P w) 7 f fd ["self", "start", "lengths", "leap", "terms"] (spInitSE K c_Sun c_Measure c_NoMeasure) := by
  refine F.okE (k := 6) sc_Sun___init__ (fun vs H Q E h => ?_) (fun cdv A outer s H vs Q E hr h T => ?_)
  · obtain ⟨x, dx, ll, s, lp, v, ls, us, ts, rfl, _⟩ := h
    rfl
  obtain ⟨x, dx, ll, s, lp, v, ls, us, ts, rfl, hx, hl, hT, hv, few9, bs, q, qe⟩ := h
  have lx : ll ≠ x := ne_of hl hx (by intro z; cases z)
  refine ⟨_, (pss_cons (ps_expr (pe_calE T c_refuse_months (hr.mono (by decide)) rfl (pa_cons (pv 2) (pa_cons (pv 3) pa_nil))))
      (pss_cons (ps_fld (pv 0) (pv 1) (by rfl))
      (pss_cons (ps_fld (pv 0) (pe_callTy call_tuple_of rfl z_tuple PyProof.Rows.boot_tuple (pa_cons (pv 2) pa_nil)) (by rfl))
      (pss_cons (ps_fld (pv 0) (pv 3) (by rfl))
      (pss_cons (ps_fld (pv 0) (pe_mkE T c_Measure___init__ (hr.mono (by decide)) rfl (pa_cons (pe_callB (call_sum rfl) rfl z_sum PyProof.Rows.boot_sum (pa_cons (pv 2) pa_nil)) (pa_cons (pv 4) pa_nil))) (by rfl))
      (pss_cons (ps_if (pt_cmpR op_lt (pe_cal c_least_length (hr.mono (by decide)) rfl (pa_cons (pe_ix ix_list (pv 2) (pe_op op_sub (pv 3) pe_int) (fun _ _ => rfl)) (pa_cons (pe_fld (pe_fld (pv 0) (by rfl)) (by rfl)) pa_nil))) pe_int (nomark _))
        (pss_one (ps_raise T rfl er.x_NoMeasure rfl (pa_cons pe_str pa_nil)))
        pss_nil)
      (pss_one (ps_if (pt_cmpR op_lt (pe_cal c_least_length (hr.mono (by decide)) rfl (pa_cons (pe_fld (pe_fld (pv 0) (by rfl)) (by rfl)) (pa_cons (pe_fld (pe_fld (pv 0) (by rfl)) (by rfl)) pa_nil))) pe_int (nomark _))
        (pss_one (ps_raise T rfl er.x_NoMeasure rfl (pa_cons pe_str pa_nil)))
        pss_nil)))))))), ?_⟩
  walk_at "rdx"
  refine ⟨ll, lp, ls, rfl, SqL.of hl, fun g => ?_, fun n H' s' => qe (fun z => n z.gd) _ fun y o _ e => s' y o e⟩
  have l0 := g.l0
  have l1 := g.l1
  have p0 := g.p0
  have p1 := g.p1
  walk_at "rdx"
  refine ⟨x, c_Sun, dx, [], rfl, hx, er.cl_Sun, er.na_Sun_start, by decide, ?_⟩
  have k1 : But x H (upd H x (.ins c_Sun dx (putF (Str.ofString "start") (.int s) []))) := But.upd
  have x1 : upd H x (.ins c_Sun dx (putF (Str.ofString "start") (.int s) [])) x = some (.ins c_Sun dx [(Str.ofString "start", .int s)]) := upd_same
  generalize upd H x (.ins c_Sun dx (putF (Str.ofString "start") (.int s) [])) = H1 at k1 x1 ⊢
  walk_at "rdx"
  refine ⟨ll, _, rfl, .inl ⟨SqL.of (k1 _ _ lx hl), fun p hp => ?_⟩⟩
  have px : x ≠ p := ne_of_none x1 hp
  walk_at "rdx"
  refine ⟨x, c_Sun, dx, _, rfl, by rw [upd_ne px]; exact x1, er.cl_Sun, er.na_Sun_months, (by show 1 < 1000; decide), ?_⟩
  have k2 : But x H1 (upd (upd H1 p (.tup (ls.map V.int))) x (.ins c_Sun dx (putF (Str.ofString "months") (.ref p) [(Str.ofString "start", .int s)]))) := fun y o hy h => by
    rw [upd_ne hy]
    exact same_new hp _ _ _ h
  have x2 : upd (upd H1 p (.tup (ls.map V.int))) x (.ins c_Sun dx (putF (Str.ofString "months") (.ref p) [(Str.ofString "start", .int s)])) x = some (.ins c_Sun dx [(Str.ofString "start", .int s), (Str.ofString "months", .ref p)]) := upd_same
  have t2 : upd (upd H1 p (.tup (ls.map V.int))) x (.ins c_Sun dx (putF (Str.ofString "months") (.ref p) [(Str.ofString "start", .int s)])) p = some (.tup (ls.map V.int)) := by rw [upd_ne (Ne.symm px), upd_same]
  generalize upd (upd H1 p (.tup (ls.map V.int))) x (.ins c_Sun dx (putF (Str.ofString "months") (.ref p) [(Str.ofString "start", .int s)])) = H2 at k2 x2 t2 ⊢
  walk_at "rdx"
  refine ⟨x, c_Sun, dx, _, rfl, x2, er.cl_Sun, er.na_Sun_leap, (by show 2 < 1000; decide), ?_⟩
  have k3 : But x H2 (upd H2 x (.ins c_Sun dx (putF (Str.ofString "leap") (.int lp) [(Str.ofString "start", .int s), (Str.ofString "months", .ref p)]))) := But.upd
  have x3 : upd H2 x (.ins c_Sun dx (putF (Str.ofString "leap") (.int lp) [(Str.ofString "start", .int s), (Str.ofString "months", .ref p)])) x = some (.ins c_Sun dx [(Str.ofString "start", .int s), (Str.ofString "months", .ref p), (Str.ofString "leap", .int lp)]) := upd_same
  generalize upd H2 x (.ins c_Sun dx (putF (Str.ofString "leap") (.int lp) [(Str.ofString "start", .int s), (Str.ofString "months", .ref p)])) = H3 at k3 x3 ⊢
  have k03 : But x H H3 := fun y o hy h => k3 y o hy (k2 y o hy (k1 y o hy h))
  have l3 := k03 _ _ lx hl
  have t3 := k3 _ _ (Ne.symm px) t2
  walk_at "rdx"
  refine ⟨ll, ls, rfl, SqL.of l3, ?_⟩
  walk_at "rdx"
  refine fun y dy hy hdy ne => init_meE hy hdy (hT.but hx .ins k03) (hv.but hx k03) few9 (fun im H4 s4 M4 => ⟨rfl, ?_⟩) (fun im H4 s4 => qe (fun z => im z.isM) _ fun y o hy e => s4 _ _ (k03 y o hy e))
  have x4 := s4 _ _ x3
  have yx : y ≠ x := fun e => by subst e; rw [x3] at hy; cases hy
  walk_at "rdx"
  refine ⟨x, c_Sun, dx, _, rfl, x4, er.cl_Sun, er.na_Sun_years, (by show 3 < 1000; decide), ?_⟩
  have k5 : But x H4 (upd H4 x (.ins c_Sun dx (putF (Str.ofString "years") (.ref y) [(Str.ofString "start", .int s), (Str.ofString "months", .ref p), (Str.ofString "leap", .int lp)]))) := But.upd
  have x5 : upd H4 x (.ins c_Sun dx (putF (Str.ofString "years") (.ref y) [(Str.ofString "start", .int s), (Str.ofString "months", .ref p), (Str.ofString "leap", .int lp)])) x = some (.ins c_Sun dx (sF s lp p y)) := upd_same
  generalize upd H4 x (.ins c_Sun dx (putF (Str.ofString "years") (.ref y) [(Str.ofString "start", .int s), (Str.ofString "months", .ref p), (Str.ofString "leap", .int lp)])) = H5 at k5 x5 ⊢
  have M5 := M4.butX x4 .ins yx k5
  have t5 := k5 _ _ (Ne.symm px) (s4 _ _ t3)
  have l5 := k5 _ _ lx (s4 _ _ l3)
  have k05 : ∀ y o, y ≠ x → H y = some o → H5 y = some o := fun y o hy h => k5 y o hy (s4 _ _ (k03 y o hy h))
  obtain ⟨d5, tp, e5, T5⟩ := M5.ex
  have elp : lp - 1 = (((lp - 1).toNat : Nat) : Int) := by omega
  have hat : atI (ls.map V.int) (lp - 1) = some (V.int (ls.getD (lp - 1).toNat 0)) := by
    conv => lhs; rw [elp]
    refine atI_nat ?_
    rw [List.getElem?_map, List.getD_eq_getElem?_getD, List.getElem?_eq_getElem (by omega)]
    rfl
  walk_at "rdx"
  refine rd_ixL (SqL.of l5) hat ?_
  walk_at "rdx"
  refine ⟨x, c_Sun, dx, _, _, rfl, x5, er.cl_Sun, er.na_Sun_years, rfl, ?_⟩
  walk_at "rdx"
  refine ⟨y, c_Measure, d5, _, _, rfl, e5, er.cl_Measure, er.na_Measure_terms, rfl, ?_⟩
  walk_at "rdx"
  refine ⟨tp, _, ts, rfl, T5.toU, fun H6 s6 => ?_⟩
  walk_at "rdx"
  by_cases f0 : ls.getD (lp - 1).toNat 0 - falls ts < 0
  · refine iteD f0 ?_
    walk_at "rdx"
    exact ⟨(by show 1 ≤ sizeLine; decide), qe (fun z => by have := z.f0; omega) _ fun y o hy e => s6 _ _ (k05 y o hy e)⟩
  refine iteN f0 ?_
  walk_at "rdx"
  have x6 := s6 _ _ x5
  have e6 := s6 _ _ e5
  refine ⟨x, c_Sun, dx, _, _, rfl, x6, er.cl_Sun, er.na_Sun_years, rfl, ?_⟩
  walk_at "rdx"
  refine ⟨y, c_Measure, d5, _, _, rfl, e6, er.cl_Measure, er.na_Measure_base, rfl, ?_⟩
  walk_at "rdx"
  refine ⟨x, c_Sun, dx, _, _, rfl, x6, er.cl_Sun, er.na_Sun_years, rfl, ?_⟩
  walk_at "rdx"
  refine ⟨y, c_Measure, d5, _, _, rfl, e6, er.cl_Measure, er.na_Measure_terms, rfl, ?_⟩
  walk_at "rdx"
  refine ⟨tp, _, ts, rfl, (T5.same s6).toU, fun H7 s7 => ?_⟩
  walk_at "rdx"
  by_cases f1 : ls.sum - falls ts < 1
  · refine iteD f1 ?_
    walk_at "rdx"
    exact ⟨(by show 1 ≤ sizeLine; decide), qe (fun z => by have := z.f1; omega) _ fun y o hy e => s7 _ _ (s6 _ _ (k05 y o hy e))⟩
  refine iteN f1 ?_
  walk_at "rdx"
  have gg : GoodS ls lp ts := ⟨l0, l1, g.m, p0, p1, by omega, by omega, im.ok, im.few⟩
  exact q gg _ (fun y o hy e => s7 _ _ (s6 _ _ (k05 y o hy e))) ⟨⟨dx, p, y, s7 _ _ x6, SqT.of (s7 _ _ (s6 _ _ t5)), (M5.same s6).same s7⟩, gg, bs⟩
theorem sc_refuse_part : FnScope ["measure", "greatest"] ["measure", "greatest"] (defScope s_refuse_part) := ⟨rfl, rfl, rfl, by decide +kernel, rfl, by decide +kernel, by decide +kernel⟩
theorem ok_refuse_part {f : Addr} {fd : FuncData} (F : Fun K "refuse_part" "refuse_part" s_refuse_part f fd) (er : Errs K mg c_FeastError c_NoNumber c_NoMeasure c_NoText c_Measure c_Calendar c_Sun c_Moon) (c_least_length : Cal P w K mg base 1 "least_length" ["base", "terms"] (spLeastU K)) : FnOk P w K mg base (CX1 P w) 2 f fd ["measure", "greatest"] (spRefPtE K c_Measure c_NoMeasure) := by
  refine F.okE (k := 1) sc_refuse_part (fun vs H Q E h => ?_) (fun cdv A outer s H vs Q E hr h T => ?_)
  · obtain ⟨y, b, g, ts, rfl, _⟩ := h
    rfl
  obtain ⟨y, b, g, ts, rfl, M, q, qe⟩ := h
  obtain ⟨d, p, e, TT⟩ := M.ex
  refine ⟨_, (pss_cons (ps_if (pt_cmpR op_lt (pe_cal c_least_length (hr.mono (by decide)) rfl (pa_cons (pe_fld (pv 0) (by rfl)) (pa_cons (pe_fld (pv 0) (by rfl)) pa_nil))) pe_int (nomark _))
        (pss_one (ps_raise T rfl er.x_NoMeasure rfl (pa_cons pe_str pa_nil)))
        pss_nil)
      (pss_one (ps_if (pt_cmpR op_gt (pe_fld (pv 0) (by rfl)) (pv 1) (nomark _))
        (pss_one (ps_raise T rfl er.x_NoMeasure rfl (pa_cons pe_str pa_nil)))
        pss_nil))), ?_⟩
  walk_at "rdx"
  refine ⟨y, c_Measure, d, _, _, rfl, e, er.cl_Measure, er.na_Measure_base, rfl, ?_⟩
  walk_at "rdx"
  refine ⟨y, c_Measure, d, _, _, rfl, e, er.cl_Measure, er.na_Measure_terms, rfl, ?_⟩
  walk_at "rdx"
  refine ⟨p, _, ts, rfl, TT.toU, fun H1 s1 => ?_⟩
  walk_at "rdx"
  by_cases c1 : b - falls ts < 1
  · refine iteD c1 ?_
    walk_at "rdx"
    exact ⟨(by show 1 ≤ sizeLine; decide), qe (fun z => by have := z.f; omega) _ s1⟩
  refine iteN c1 ?_
  walk_at "rdx"
  refine ⟨y, c_Measure, d, _, _, rfl, s1 _ _ e, er.cl_Measure, er.na_Measure_base, rfl, ?_⟩
  walk_at "rdx"
  by_cases c2 : g < b
  · refine iteD c2 ?_
    walk_at "rdx"
    exact ⟨(by show 1 ≤ sizeLine; decide), qe (fun z => by have := z.g; omega) _ s1⟩
  refine iteN c2 ?_
  walk_at "rdx"
  exact q ⟨by omega, by omega⟩ _ s1
theorem sc_Moon___init__ : FnScope ["self", "start", "days", "many"] ["self", "start", "days", "many"] (defScope s_Moon___init__) := ⟨rfl, rfl, rfl, by decide +kernel, rfl, by decide +kernel, by decide +kernel⟩
theorem ok_Moon___init__ {f : Addr} {fd : FuncData} (F : Fun K "__init__" "Moon.__init__" s_Moon___init__ f fd) (er : Errs K mg c_FeastError c_NoNumber c_NoMeasure c_NoText c_Measure c_Calendar c_Sun c_Moon) (c_refuse_part : CalE P w K mg base 2 "refuse_part" ["measure", "greatest"] (spRefPtE K c_Measure c_NoMeasure)) {tk_LONGEST_MONTH : Tok} (m_LONGEST_MONTH : mg "LONGEST_MONTH" = some (.int 1000 tk_LONGEST_MONTH)) {tk_MOST_MONTHS : Tok} (m_MOST_MONTHS : mg "MOST_MONTHS" = some (.int 20 tk_MOST_MONTHS)) : FnOk P w K mg base (CX1 P w) 3 f fd ["self", "start", "days", "many"] (spInitMoE K c_Moon c_Measure c_NoMeasure) := by
  refine F.okE (k := 2) sc_Moon___init__ (fun vs H Q E h => ?_) (fun cdv A outer s H vs Q E hr h T => ?_)
  · obtain ⟨x, dx, d, m, s, bd, bm, td, tm, rfl, _⟩ := h
    rfl
  obtain ⟨x, dx, d, m, s, bd, bm, td, tm, rfl, hx, hd, hm, bs, q, qe⟩ := h
  refine ⟨_, (pss_cons (ps_expr (pe_calE T c_refuse_part (hr.mono (by decide)) rfl (pa_cons (pv 2) (pa_cons (pe_glob rfl m_LONGEST_MONTH (rel_int _ _)) pa_nil))))
      (pss_cons (ps_expr (pe_calE T c_refuse_part (hr.mono (by decide)) rfl (pa_cons (pv 3) (pa_cons (pe_glob rfl m_MOST_MONTHS (rel_int _ _)) pa_nil))))
      (pss_cons (ps_fld (pv 0) (pv 1) (by rfl))
      (pss_cons (ps_fld (pv 0) (pv 2) (by rfl))
      (pss_one (ps_fld (pv 0) (pv 3) (by rfl))))))), ?_⟩
  walk_at "rdx"
  refine ⟨d, bd, _, td, rfl, hd, fun g1 H0 s0 => ?_, fun n H' s' => qe (fun z => n ⟨z.fd, z.gd⟩) _ fun y o _ e => s' y o e⟩
  walk_at "rdx"
  refine ⟨m, bm, _, tm, rfl, hm.same s0, fun g2 H9 s9 => ?_, fun n H' s' => qe (fun z => n ⟨z.fm, z.gm⟩) _ fun y o _ e => s' y o (s0 y o e)⟩
  have s09 := s0.trans s9
  have hx := s09 _ _ hx
  have hd := hd.same s09
  have hm := hm.same s09
  have dnx : d ≠ x := by
    obtain ⟨_, _, e, _⟩ := hd.ex
    exact ne_of e hx (by intro z; injection z with _ _ z; cases z)
  have mnx : m ≠ x := by
    obtain ⟨_, _, e, _⟩ := hm.ex
    exact ne_of e hx (by intro z; injection z with _ _ z; cases z)
  walk_at "rdx"
  refine ⟨x, c_Moon, dx, [], rfl, hx, er.cl_Moon, er.na_Moon_start, by decide, ?_⟩
  have k1 : But x H9 (upd H9 x (.ins c_Moon dx (putF (Str.ofString "start") (.int s) []))) := But.upd
  have x1 : upd H9 x (.ins c_Moon dx (putF (Str.ofString "start") (.int s) [])) x = some (.ins c_Moon dx [(Str.ofString "start", .int s)]) := upd_same
  generalize upd H9 x (.ins c_Moon dx (putF (Str.ofString "start") (.int s) [])) = H1 at k1 x1 ⊢
  walk_at "rdx"
  refine ⟨x, c_Moon, dx, _, rfl, x1, er.cl_Moon, er.na_Moon_days, (by show 1 < 1000; decide), ?_⟩
  have k2 : But x H1 (upd H1 x (.ins c_Moon dx (putF (Str.ofString "days") (.ref d) [(Str.ofString "start", .int s)]))) := But.upd
  have x2 : upd H1 x (.ins c_Moon dx (putF (Str.ofString "days") (.ref d) [(Str.ofString "start", .int s)])) x = some (.ins c_Moon dx [(Str.ofString "start", .int s), (Str.ofString "days", .ref d)]) := upd_same
  generalize upd H1 x (.ins c_Moon dx (putF (Str.ofString "days") (.ref d) [(Str.ofString "start", .int s)])) = H2 at k2 x2 ⊢
  walk_at "rdx"
  refine ⟨x, c_Moon, dx, _, rfl, x2, er.cl_Moon, er.na_Moon_many, (by show 2 < 1000; decide), ?_⟩
  have k3 : But x H2 (upd H2 x (.ins c_Moon dx (putF (Str.ofString "many") (.ref m) [(Str.ofString "start", .int s), (Str.ofString "days", .ref d)]))) := But.upd
  have x3 : upd H2 x (.ins c_Moon dx (putF (Str.ofString "many") (.ref m) [(Str.ofString "start", .int s), (Str.ofString "days", .ref d)])) x = some (.ins c_Moon dx (moF s d m)) := upd_same
  generalize upd H2 x (.ins c_Moon dx (putF (Str.ofString "many") (.ref m) [(Str.ofString "start", .int s), (Str.ofString "days", .ref d)])) = H3 at k3 x3 ⊢
  have k03 : But x H9 H3 := fun y o hy h => k3 y o hy (k2 y o hy (k1 y o hy h))
  walk_at "rdx"
  have gg : GoodMo bd td bm tm := ⟨g1.f, g1.g, g2.f, g2.g, hd.isM.1, hm.isM.1, hd.isM.2, hm.isM.2⟩
  exact q gg _ (fun y o hy h => k03 y o hy (s09 _ _ h)) ⟨⟨dx, d, m, x3, hd.butX hx .ins dnx k03, hm.butX hx .ins mnx k03⟩, gg, bs⟩
theorem sc_is_number : FnScope ["text", "figures"] ["text"] (defScope s_is_number) := ⟨rfl, rfl, rfl, by decide +kernel, rfl, by decide +kernel, by decide +kernel⟩
theorem ok_is_number {f : Addr} {fd : FuncData} (F : Fun K "is_number" "is_number" s_is_number f fd) (z_len : mg "len" = none) (z_all : mg "all" = none) {tk_MOST_FIGURES : Tok} (m_MOST_FIGURES : mg "MOST_FIGURES" = some (.int 60 tk_MOST_FIGURES)) {tk_FIGURES : Tok} (m_FIGURES : mg "FIGURES" = some (.str "0123456789" tk_FIGURES)) : FnOk P w K mg base CX0 1 f fd ["text"] spIsNum := by
  refine F.ok (k := 0) sc_is_number (fun vs H Q E h => ?_) (fun cdv A outer s H vs Q E hr h => ?_)
  · obtain ⟨z, rfl, _⟩ := h
    rfl
  obtain ⟨z, rfl, hz, q⟩ := h
  refine ⟨_, (pss_cons (ps_set (i := 1) sc_is_number.nd rfl (by first | exact Or.inl rfl | exact Or.inr rfl) (pe_ifExp (pt_val (pe_bm PySem.F.plainAttrs_str PySem.F.slot_str_startswith PySem.F.type_str_startswith mt_startswith (pv 0) (pa_cons pe_str pa_nil))) (pe_slice sl_str (pv 0) (po_some pe_int) po_none) (pv 0)))
      (pss_cons (ps_if (PW.pt (pw_or (pt_cmpR op_lt (pe_callB call_len_str rfl z_len PySem.boot_len (pa_cons (pv 1) pa_nil)) pe_int (nomark _)) (pw_or1 (pt_cmpR op_gt (pe_callB call_len_str rfl z_len PySem.boot_len (pa_cons (pv 1) pa_nil)) (pe_glob rfl m_MOST_FIGURES (rel_int _ _)) (nomark _)))))
        (pss_one (ps_ret pe_bl))
        pss_nil)
      (pss_cons (ps_if (pt_cmpR op_eq (pe_ix ix_str (pv 1) pe_int (fun _ _ => rfl)) pe_str (nomark _))
        (pss_one (ps_ret (pe_cmpR op_eq (pv 0) pe_str (nomark _))))
        pss_nil)
      (pss_one (ps_ret (pe_callB (call_all rfl) rfl z_all PyProof.Rows.boot_all (pa_cons (pe_comp rfl (compOk_nil ["text", "figures"] rfl (by decide +kernel) rfl (by decide +kernel) rfl (by decide +kernel) (by decide +kernel)) (pi_str (pv 1)) (fun _ _ _ _ => pifs_nil) (fun _ _ _ _ => (pe_cmpR op_in_str (pv 0) (pe_glob rfl m_FIGURES (rel_str _ _)) (by rfl)))) pa_nil))))))), ?_⟩
  walk_at "rdx"
  refine ⟨_, rfl, rfl, ?_⟩
  walk_at "rdx"
  refine ⟨z, _, rfl, rfl, ?_⟩
  rw [starts_minus (.inr trivial)]
  walk_at "rdx"
  refine ite2d (fun hm => ?_) (fun hm => ?_)
  · walk_at "rdx"
    have l1 : 1 ≤ z.length := by
      rw [← len_cpl]
      cases h : cpl z with
      | nil => rw [h] at hm; cases hm
      | cons a r => simp
    refine ⟨z, rfl, hz.fit, ?_⟩
    have hy : TOk (Txt.slice z (some 1) none) := hz.slice _ _
    have ey : cpl (Txt.slice z (some 1) none) = figs (cpl z) := by
      rw [slice_from1 l1]
      unfold figs
      rw [if_pos hm]
    generalize Txt.slice z (some 1) none = y at hy ey ⊢
    walk_at "rdx"
    have fy := hy.fit
    have yl : (cpl y).length = y.length := len_cpl _
    refine ⟨_, rfl, fy, ?_⟩
    walk_at "rdx"
    refine ite2d (fun l1 => iteT ?_) (fun l1 => ?_)
    · walk_at "rdx"
      refine q _ _ (Same.refl _) ⟨(fun e => nomatch e), fun N => ?_⟩
      have := N.lo
      rw [← ey] at this
      omega
    walk_at "rdx"
    refine ⟨_, rfl, fy, ?_⟩
    walk_at "rdx"
    refine ite2d (fun l2 => ?_) (fun l2 => ?_)
    · walk_at "rdx"
      refine q _ _ (Same.refl _) ⟨(fun e => nomatch e), fun N => ?_⟩
      have := N.hi
      rw [← ey] at this
      omega
    walk_at "rdx"
    obtain ⟨c0, r0, ec⟩ : ∃ c r, cpl y = c :: r := by
      cases h : cpl y with
      | nil => rw [h] at yl; simp at yl; omega
      | cons c r => exact ⟨c, r, rfl⟩
    refine ⟨_, 0, c0, rfl, rfl, fy, by rw [show y.cps.toList = c0 :: r0 from ec]; exact atI_nat (j := 0) rfl, ?_⟩
    walk_at "rdx"
    refine ite2d (fun e0 => ?_) (fun e0 => ?_)
    · walk_at "rdx"
      have c48 : c0 = 48 := by
        have e1 : (⟨#[c0]⟩ : Str) = Str.ofString "0" := V.str.inj e0
        have e2 : cpl (⟨#[c0]⟩ : Str) = cpl (Str.ofString "0") := congrArg cpl e1
        have e3 : cpl (Str.ofString "0") = [48] := by decide +kernel
        rw [e3] at e2
        injection e2
      refine q _ _ (Same.refl _) ?_
      rw [decide_eq_true_eq]
      have e3 : cpl (Str.ofString "0") = [48] := by decide +kernel
      constructor
      · intro e
        have ez : cpl z = [48] := by rw [V.str.inj e, e3]
        refine ⟨?_, ?_, ?_, ?_⟩ <;> rw [ez] <;> simp [figs]
      · intro N
        have := N.z0 (by rw [← ey, ec, c48]; rfl)
        exact congrArg V.str (str_ext (by rw [this, e3]))
    walk_at "rdx"
    refine rd_comp (rd_iS ?_)
    walk_at "rdx"
    refine ⟨_, rfl, hy.asc, ?_⟩
    refine comp_go walk_s ?_ (fun _ _ _ => trivial) (fun _ => true) (fun v => match v with | .str y => .bl (decide (48 ≤ (cpl y).headD 0 ∧ (cpl y).headD 0 ≤ 57)) | _ => .non) (fun x hx D ys Q' hD h => h) (fun x hx _ D ys Q' hD h => ?_) (fun D hD => ?_)
    · rw [List.length_map]
      exact small1000 (by have : y.cps.toList.length = y.length := yl; omega)
    · obtain ⟨c, hc, rfl⟩ := List.mem_map.mp hx
      walk_at "rdx"
      refine ⟨_, _, rfl, rfl, ?_⟩
      rw [in_dig]
      exact h
    have e : ((y.cps.toList.map signV).filter fun _ => true).map (fun v => match v with | .str y => V.bl (decide (48 ≤ (cpl y).headD 0 ∧ (cpl y).headD 0 ≤ 57)) | _ => .non) = ((cpl y).map fun c => decide (48 ≤ c ∧ c ≤ 57)).map V.bl := by
      rw [List.filter_eq_self.mpr (fun _ _ => rfl), List.map_map, List.map_map]
      rfl
    rw [e]
    walk_at "rdx"
    refine ⟨D, _, rfl, SqL.of upd_same, ?_⟩
    refine q _ _ (same_new hD _) ?_
    rw [List.all_map, List.all_eq_true]
    constructor
    · intro h
      refine ⟨by rw [← ey]; omega, by rw [← ey]; omega, fun c hc => ?_, fun h0 => ?_⟩
      · rw [← ey] at hc
        simpa using h c hc
      · rw [← ey, ec] at h0
        injection h0 with h0
        subst h0
        exact absurd (by congr) e0
    · intro N c hc
      have := N.dg c (by rw [← ey]; exact hc)
      simpa using this
  · walk_at "rdx"
    have hy := hz
    have ey : cpl z = figs (cpl z) := by
      unfold figs
      rw [if_neg hm]
    have fy := hy.fit
    have yl : (cpl z).length = z.length := len_cpl _
    refine ⟨_, rfl, fy, ?_⟩
    walk_at "rdx"
    refine ite2d (fun l1 => iteT ?_) (fun l1 => ?_)
    · walk_at "rdx"
      refine q _ _ (Same.refl _) ⟨(fun e => nomatch e), fun N => ?_⟩
      have := N.lo
      rw [← ey] at this
      omega
    walk_at "rdx"
    refine ⟨_, rfl, fy, ?_⟩
    walk_at "rdx"
    refine ite2d (fun l2 => ?_) (fun l2 => ?_)
    · walk_at "rdx"
      refine q _ _ (Same.refl _) ⟨(fun e => nomatch e), fun N => ?_⟩
      have := N.hi
      rw [← ey] at this
      omega
    walk_at "rdx"
    obtain ⟨c0, r0, ec⟩ : ∃ c r, cpl z = c :: r := by
      cases h : cpl z with
      | nil => rw [h] at yl; simp at yl; omega
      | cons c r => exact ⟨c, r, rfl⟩
    refine ⟨_, 0, c0, rfl, rfl, fy, by rw [show z.cps.toList = c0 :: r0 from ec]; exact atI_nat (j := 0) rfl, ?_⟩
    walk_at "rdx"
    refine ite2d (fun e0 => ?_) (fun e0 => ?_)
    · walk_at "rdx"
      have c48 : c0 = 48 := by
        have e1 : (⟨#[c0]⟩ : Str) = Str.ofString "0" := V.str.inj e0
        have e2 : cpl (⟨#[c0]⟩ : Str) = cpl (Str.ofString "0") := congrArg cpl e1
        have e3 : cpl (Str.ofString "0") = [48] := by decide +kernel
        rw [e3] at e2
        injection e2
      refine q _ _ (Same.refl _) ?_
      rw [decide_eq_true_eq]
      have e3 : cpl (Str.ofString "0") = [48] := by decide +kernel
      constructor
      · intro e
        have ez : cpl z = [48] := by rw [V.str.inj e, e3]
        refine ⟨?_, ?_, ?_, ?_⟩ <;> rw [ez] <;> simp [figs]
      · intro N
        have := N.z0 (by rw [← ey, ec, c48]; rfl)
        exact congrArg V.str (str_ext (by rw [this, e3]))
    walk_at "rdx"
    refine rd_comp (rd_iS ?_)
    walk_at "rdx"
    refine ⟨_, rfl, hy.asc, ?_⟩
    refine comp_go walk_s ?_ (fun _ _ _ => trivial) (fun _ => true) (fun v => match v with | .str y => .bl (decide (48 ≤ (cpl y).headD 0 ∧ (cpl y).headD 0 ≤ 57)) | _ => .non) (fun x hx D ys Q' hD h => h) (fun x hx _ D ys Q' hD h => ?_) (fun D hD => ?_)
    · rw [List.length_map]
      exact small1000 (by have : z.cps.toList.length = z.length := yl; omega)
    · obtain ⟨c, hc, rfl⟩ := List.mem_map.mp hx
      walk_at "rdx"
      refine ⟨_, _, rfl, rfl, ?_⟩
      rw [in_dig]
      exact h
    have e : ((z.cps.toList.map signV).filter fun _ => true).map (fun v => match v with | .str y => V.bl (decide (48 ≤ (cpl y).headD 0 ∧ (cpl y).headD 0 ≤ 57)) | _ => .non) = ((cpl z).map fun c => decide (48 ≤ c ∧ c ≤ 57)).map V.bl := by
      rw [List.filter_eq_self.mpr (fun _ _ => rfl), List.map_map, List.map_map]
      rfl
    rw [e]
    walk_at "rdx"
    refine ⟨D, _, rfl, SqL.of upd_same, ?_⟩
    refine q _ _ (same_new hD _) ?_
    rw [List.all_map, List.all_eq_true]
    constructor
    · intro h
      refine ⟨by rw [← ey]; omega, by rw [← ey]; omega, fun c hc => ?_, fun h0 => ?_⟩
      · rw [← ey] at hc
        simpa using h c hc
      · rw [← ey, ec] at h0
        injection h0 with h0
        subst h0
        exact absurd (by congr) e0
    · intro N c hc
      have := N.dg c (by rw [← ey]; exact hc)
      simpa using this
theorem sc_read_number : FnScope ["text"] ["text"] (defScope s_read_number) := ⟨rfl, rfl, rfl, by decide +kernel, rfl, by decide +kernel, by decide +kernel⟩
theorem ok_read_number {f : Addr} {fd : FuncData} (F : Fun K "read_number" "read_number" s_read_number f fd) (er : Errs K mg c_FeastError c_NoNumber c_NoMeasure c_NoText c_Measure c_Calendar c_Sun c_Moon) (c_is_number : Cal P w K mg base 1 "is_number" ["text"] spIsNum) (z_isinstance : mg "isinstance" = none) (z_str : mg "str" = none) (z_int : mg "int" = none) : FnOk P w K mg base (CX1 P w) 2 f fd ["text"] (spReadN c_NoText) := by
  refine F.okE (k := 1) sc_read_number (fun vs H Q E h => ?_) (fun cdv A outer s H vs Q E hr h T => ?_)
  · obtain ⟨v, rfl, _⟩ := h
    rfl
  obtain ⟨v, rfl, hv, q, qe⟩ := h
  refine ⟨_, (pss_cons (ps_if (PW.pt (pw_or (pt_not (pt_val (pe_callB call_isi rfl z_isinstance PyProof.Rows.boot_isinstance (pa_cons (pv 0) (pa_cons (pe_bltn rfl z_str PyProof.Rows.boot_str (rel_ty _)) pa_nil))))) (pw_or1 (pt_not (pt_val (pe_cal c_is_number (hr.mono (by decide)) rfl (pa_cons (pv 0) pa_nil)))))))
        (pss_one (ps_raise T rfl er.x_NoText rfl (pa_cons pe_str pa_nil)))
        pss_nil)
      (pss_one (ps_ret (pe_callTy call_int_text rfl z_int PyProof.Rows.boot_int (pa_cons (pv 0) pa_nil))))), ?_⟩
  walk_at "rdx"
  refine rd_isS hv ?_
  walk_at "rdx"
  cases hv with
  | txt z hz =>
    refine iteF ?_
    walk_at "rdx"
    refine ⟨z, rfl, hz, fun b H1 s1 hb => ?_⟩
    walk_at "rdx"
    cases b with
    | true =>
      refine iteF ?_
      have N := hb.mp rfl
      walk_at "rdx"
      refine ⟨z, _, rfl, ?_, int_reads N, q z _ s1 rfl N⟩
      have := N.hi
      unfold figs at this
      rw [← len_cpl]
      split at this
      · rw [List.length_drop] at this; omega
      · omega
    | false =>
      refine iteT ?_
      walk_at "rdx"
      exact ⟨(by show 1 ≤ sizeLine; decide), qe (fun ⟨y, e, N⟩ => by cases e; exact nomatch (hb.mpr N)) _ s1⟩
  | non =>
    refine iteT ?_
    walk_at "rdx"
    exact ⟨(by show 1 ≤ sizeLine; decide), qe (fun ⟨y, e, _⟩ => nomatch e) _ (Same.refl _)⟩
  | int i =>
    refine iteT ?_
    walk_at "rdx"
    exact ⟨(by show 1 ≤ sizeLine; decide), qe (fun ⟨y, e, _⟩ => nomatch e) _ (Same.refl _)⟩
  | tup a xs e0 =>
    refine iteT ?_
    walk_at "rdx"
    exact ⟨(by show 1 ≤ sizeLine; decide), qe (fun ⟨y, e, _⟩ => nomatch e) _ (Same.refl _)⟩
  | lst a xs e0 =>
    refine iteT ?_
    walk_at "rdx"
    exact ⟨(by show 1 ≤ sizeLine; decide), qe (fun ⟨y, e, _⟩ => nomatch e) _ (Same.refl _)⟩
theorem sc_read_numbers : FnScope ["word"] ["word"] (defScope s_read_numbers) := ⟨rfl, rfl, rfl, by decide +kernel, rfl, by decide +kernel, by decide +kernel⟩
theorem ok_read_numbers {f : Addr} {fd : FuncData} (F : Fun K "read_numbers" "read_numbers" s_read_numbers f fd) (c_read_number : CalE P w K mg base 2 "read_number" ["text"] (spReadN c_NoText)) : FnOk P w K mg base (CX1 P w) 3 f fd ["word"] (spReadNsE K c_NoText) := by
  refine F.okE (k := 2) sc_read_numbers (fun vs H Q E h => ?_) (fun cdv A outer s H vs Q E hr h T => ?_)
  · obtain ⟨z, rfl, _⟩ := h
    rfl
  obtain ⟨z, rfl, hz, q, qe⟩ := h
  have e44 : Str.ofString "," = ⟨#[44]⟩ := by decide +kernel
  refine ⟨_, (pss_one (ps_ret (pe_compE thrN_fn rfl (compOk_nil ["word"] rfl (by decide +kernel) rfl (by decide +kernel) rfl (by decide +kernel) (by decide +kernel)) (pi_list (pe_bm PySem.F.plainAttrs_str PySem.F.slot_str_split PySem.F.type_str_split mt_split (pv 0) (pa_cons pe_str pa_nil))) (fun _ _ _ _ => pifs_nil) (fun _ _ _ _ _ T => (pe_calE T c_read_number (hr.mono (by decide)) rfl (pa_cons (pv 0) pa_nil)))))), ?_⟩
  walk_at "rdx"
  refine rd_comp (rd_iL ?_)
  walk_at "rdx"
  refine rd_bm ?_
  walk_at "rdx"
  refine ⟨rfl, ?_⟩
  walk_at "rdx"
  refine ⟨_, 44, rfl, by rw [e44], by decide, hz.len, fun l hl => ?_⟩
  have s1 := same_new hl (.lst ((splS 44 z).map V.str))
  have t1 : upd H l (.lst ((splS 44 z).map V.str)) l = some (.lst ((splS 44 z).map V.str)) := upd_same
  generalize upd H l (.lst ((splS 44 z).map V.str)) = H1 at s1 t1 ⊢
  have sl : (splS 44 z).length ≤ z.length + 1 := splS_len 44 z
  have zl := hz.len
  have eS : splS 44 z = (spl 44 (cpl z)).map fun p => (⟨p.toArray⟩ : Str) := rfl
  rw [eS] at t1 sl
  rw [List.length_map] at sl
  generalize hps : spl 44 (cpl z) = ps at *
  refine ⟨l, rfl, ⟨_, SqL.of t1⟩, ?_⟩
  refine comp_inv walk_l (by rw [List.length_map, List.length_map, sizeLine_eq]; omega) (fun D i ys H2 => H2 D = some (.lst ys) ∧ Same H1 H2 ∧ ys = ((ps.take i).map numVal).map V.int ∧ ∀ p ∈ ps.take i, IsNum p) (fun D hD => ⟨upd_same, same_new hD _, rfl, fun p hp => by cases hp⟩)
    (fun D i ys H2 _ ⟨h1, h2, h3, _⟩ => ⟨h1, by rw [h3, List.length_map, List.length_map]; exact List.length_take_le _ _, SqL.of (h2 _ _ t1)⟩) (fun D i x ys H2 hD hx ⟨h1, h2, h3, h4⟩ => ?_) (fun D ys H2 hD ⟨h1, h2, h3, h4⟩ => ?_)
  · rw [List.getElem?_map, List.getElem?_map] at hx
    obtain ⟨y, hy, rfl⟩ := Option.map_eq_some_iff.mp hx
    obtain ⟨p, hp, rfl⟩ := Option.map_eq_some_iff.mp hy
    have mem := List.mem_of_getElem? hp
    have tok : TOk (⟨p.toArray⟩ : Str) := hz.part (c := 44) (by rw [hps]; exact mem) (spl_mem 44 (cpl z) p (by rw [hps]; exact mem))
    refine rd_true (iteT ?_)
    walk_at "rdx"
    refine ⟨_, rfl, .txt _ tok, fun z' H3 s3 ez N => ?_, fun nn => ?_⟩
    · cases ez
      refine ⟨s3 _ _ h1, upd_same, same_app hD (h2.trans s3), ?_, ?_⟩
      · rw [List.take_add_one, hp, Option.toList_some, List.map_append, List.map_append, h3]
        rfl
      · intro p' hp'
        rw [List.take_add_one, hp, Option.toList_some] at hp'
        rcases List.mem_append.mp hp' with e | e
        · exact h4 p' e
        · rw [List.mem_singleton.mp e]
          exact N
    · have bad : ¬ ∀ p ∈ ps, IsNum p := fun all => nn ⟨_, rfl, all p mem⟩
      exact fun H3 s3 => qe bad H3 ((s1.trans h2).trans s3)
  · rw [List.length_map, List.length_map, List.take_length] at h3 h4
    subst h3
    exact q h4 D H2 (s1.free hD) (s1.trans h2) h1
theorem sc_read_term : FnScope ["word", "numbers", "sign"] ["word"] (defScope s_read_term) := ⟨rfl, rfl, rfl, by decide +kernel, rfl, by decide +kernel, by decide +kernel⟩
theorem ok_read_term {f : Addr} {fd : FuncData} (F : Fun K "read_term" "read_term" s_read_term f fd) (er : Errs K mg c_FeastError c_NoNumber c_NoMeasure c_NoText c_Measure c_Calendar c_Sun c_Moon) (c_read_numbers : CalE P w K mg base 3 "read_numbers" ["word"] (spReadNsE K c_NoText)) (z_len : mg "len" = none) : FnOk P w K mg base (CX1 P w) 4 f fd ["word"] (spReadTE K c_NoText) := by
  refine F.okE (k := 3) sc_read_term (fun vs H Q E h => ?_) (fun cdv A outer s H vs Q E hr h T => ?_)
  · obtain ⟨z, rfl, _⟩ := h
    rfl
  obtain ⟨z, rfl, hz, q, qe⟩ := h
  have ePlus : Str.ofString "+" = ⟨#[43]⟩ := by decide +kernel
  have eMinus : Str.ofString "-" = ⟨#[45]⟩ := by decide +kernel
  have t1 := slice_to1 z
  have hp : Txt.slice z none (some 1) = ⟨#[43]⟩ ↔ (cpl z).head? = some 43 := by rw [str1_eq, t1, head_take]
  have hm : Txt.slice z none (some 1) = ⟨#[45]⟩ ↔ (cpl z).head? = some 45 := by rw [str1_eq, t1, head_take]
  refine ⟨_, (pss_cons (ps_cut (ps_if (PW.pt (pw_and (pt_cmpR op_ne (pe_slice sl_str (pv 0) po_none (po_some pe_int)) pe_str (nomark _)) (pw_and1 (pt_cmpR op_ne (pe_slice sl_str (pv 0) po_none (po_some pe_int)) pe_str (nomark _)))))
        (pss_one (ps_raise T rfl er.x_NoText rfl (pa_cons pe_str pa_nil)))
        pss_nil))
      (pss_cons (ps_set (i := 1) sc_read_term.nd rfl (by first | exact Or.inl rfl | exact Or.inr rfl) (pe_calE T c_read_numbers (hr.mono (by decide)) rfl (pa_cons (pe_slice sl_str (pv 0) (po_some pe_int) po_none) pa_nil)))
      (pss_cons (ps_if (pt_cmpR op_ne (pe_callB call_len_seq rfl z_len PySem.boot_len (pa_cons (pv 1) pa_nil)) pe_int (nomark _))
        (pss_one (ps_raise T rfl er.x_NoText rfl (pa_cons pe_str pa_nil)))
        pss_nil)
      (pss_cons (ps_cut (ps_set (i := 2) sc_read_term.nd rfl (by first | exact Or.inl rfl | exact Or.inr rfl) (pe_ifExp (pt_cmpR op_eq (pe_ix ix_str (pv 0) pe_int (fun _ _ => rfl)) pe_str (nomark _)) pe_int (pe_un un_neg pe_int))))
      (pss_one (ps_ret (pe_tup (pa_cons (pv 2) (pa_cons (pe_ix ix_list (pv 1) pe_int (fun _ _ => rfl)) (pa_cons (pe_ix ix_list (pv 1) pe_int (fun _ _ => rfl)) (pa_cons (pe_ix ix_list (pv 1) pe_int (fun _ _ => rfl)) pa_nil))))))))))), ?_⟩
  walk_at "rdx"
  refine rd_cut (fun σ' H' => H' = H ∧ σ' = [some (.str z), none, none] ∧ ((cpl z).head? = some 43 ∨ (cpl z).head? = some 45)) ?_ ?_
  · walk_at "rdx"
    refine ⟨z, rfl, hz.fit, ?_⟩
    walk_at "rdx"
    rw [ePlus]
    by_cases c1 : (cpl z).head? = some 43
    · refine iteNS (congrArg V.str (hp.mpr c1)) (iteF ?_)
      walk_at "rdx"
      exact ⟨rfl, rfl, .inl c1⟩
    · refine iteNN (fun y => c1 (hp.mp (V.str.inj y))) ?_
      walk_at "rdx"
      refine ⟨z, rfl, hz.fit, ?_⟩
      walk_at "rdx"
      rw [eMinus]
      by_cases c2 : (cpl z).head? = some 45
      · refine iteNS (congrArg V.str (hm.mpr c2)) ?_
        walk_at "rdx"
        exact ⟨rfl, rfl, .inr c2⟩
      · refine iteNN (fun y => c2 (hm.mp (V.str.inj y))) ?_
        walk_at "rdx"
        exact ⟨(by show 1 ≤ sizeLine; decide), qe (fun T => by rcases T.hd with e | e; exact c1 e; exact c2 e) _ (Same.refl _)⟩
  rintro σ' H ⟨rfl, rfl, hd⟩
  have l1 : 1 ≤ z.length := by
    rw [← len_cpl]
    cases hc : cpl z with
    | nil => rw [hc] at hd; rcases hd with e | e <;> cases e
    | cons a r => simp
  have e2 := slice_from1 l1
  walk_at "rdx"
  refine ⟨z, rfl, hz.fit, ?_⟩
  refine rd_nil ?_
  refine ⟨_, rfl, hz.slice _ _, fun all l H1 hl s1 t1 => ?_, fun bad => ?_⟩
  · rw [e2] at all t1
    have fin : (spl 44 ((cpl z).drop 1)).length = 3 → TermT (cpl z) := fun h => ⟨hd, all, h⟩
    walk_at "rdx"
    refine ⟨l, _, rfl, .inl (SqL.of t1), ?_⟩
    walk_at "rdx"
    rw [List.length_map, List.length_map]
    by_cases c : (spl 44 ((cpl z).drop 1)).length = 3
    · refine iteNS (congrArg V.int (by rw [c]; rfl)) ?_
      have T := fin c
      have q := q T
      obtain ⟨pa, pb, pn, hps⟩ : ∃ a b n, spl 44 ((cpl z).drop 1) = [a, b, n] := by
        match spl 44 ((cpl z).drop 1), c with
        | [a, b, n], _ => exact ⟨a, b, n, rfl⟩
      unfold tmOf at q
      rw [hps] at t1 q
      walk_at "rdx"
      refine rd_cut (fun σ' H' => H' = H1 ∧ σ' = [some (.str z), some (.ref l), some (.int (if (cpl z).head? = some 43 then 1 else -1))]) ?_ ?_
      · walk_at "rdx"
        obtain ⟨a, r, ha⟩ : ∃ a r, cpl z = a :: r := by
          cases hc : cpl z with
          | nil => rw [hc] at hd; rcases hd with e | e <;> cases e
          | cons a r => exact ⟨a, r, rfl⟩
        refine ⟨z, 0, a, rfl, rfl, hz.fit, (by show atI (cpl z) 0 = some a; rw [ha]; exact atI_nat (j := 0) rfl), ?_⟩
        walk_at "rdx"
        rw [ePlus]
        by_cases c3 : (cpl z).head? = some 43
        · have ea : a = 43 := by rw [ha] at c3; exact Option.some.inj c3
          subst ea
          refine iteD rfl ?_
          walk_at "rdx"
          rw [if_pos c3]
          exact ⟨rfl, rfl⟩
        · refine iteN (fun y => c3 ?_) ?_
          · have := congrArg cpl (V.str.inj y)
            have e : [a] = [43] := this
            rw [ha, (List.cons.inj e).1]
            rfl
          · walk_at "rdx"
            rw [if_neg c3]
            exact ⟨rfl, rfl⟩
      rintro σ' H1 ⟨rfl, rfl⟩
      walk_at "rdx"
      refine rd_ixL (SqL.of t1) rfl ?_
      walk_at "rdx"
      refine rd_ixL (SqL.of t1) rfl ?_
      walk_at "rdx"
      refine rd_ixL (SqL.of t1) rfl ?_
      walk_at "rdx"
      refine ⟨(by show 4 ≤ sizeLine; decide), fun p hp' => ?_⟩
      exact q p _ (s1.trans (same_new hp' _)) upd_same
    · refine iteNN (fun y => c (by have := V.int.inj y; omega)) ?_
      walk_at "rdx"
      exact ⟨(by show 1 ≤ sizeLine; decide), qe (fun T => c T.len) _ s1⟩
  · rw [e2] at bad
    exact fun H1 s1 => qe (fun T => bad T.num) H1 s1
theorem sc_term_text : FnScope ["term", "sign", "numbers"] ["term"] (defScope s_term_text) := ⟨rfl, rfl, rfl, by decide +kernel, rfl, by decide +kernel, by decide +kernel⟩
theorem ok_term_text {f : Addr} {fd : FuncData} (F : Fun K "term_text" "term_text" s_term_text f fd) (z_str : mg "str" = none) : FnOk P w K mg base CX0 1 f fd ["term"] (spTermText K) := by
  refine F.ok (k := 0) sc_term_text (fun vs H Q E h => ?_) (fun cdv A outer s H vs Q E hr h => ?_)
  · obtain ⟨p, t, rfl, _⟩ := h
    rfl
  obtain ⟨p, t, rfl, hp, ok, q⟩ := h
  obtain ⟨s1, s2, s3⟩ := okT_sm ok
  have sg := ok.sg
  refine ⟨_, (pss_cons (ps_cut (ps_set (i := 1) sc_term_text.nd rfl (by first | exact Or.inl rfl | exact Or.inr rfl) (pe_ifExp (pt_cmpR op_eq (pe_ix ix_tup (pv 0) pe_int (fun _ _ => rfl)) pe_int (nomark _)) pe_str pe_str)))
      (pss_cons (ps_set (i := 2) sc_term_text.nd rfl (by first | exact Or.inl rfl | exact Or.inr rfl) (pe_bm PySem.F.plainAttrs_str PySem.F.slot_str_join PySem.F.type_str_join mt_join pe_str (pa_cons (pe_comp rfl (compOk_nil ["term", "sign", "numbers"] rfl (by decide +kernel) rfl (by decide +kernel) rfl (by decide +kernel) (by decide +kernel)) (pi_tup (pe_slice sl_tup (pv 0) (po_some pe_int) po_none)) (fun _ _ _ _ => pifs_nil) (fun _ _ _ _ => (pe_callTy call_str_int rfl z_str PyProof.Rows.boot_str (pa_cons (pv 0) pa_nil)))) pa_nil)))
      (pss_one (ps_ret (pe_join (pj_cons (pe_fmt hr.toN (pv 1)) (pj_cons (pe_fmt hr.toN (pv 2)) pj_nil))))))), ?_⟩
  walk_at "rd"
  refine rd_cut (fun σ' H' => H' = H ∧ σ' = [some (.ref p), some (.str (txt [if t.1 = 1 then 43 else 45])), none]) ?_ ?_
  · walk_at "rd"
    refine rd_ifE ?_
    walk_at "rd"
    refine rd_ixT hp at40 ?_
    walk_at "rd"
    by_cases c : t.1 = 1
    · refine iteD (congrArg V.int c) ?_
      walk_at "rd"
      rw [if_pos c]
      exact ⟨rfl, by first | rfl | decide +kernel⟩
    · refine iteN (fun y => c (V.int.inj y)) ?_
      walk_at "rd"
      rw [if_neg c]
      exact ⟨rfl, by first | rfl | decide +kernel⟩
  rintro σ' H ⟨rfl, rfl⟩
  walk_at "rd"
  refine rd_bm ?_
  walk_at "rd"
  refine ⟨rfl, ?_⟩
  walk_at "rd"
  refine rd_comp (rd_iT ?_)
  walk_at "rd"
  refine rd_slT hp (fun z => by cases z.1) fun u hu => ?_
  rw [show cutV (tmV t) (some 1) none = (tmV t).drop 1 from cut_from' (tmV t) 1]
  have sA := same_new hu (.tup ((tmV t).drop 1))
  have tA : upd H u (.tup ((tmV t).drop 1)) u = some (.tup (([t.2.1, t.2.2.1, t.2.2.2] : List Int).map V.int)) := upd_same
  generalize upd H u (.tup ((tmV t).drop 1)) = H1 at sA tA ⊢
  refine ⟨u, rfl, ⟨_, SqT.of tA⟩, ?_⟩
  have sm : ∀ n ∈ ([t.2.1, t.2.2.1, t.2.2.2] : List Int), Sm n := fun n hn => by
    rcases List.mem_cons.mp hn with rfl | hn
    · exact s1
    rcases List.mem_cons.mp hn with rfl | hn
    · exact s2
    · rw [List.mem_singleton.mp hn]
      exact s3
  refine comp_str walk_t (by show 3 ≤ 1000; decide) (fun D ys hD => (same_new hD _).tup (SqT.of tA)) (fun n hn => sm_log (sm n hn)) fun D hD => ?_
  have sB := same_new hD (.lst ((([t.2.1, t.2.2.1, t.2.2.2] : List Int).map intT).map V.str))
  have tB : upd H1 D (.lst ((([t.2.1, t.2.2.1, t.2.2.2] : List Int).map intT).map V.str)) D = some (.lst ((([t.2.1, t.2.2.1, t.2.2.2] : List Int).map intT).map V.str)) := upd_same
  generalize upd H1 D (.lst ((([t.2.1, t.2.2.1, t.2.2.2] : List Int).map intT).map V.str)) = H2 at sB tB ⊢
  refine rd_nil ?_
  have sl := sum_lens (k := 61) (zs := ([t.2.1, t.2.2.1, t.2.2.2] : List Int).map intT) fun z hz => by
    obtain ⟨n, hn, rfl⟩ := List.mem_map.mp hz
    exact intT_lenS (sm n hn)
  refine ⟨_, D, ([t.2.1, t.2.2.1, t.2.2.2] : List Int).map intT, rfl, rfl, SqL.of tB, ?_, ?_⟩
  · have e1 : (Str.ofString ",").length = 1 := by decide +kernel
    rw [e1]
    refine Nat.le_trans (Nat.add_le_add_right sl _) ?_
    show 3 * 61 + 3 * 1 ≤ 16777216
    decide
  rw [join_nums]
  walk_at "rd"
  have w := tmW_len ok
  unfold tmW at w
  rw [List.length_cons] at w
  refine rd_js 0 1 (by decide) (by rw [txt_len]; exact Nat.le_refl 1) (by decide) rfl fun l1 => rd_js _ 187 l1 (by rw [txt_len]; exact Nat.le_trans (Nat.le_of_lt (Nat.lt_of_succ_le w)) (by decide)) (by decide) rfl fun l2 => rd_jnil (fits l2 (by decide)) ?_
  have ef : (Str.empty ++ txt [if t.1 = 1 then 43 else 45] ++ txt (joinC 44 ([t.2.1, t.2.2.1, t.2.2.2].map numT))) = txt (tmW t) := str_ext (by rw [cpl_app, cpl_app]; rfl)
  rw [ef]
  exact q _ (sA.trans sB)
theorem sc_term_words : FnScope ["terms"] ["terms"] (defScope s_term_words) := ⟨rfl, rfl, rfl, by decide +kernel, rfl, by decide +kernel, by decide +kernel⟩
theorem ok_term_words {f : Addr} {fd : FuncData} (F : Fun K "term_words" "term_words" s_term_words f fd) (c_term_text : Cal P w K mg base 1 "term_text" ["term"] (spTermText K)) : FnOk P w K mg base CX0 2 f fd ["terms"] (spTermWords K) := by
  refine F.ok (k := 1) sc_term_words (fun vs H Q E h => ?_) (fun cdv A outer s H vs Q E hr h => ?_)
  · obtain ⟨p, ts, rfl, _⟩ := h
    rfl
  obtain ⟨p, ts, rfl, T, q⟩ := h
  obtain ⟨vs, hp, hT⟩ := T.ex
  have vl := hT.len
  have few := T.few
  refine ⟨_, (pss_one (ps_ret (pe_comp rfl (compOk_nil ["terms"] rfl (by decide +kernel) rfl (by decide +kernel) rfl (by decide +kernel) (by decide +kernel)) (pi_tup (pv 0)) (fun _ _ _ _ => pifs_nil) (fun _ _ _ _ => (pe_cal c_term_text (hr.mono (by decide)) rfl (pa_cons (pv 0) pa_nil)))))), ?_⟩
  walk_at "rd"
  refine rd_comp (rd_iT ?_)
  walk_at "rd"
  refine ⟨p, rfl, ⟨_, hp⟩, ?_⟩
  refine comp_inv walk_t (by rw [vl]; exact small1000 (by omega)) (fun D i ys H2 => H2 D = some (.lst ys) ∧ Same H H2 ∧ ys = wV ((ts.take i).map tmW)) (fun D hD => ⟨upd_same, same_new hD _, rfl⟩)
    (fun D i ys H2 _ ⟨h1, h2, h3⟩ => ⟨h1, by rw [h3, wV_len, List.length_map]; exact List.length_take_le _ _, h2.tup hp⟩) (fun D i x ys H2 hD hx ⟨h1, h2, h3⟩ => ?_) (fun D ys H2 hD ⟨h1, h2, h3⟩ => ?_)
  · obtain ⟨a, t, rfl, ht, ha⟩ := hT.at hx
    refine rd_true (iteT ?_)
    walk_at "rd"
    refine ⟨a, t, rfl, SqT.of (h2 _ _ ha), T.ok t (List.mem_of_getElem? ht), fun H3 s3 => ⟨s3 _ _ h1, upd_same, same_app hD (h2.trans s3), ?_⟩⟩
    rw [List.take_add_one, ht, Option.toList_some, List.map_append, wV_app, h3]
    rfl
  · rw [vl, List.take_length] at h3
    subst h3
    exact q D H2 hD h2 h1
theorem sc_Sun_shown : FnScope ["self", "words"] ["self"] (defScope s_Sun_shown) := ⟨rfl, rfl, rfl, by decide +kernel, rfl, by decide +kernel, by decide +kernel⟩
theorem ok_Sun_shown {f : Addr} {fd : FuncData} (F : Fun K "shown" "Sun.shown" s_Sun_shown f fd) (er : Errs K mg c_FeastError c_NoNumber c_NoMeasure c_NoText c_Measure c_Calendar c_Sun c_Moon) (c_term_words : Cal P w K mg base 2 "term_words" ["terms"] (spTermWords K)) (z_str : mg "str" = none) (z_len : mg "len" = none) : FnOk P w K mg base CX0 3 f fd ["self"] (spShowS K c_Sun c_Measure) := by
  refine F.ok (k := 2) sc_Sun_shown (fun vs H Q E h => ?_) (fun cdv A outer s H vs Q E hr h => ?_)
  · obtain ⟨x, s, ls, lp, ts, rfl, _⟩ := h
    rfl
  obtain ⟨x, s', ls, lp, ts, rfl, S, sm, q⟩ := h
  obtain ⟨dx, p, y, hx, hp, M⟩ := S.ex
  obtain ⟨d2, tp, e2, T2⟩ := M.ex
  have g := S.gd
  have p0 := g.p0
  have p1 := g.p1
  have l1 := g.l1
  have slp : Sm lp := sm_of (by omega) (by omega)
  have lsm := lens_sm g.m
  have jf := join_fit (d := .sun s' ls lp ts) g sm
  refine ⟨_, (pss_cons (ps_set (i := 1) sc_Sun_shown.nd rfl (by first | exact Or.inl rfl | exact Or.inr rfl) (pe_lst (pa_cons pe_str (pa_cons (pe_callTy call_str_int rfl z_str PyProof.Rows.boot_str (pa_cons (pe_fld (pv 0) (by rfl)) pa_nil)) (pa_cons (pe_bm PySem.F.plainAttrs_str PySem.F.slot_str_join PySem.F.type_str_join mt_join pe_str (pa_cons (pe_comp rfl (compOk_nil ["self", "words"] rfl (by decide +kernel) rfl (by decide +kernel) rfl (by decide +kernel) (by decide +kernel)) (pi_tup (pe_fld (pv 0) (by rfl))) (fun _ _ _ _ => pifs_nil) (fun _ _ _ _ => (pe_callTy call_str_int rfl z_str PyProof.Rows.boot_str (pa_cons (pv 0) pa_nil)))) pa_nil)) pa_nil)))))
      (pss_cons (ps_cut (ps_if (pt_cmpR op_gt (pe_callB call_len_seq rfl z_len PySem.boot_len (pa_cons (pe_fld (pe_fld (pv 0) (by rfl)) (by rfl)) pa_nil)) pe_int (nomark _))
        (pss_one (ps_set (i := 1) sc_Sun_shown.nd rfl (by first | exact Or.inl rfl | exact Or.inr rfl) (pe_op op_cat (pe_op op_cat (pv 1) (pe_lst (pa_cons pe_str (pa_cons (pe_callTy call_str_int rfl z_str PyProof.Rows.boot_str (pa_cons (pe_fld (pv 0) (by rfl)) pa_nil)) pa_nil)))) (pe_cal c_term_words (hr.mono (by decide)) rfl (pa_cons (pe_fld (pe_fld (pv 0) (by rfl)) (by rfl)) pa_nil)))))
        pss_nil))
      (pss_one (ps_ret (pe_bm PySem.F.plainAttrs_str PySem.F.slot_str_join PySem.F.type_str_join mt_join pe_str (pa_cons (pv 1) pa_nil)))))), ?_⟩
  walk_at "rd"
  refine ⟨x, c_Sun, dx, _, _, rfl, hx, er.cl_Sun, er.na_Sun_start, rfl, ?_⟩
  walk_at "rd"
  refine ⟨s', rfl, sm_log sm, ?_⟩
  walk_at "rd"
  refine rd_bm ?_
  walk_at "rd"
  refine ⟨rfl, ?_⟩
  walk_at "rd"
  refine rd_comp (rd_iT ?_)
  walk_at "rd"
  refine ⟨x, c_Sun, dx, _, _, rfl, hx, er.cl_Sun, er.na_Sun_months, rfl, ?_⟩
  refine ⟨p, rfl, ⟨_, hp⟩, ?_⟩
  refine comp_str walk_t (by omega) (fun D ys hD => (same_new hD _).tup hp) (fun n hn => sm_log (lsm n hn)) fun D hD => ?_
  have sB := same_new hD (.lst ((ls.map intT).map V.str))
  have tB : upd H D (.lst ((ls.map intT).map V.str)) D = some (.lst ((ls.map intT).map V.str)) := upd_same
  generalize upd H D (.lst ((ls.map intT).map V.str)) = H2 at sB tB ⊢
  refine rd_nil ?_
  have sl := sum_lens (k := 61) (zs := ls.map intT) fun z hz => by
    obtain ⟨n, hn, rfl⟩ := List.mem_map.mp hz
    exact intT_lenS (lsm n hn)
  refine ⟨_, D, ls.map intT, rfl, rfl, SqL.of tB, ?_, ?_⟩
  · have e1 : (Str.ofString ",").length = 1 := by decide +kernel
    rw [e1]
    rw [List.length_map] at sl ⊢
    omega
  rw [join_nums]
  walk_at "rd"
  refine ⟨three, fun l hl => ?_⟩
  have eL : [V.str (Str.ofString "sun"), V.str (Str.ofString (toString s')), V.str (txt (joinC 44 (ls.map numT)))] = wV [[115, 117, 110], numT s', joinC 44 (ls.map numT)] := by
    rw [eSun, eStr]
    rfl
  rw [eL]
  have s3 := same_new hl (.lst (wV [[115, 117, 110], numT s', joinC 44 (ls.map numT)]))
  have t3 : upd H2 l (.lst (wV [[115, 117, 110], numT s', joinC 44 (ls.map numT)])) l = some (.lst (wV [[115, 117, 110], numT s', joinC 44 (ls.map numT)])) := upd_same
  generalize upd H2 l (.lst (wV [[115, 117, 110], numT s', joinC 44 (ls.map numT)])) = H3 at s3 t3 ⊢
  have s03 := sB.trans s3
  walk_at "rd"
  refine rd_cut (fun σ' H' => Same H H' ∧ ∃ l : Addr, σ' = [some (.ref x), some (.ref l)] ∧ H' l = some (.lst (wV (calW (.sun s' ls lp ts))))) ?_ ?_
  · walk_at "rd"
    refine ⟨x, c_Sun, dx, _, _, rfl, s03 _ _ hx, er.cl_Sun, er.na_Sun_years, rfl, ?_⟩
    walk_at "rd"
    refine ⟨y, c_Measure, d2, _, _, rfl, s03 _ _ e2, er.cl_Measure, er.na_Measure_terms, rfl, ?_⟩
    have T3 := T2.same s03
    obtain ⟨vs, hvs, hT⟩ := T3.ex
    refine ⟨tp, _, rfl, .inr hvs, ?_⟩
    walk_at "rd"
    rw [hT.len]
    by_cases c : ts = []
    · subst c
      refine iteN (by decide) ?_
      walk_at "rd"
      exact ⟨s03, l, rfl, t3⟩
    · have pos : 0 < ts.length := by
        cases ts with
        | nil => exact absurd rfl c
        | cons a b => simp
      refine iteD (by omega) ?_
      walk_at "rd"
      refine ⟨x, c_Sun, dx, _, _, rfl, s03 _ _ hx, er.cl_Sun, er.na_Sun_leap, rfl, ?_⟩
      walk_at "rd"
      refine ⟨lp, rfl, sm_log slp, ?_⟩
      walk_at "rd"
      refine ⟨two, fun l4 hl4 => ?_⟩
      have eM : [V.str (Str.ofString "leap"), V.str (Str.ofString (toString lp))] = wV [[108, 101, 97, 112], numT lp] := by
        rw [eLeap, eStr]
        rfl
      rw [eM]
      have s4 := same_new hl4 (.lst (wV [[108, 101, 97, 112], numT lp]))
      have t4 : upd H3 l4 (.lst (wV [[108, 101, 97, 112], numT lp])) l4 = some (.lst (wV [[108, 101, 97, 112], numT lp])) := upd_same
      generalize upd H3 l4 (.lst (wV [[108, 101, 97, 112], numT lp])) = H4 at s4 t4 ⊢
      walk_at "rd"
      refine ⟨l, l4, _, _, rfl, rfl, s4 _ _ t3, t4, (by rw [wV_len, wV_len]; show 3 + 2 ≤ sizeLine; decide), fun l5 hl5 => ?_⟩
      rw [← wV_app]
      have s5 := same_new hl5 (.lst (wV ([[115, 117, 110], numT s', joinC 44 (ls.map numT)] ++ [[108, 101, 97, 112], numT lp])))
      have t5 : upd H4 l5 (.lst (wV ([[115, 117, 110], numT s', joinC 44 (ls.map numT)] ++ [[108, 101, 97, 112], numT lp]))) l5 = some (.lst (wV ([[115, 117, 110], numT s', joinC 44 (ls.map numT)] ++ [[108, 101, 97, 112], numT lp]))) := upd_same
      generalize upd H4 l5 (.lst (wV ([[115, 117, 110], numT s', joinC 44 (ls.map numT)] ++ [[108, 101, 97, 112], numT lp]))) = H5 at s5 t5 ⊢
      have s05 := s03.trans (s4.trans s5)
      walk_at "rd"
      refine ⟨x, c_Sun, dx, _, _, rfl, s05 _ _ hx, er.cl_Sun, er.na_Sun_years, rfl, ?_⟩
      walk_at "rd"
      refine ⟨y, c_Measure, d2, _, _, rfl, s05 _ _ e2, er.cl_Measure, er.na_Measure_terms, rfl, ?_⟩
      walk_at "rd"
      refine ⟨tp, ts, rfl, T2.same s05, fun l6 H6 hl6 s6 t6 => ?_⟩
      have few := g.few
      refine ⟨l5, l6, _, _, rfl, rfl, s6 _ _ t5, t6, (by rw [wV_len, wV_len, List.length_map]; exact Nat.le_of_lt (small1000 (by show 5 + ts.length ≤ 1000; omega))), fun l7 hl7 => ?_⟩
      rw [← wV_app]
      walk_at "rd"
      refine ⟨(s05.trans s6).trans (same_new hl7 _), l7, rfl, ?_⟩
      rw [upd_same]
      show some (HO.lst (wV _)) = some (.lst (wV ([115, 117, 110] :: sunWs s' ls lp ts)))
      unfold sunWs
      rw [if_neg c]
      rfl
  rintro σ' H4 ⟨s4, l4, rfl, t4⟩
  walk_at "rd"
  refine rd_bm ?_
  walk_at "rd"
  refine ⟨rfl, ?_⟩
  walk_at "rd"
  refine ⟨_, l4, (calW (.sun s' ls lp ts)).map txt, rfl, rfl, SqL.of t4, jf, ?_⟩
  rw [join_words]
  exact q _ s4
theorem sc_Moon_shown : FnScope ["self", "days", "many"] ["self"] (defScope s_Moon_shown) := ⟨rfl, rfl, rfl, by decide +kernel, rfl, by decide +kernel, by decide +kernel⟩
theorem ok_Moon_shown {f : Addr} {fd : FuncData} (F : Fun K "shown" "Moon.shown" s_Moon_shown f fd) (er : Errs K mg c_FeastError c_NoNumber c_NoMeasure c_NoText c_Measure c_Calendar c_Sun c_Moon) (c_term_words : Cal P w K mg base 2 "term_words" ["terms"] (spTermWords K)) (z_str : mg "str" = none) : FnOk P w K mg base CX0 3 f fd ["self"] (spShowM K c_Moon c_Measure) := by
  refine F.ok (k := 2) sc_Moon_shown (fun vs H Q E h => ?_) (fun cdv A outer s H vs Q E hr h => ?_)
  · obtain ⟨x, s, bd, td, bm, tm, rfl, _⟩ := h
    rfl
  obtain ⟨x, s', bd, td, bm, tm, rfl, S, sm, q⟩ := h
  obtain ⟨dx, d, m, hx, D, M⟩ := S.ex
  obtain ⟨d1, tp1, e1, T1⟩ := D.ex
  obtain ⟨d2, tp2, e2, T2⟩ := M.ex
  have g := S.gd
  have n1 := falls_nn (ts := td)
  have n2 := falls_nn (ts := tm)
  have h1 := g.fd
  have h2 := g.fm
  have h3 := g.gd
  have h4 := g.gm
  have w1 := g.fwd
  have w2 := g.fwm
  have sbd : Sm bd := sm_of (by omega) (by omega)
  have sbm : Sm bm := sm_of (by omega) (by omega)
  have jf := join_fit (d := .moon s' bd td bm tm) g sm
  refine ⟨_, (pss_cons (ps_set (i := 1) sc_Moon_shown.nd rfl (by first | exact Or.inl rfl | exact Or.inr rfl) (pe_op op_cat (pe_lst (pa_cons (pe_callTy call_str_int rfl z_str PyProof.Rows.boot_str (pa_cons (pe_fld (pe_fld (pv 0) (by rfl)) (by rfl)) pa_nil)) pa_nil)) (pe_cal c_term_words (hr.mono (by decide)) rfl (pa_cons (pe_fld (pe_fld (pv 0) (by rfl)) (by rfl)) pa_nil))))
      (pss_cons (ps_set (i := 2) sc_Moon_shown.nd rfl (by first | exact Or.inl rfl | exact Or.inr rfl) (pe_op op_cat (pe_lst (pa_cons (pe_callTy call_str_int rfl z_str PyProof.Rows.boot_str (pa_cons (pe_fld (pe_fld (pv 0) (by rfl)) (by rfl)) pa_nil)) pa_nil)) (pe_cal c_term_words (hr.mono (by decide)) rfl (pa_cons (pe_fld (pe_fld (pv 0) (by rfl)) (by rfl)) pa_nil))))
      (pss_one (ps_ret (pe_bm PySem.F.plainAttrs_str PySem.F.slot_str_join PySem.F.type_str_join mt_join pe_str (pa_cons (pe_op op_cat (pe_op op_cat (pe_op op_cat (pe_lst (pa_cons pe_str (pa_cons (pe_callTy call_str_int rfl z_str PyProof.Rows.boot_str (pa_cons (pe_fld (pv 0) (by rfl)) pa_nil)) pa_nil))) (pv 1)) (pe_lst (pa_cons pe_str pa_nil))) (pv 2)) pa_nil)))))), ?_⟩
  walk_at "rd"
  refine ⟨x, c_Moon, dx, _, _, rfl, hx, er.cl_Moon, er.na_Moon_days, rfl, ?_⟩
  walk_at "rd"
  refine ⟨d, c_Measure, d1, _, _, rfl, e1, er.cl_Measure, er.na_Measure_base, rfl, ?_⟩
  walk_at "rd"
  refine ⟨bd, rfl, sm_log sbd, ?_⟩
  walk_at "rd"
  refine ⟨(by show 1 ≤ sizeLine; decide), fun l1 hl1 => ?_⟩
  rw [show [V.str (Str.ofString (toString bd))] = wV [numT bd] by rw [eStr]; rfl]
  have s1 := same_new hl1 (.lst (wV [numT bd]))
  have t1 : upd H l1 (.lst (wV [numT bd])) l1 = some (.lst (wV [numT bd])) := upd_same
  generalize upd H l1 (.lst (wV [numT bd])) = H1 at s1 t1 ⊢
  walk_at "rd"
  refine ⟨x, c_Moon, dx, _, _, rfl, s1 _ _ hx, er.cl_Moon, er.na_Moon_days, rfl, ?_⟩
  walk_at "rd"
  refine ⟨d, c_Measure, d1, _, _, rfl, s1 _ _ e1, er.cl_Measure, er.na_Measure_terms, rfl, ?_⟩
  walk_at "rd"
  refine ⟨tp1, td, rfl, T1.same s1, fun l2 H2 hl2 s2 t2 => ?_⟩
  have s02 := s1.trans s2
  refine ⟨l1, l2, _, _, rfl, rfl, s2 _ _ t1, t2, (by rw [wV_len, wV_len, List.length_map]; exact Nat.le_of_lt (small1000 (by show 1 + td.length ≤ 1000; omega))), fun l3 hl3 => ?_⟩
  rw [← wV_app]
  have s3 := same_new hl3 (.lst (wV ([numT bd] ++ td.map tmW)))
  have t3 : upd H2 l3 (.lst (wV ([numT bd] ++ td.map tmW))) l3 = some (.lst (wV ([numT bd] ++ td.map tmW))) := upd_same
  generalize upd H2 l3 (.lst (wV ([numT bd] ++ td.map tmW))) = H3 at s3 t3 ⊢
  have s03 := s02.trans s3
  walk_at "rd"
  refine ⟨x, c_Moon, dx, _, _, rfl, s03 _ _ hx, er.cl_Moon, er.na_Moon_many, rfl, ?_⟩
  walk_at "rd"
  refine ⟨m, c_Measure, d2, _, _, rfl, s03 _ _ e2, er.cl_Measure, er.na_Measure_base, rfl, ?_⟩
  walk_at "rd"
  refine ⟨bm, rfl, sm_log sbm, ?_⟩
  walk_at "rd"
  refine ⟨(by show 1 ≤ sizeLine; decide), fun l4 hl4 => ?_⟩
  rw [show [V.str (Str.ofString (toString bm))] = wV [numT bm] by rw [eStr]; rfl]
  have s4 := same_new hl4 (.lst (wV [numT bm]))
  have t4 : upd H3 l4 (.lst (wV [numT bm])) l4 = some (.lst (wV [numT bm])) := upd_same
  generalize upd H3 l4 (.lst (wV [numT bm])) = H4 at s4 t4 ⊢
  have s04 := s03.trans s4
  walk_at "rd"
  refine ⟨x, c_Moon, dx, _, _, rfl, s04 _ _ hx, er.cl_Moon, er.na_Moon_many, rfl, ?_⟩
  walk_at "rd"
  refine ⟨m, c_Measure, d2, _, _, rfl, s04 _ _ e2, er.cl_Measure, er.na_Measure_terms, rfl, ?_⟩
  walk_at "rd"
  refine ⟨tp2, tm, rfl, T2.same s04, fun l5 H5 hl5 s5 t5 => ?_⟩
  have s05 := s04.trans s5
  refine ⟨l4, l5, _, _, rfl, rfl, s5 _ _ t4, t5, (by rw [wV_len, wV_len, List.length_map]; exact Nat.le_of_lt (small1000 (by show 1 + tm.length ≤ 1000; omega))), fun l6 hl6 => ?_⟩
  rw [← wV_app]
  have s6 := same_new hl6 (.lst (wV ([numT bm] ++ tm.map tmW)))
  have t6 : upd H5 l6 (.lst (wV ([numT bm] ++ tm.map tmW))) l6 = some (.lst (wV ([numT bm] ++ tm.map tmW))) := upd_same
  generalize upd H5 l6 (.lst (wV ([numT bm] ++ tm.map tmW))) = H6 at s6 t6 ⊢
  have s06 := s05.trans s6
  have t36 := s6 _ _ (s5 _ _ (s4 _ _ t3))
  walk_at "rd"
  refine rd_bm ?_
  walk_at "rd"
  refine ⟨rfl, ?_⟩
  walk_at "rd"
  refine ⟨x, c_Moon, dx, _, _, rfl, s06 _ _ hx, er.cl_Moon, er.na_Moon_start, rfl, ?_⟩
  walk_at "rd"
  refine ⟨s', rfl, sm_log sm, ?_⟩
  walk_at "rd"
  refine ⟨two, fun l7 hl7 => ?_⟩
  rw [show [V.str (Str.ofString "moon"), V.str (Str.ofString (toString s'))] = wV [[109, 111, 111, 110], numT s'] by rw [eMoon, eStr]; rfl]
  have s7 := same_new hl7 (.lst (wV [[109, 111, 111, 110], numT s']))
  have t7 : upd H6 l7 (.lst (wV [[109, 111, 111, 110], numT s'])) l7 = some (.lst (wV [[109, 111, 111, 110], numT s'])) := upd_same
  generalize upd H6 l7 (.lst (wV [[109, 111, 111, 110], numT s'])) = H7 at s7 t7 ⊢
  walk_at "rd"
  refine ⟨l7, l3, _, _, rfl, rfl, t7, s7 _ _ t36, (by rw [wV_len, wV_len, List.length_append, List.length_map]; exact Nat.le_of_lt (small1000 (by show 2 + (1 + td.length) ≤ 1000; omega))), fun l8 hl8 => ?_⟩
  rw [← wV_app]
  generalize hA : [[109, 111, 111, 110], numT s'] ++ ([numT bd] ++ td.map tmW) = A
  have lA : A.length = 3 + td.length := by rw [← hA, List.length_append, List.length_append, List.length_map]; show 2 + (1 + td.length) = _; omega
  have s8 := same_new hl8 (.lst (wV A))
  have t8 : upd H7 l8 (.lst (wV A)) l8 = some (.lst (wV A)) := upd_same
  generalize upd H7 l8 (.lst (wV A)) = H8 at s8 t8 ⊢
  walk_at "rd"
  refine ⟨(by show 1 ≤ sizeLine; decide), fun l9 hl9 => ?_⟩
  rw [show [V.str (Str.ofString "/")] = wV [[47]] by rw [eSlash]; rfl]
  have s9 := same_new hl9 (.lst (wV [[47]]))
  have t9 : upd H8 l9 (.lst (wV [[47]])) l9 = some (.lst (wV [[47]])) := upd_same
  generalize upd H8 l9 (.lst (wV [[47]])) = H9 at s9 t9 ⊢
  walk_at "rd"
  refine ⟨l8, l9, _, _, rfl, rfl, s9 _ _ t8, t9, (by rw [wV_len, wV_len, lA]; exact Nat.le_of_lt (small1000 (by show 3 + td.length + 1 ≤ 1000; omega))), fun l10 hl10 => ?_⟩
  rw [← wV_app]
  have s10 := same_new hl10 (.lst (wV (A ++ [[47]])))
  have t10 : upd H9 l10 (.lst (wV (A ++ [[47]]))) l10 = some (.lst (wV (A ++ [[47]]))) := upd_same
  generalize upd H9 l10 (.lst (wV (A ++ [[47]]))) = H10 at s10 t10 ⊢
  walk_at "rd"
  refine ⟨l10, l6, _, _, rfl, rfl, t10, s10 _ _ (s9 _ _ (s8 _ _ (s7 _ _ t6))), (by rw [wV_len, wV_len, List.length_append, lA, List.length_append, List.length_map]; exact Nat.le_of_lt (small1000 (by show 3 + td.length + 1 + (1 + tm.length) ≤ 1000; omega))), fun l11 hl11 => ?_⟩
  rw [← wV_app]
  have eW : A ++ [[47]] ++ ([numT bm] ++ tm.map tmW) = calW (.moon s' bd td bm tm) := by
    rw [← hA]
    show _ = [109, 111, 111, 110] :: moonWs s' bd td bm tm
    unfold moonWs
    simp
  rw [eW]
  refine rd_nil ?_
  refine ⟨_, l11, (calW (.moon s' bd td bm tm)).map txt, rfl, rfl, SqL.of upd_same, jf, ?_⟩
  rw [join_words]
  exact q _ ((s06.trans (s7.trans (s8.trans (s9.trans s10)))).trans (same_new hl11 _))
theorem sc_is_readable : FnScope ["text"] ["text"] (defScope s_is_readable) := ⟨rfl, rfl, rfl, by decide +kernel, rfl, by decide +kernel, by decide +kernel⟩
theorem ok_is_readable {f : Addr} {fd : FuncData} (F : Fun K "is_readable" "is_readable" s_is_readable f fd) (z_isinstance : mg "isinstance" = none) (z_str : mg "str" = none) (z_len : mg "len" = none) {tk_MOST_SIGNS : Tok} (m_MOST_SIGNS : mg "MOST_SIGNS" = some (.int 4000 tk_MOST_SIGNS)) : FnOk P w K mg base CX0 1 f fd ["text"] spReadable73 := by
  refine F.ok (k := 0) sc_is_readable (fun vs H Q E h => ?_) (fun cdv A outer s H vs Q E hr h => ?_)
  · obtain ⟨v, rfl, _⟩ := h
    rfl
  obtain ⟨v, rfl, hv, q, qn⟩ := h
  refine ⟨_, (pss_one (ps_ret (pe_and (pe_callB call_isi rfl z_isinstance PyProof.Rows.boot_isinstance (pa_cons (pv 0) (pa_cons (pe_bltn rfl z_str PyProof.Rows.boot_str (rel_ty _)) pa_nil))) (pe_one (pe_cmpR op_le (pe_callB call_len_str rfl z_len PySem.boot_len (pa_cons (pv 0) pa_nil)) (pe_glob rfl m_MOST_SIGNS (rel_int _ _)) (nomark _)))))), ?_⟩
  walk_at "rd"
  refine rd_isS hv ?_
  walk_at "rd"
  cases hv with
  | non =>
    refine iteF ?_
    exact qn rfl
  | int i =>
    refine iteF ?_
    exact qn rfl
  | tup a xs e0 =>
    refine iteF ?_
    exact qn rfl
  | lst a xs e0 =>
    refine iteF ?_
    exact qn rfl
  | txt z hz =>
    refine iteT ?_
    walk_at "rd"
    refine ⟨z, rfl, hz.fit, ?_⟩
    walk_at "rd"
    refine q z rfl _ ?_
    rw [decide_eq_true_eq, ← len_cpl]
    omega
theorem sc_read_terms : FnScope ["words"] ["words"] (defScope s_read_terms) := ⟨rfl, rfl, rfl, by decide +kernel, rfl, by decide +kernel, by decide +kernel⟩
theorem ok_read_terms {f : Addr} {fd : FuncData} (F : Fun K "read_terms" "read_terms" s_read_terms f fd) (c_read_term : CalE P w K mg base 4 "read_term" ["word"] (spReadTE K c_NoText)) : FnOk P w K mg base (CX1 P w) 5 f fd ["words"] (spReadTsE K c_NoText) := by
  refine F.okE (k := 4) sc_read_terms (fun vs H Q E h => ?_) (fun cdv A outer s H vs Q E hr h T => ?_)
  · obtain ⟨l, ws, rfl, _⟩ := h
    rfl
  obtain ⟨l, ws, rfl, hl, hw, q, qe⟩ := h
  refine ⟨_, (pss_one (ps_ret (pe_compE thrN_fn rfl (compOk_nil ["words"] rfl (by decide +kernel) rfl (by decide +kernel) rfl (by decide +kernel) (by decide +kernel)) (pi_list (pv 0)) (fun _ _ _ _ => pifs_nil) (fun _ _ _ _ _ T => (pe_calE T c_read_term (hr.mono (by decide)) rfl (pa_cons (pv 0) pa_nil)))))), ?_⟩
  walk_at "rdx"
  refine rd_comp (rd_iL ?_)
  walk_at "rdx"
  refine ⟨l, rfl, ⟨_, SqL.of hl⟩, ?_⟩
  refine comp_inv walk_l (by rw [wV_len, sizeLine_eq]; have := hw.1; omega) (fun D i ys H2 => H2 D = some (.lst ys) ∧ Same H H2 ∧ Tms H2 ys ((ws.take i).map tmOf) ∧ AllT (ws.take i)) (fun D hD => ⟨upd_same, same_new hD _, .nil, fun t ht => by cases ht⟩)
    (fun D i ys H2 _ ⟨h1, h2, h3, _⟩ => ⟨h1, by rw [h3.len, List.length_map]; exact List.length_take_le _ _, SqL.of (h2 _ _ hl)⟩) (fun D i x ys H2 hD hx ⟨h1, h2, h3, h4⟩ => ?_) (fun D ys H2 hD ⟨h1, h2, h3, h4⟩ => ?_)
  · unfold wV at hx
    rw [List.getElem?_map, List.getElem?_map] at hx
    obtain ⟨y, hy, rfl⟩ := Option.map_eq_some_iff.mp hx
    obtain ⟨w, hw', rfl⟩ := Option.map_eq_some_iff.mp hy
    have mem := List.mem_of_getElem? hw'
    refine rd_true (iteT ?_)
    walk_at "rdx"
    refine ⟨txt w, rfl, hw.2 w mem, fun T p H3 s3 hp => ⟨s3 _ _ h1, upd_same, same_app hD (h2.trans s3), ?_, ?_⟩, fun nT H3 s3 => qe (fun all => nT (all w mem)) H3 (h2.trans s3)⟩
    · rw [List.take_add_one, hw', Option.toList_some, List.map_append]
      exact Tms.upd (s3 _ _ h1) (Tms.snoc (t := tmOf w) hp (h3.same s3))
    · intro t ht
      rw [List.take_add_one, hw', Option.toList_some] at ht
      rcases List.mem_append.mp ht with e | e
      · exact h4 t e
      · rw [List.mem_singleton.mp e]
        exact T
  · rw [wV_len, List.take_length] at h3 h4
    exact q h4 D ys H2 h2 h1 h3
theorem sc_read_sun : FnScope ["words", "start", "lengths", "leap"] ["words"] (defScope s_read_sun) := ⟨rfl, rfl, rfl, by decide +kernel, rfl, by decide +kernel, by decide +kernel⟩
theorem ok_read_sun {f : Addr} {fd : FuncData} (F : Fun K "read_sun" "read_sun" s_read_sun f fd) (er : Errs K mg c_FeastError c_NoNumber c_NoMeasure c_NoText c_Measure c_Calendar c_Sun c_Moon) (c_read_number : CalE P w K mg base 2 "read_number" ["text"] (spReadN c_NoText)) (c_read_numbers : CalE P w K mg base 3 "read_numbers" ["word"] (spReadNsE K c_NoText)) (c_Sun___init___d2 : CalID P w K mg base (CX1 P w) 7 "Sun" c_Sun ["self", "start", "lengths", "leap", "terms"] [(.int 1), .non] (spInitSE K c_Sun c_Measure c_NoMeasure)) (c_Sun___init__ : CalI P w K mg base (CX1 P w) 7 "Sun" c_Sun ["self", "start", "lengths", "leap", "terms"] (spInitSE K c_Sun c_Measure c_NoMeasure)) (c_read_terms : CalE P w K mg base 5 "read_terms" ["words"] (spReadTsE K c_NoText)) (z_len : mg "len" = none) : FnOk P w K mg base (CX1 P w) 9 f fd ["words"] (spReadSE K c_Sun c_Measure c_NoText c_NoMeasure) := by
  refine F.okE (k := 8) sc_read_sun (fun vs H Q E h => ?_) (fun cdv A outer s H vs Q E hr h T => ?_)
  · obtain ⟨l, us, rfl, _⟩ := h
    rfl
  obtain ⟨l, us, rfl, hl, hw, q, qm, qt⟩ := h
  have one : 1 ≤ sizeLine := by decide
  refine ⟨_, (pss_cons (ps_if (pt_cmpR op_lt (pe_callB call_len_seq rfl z_len PySem.boot_len (pa_cons (pv 0) pa_nil)) pe_int (nomark _))
        (pss_one (ps_raise T rfl er.x_NoText rfl (pa_cons pe_str pa_nil)))
        pss_nil)
      (pss_cons (ps_set (i := 1) sc_read_sun.nd rfl (by first | exact Or.inl rfl | exact Or.inr rfl) (pe_calE T c_read_number (hr.mono (by decide)) rfl (pa_cons (pe_ix ix_list (pv 0) pe_int (fun _ _ => rfl)) pa_nil)))
      (pss_cons (ps_set (i := 2) sc_read_sun.nd rfl (by first | exact Or.inl rfl | exact Or.inr rfl) (pe_calE T c_read_numbers (hr.mono (by decide)) rfl (pa_cons (pe_ix ix_list (pv 0) pe_int (fun _ _ => rfl)) pa_nil)))
      (pss_cons (ps_if (pt_cmpR op_eq (pe_callB call_len_seq rfl z_len PySem.boot_len (pa_cons (pv 0) pa_nil)) pe_int (nomark _))
        (pss_one (ps_ret (pe_mkED T c_Sun___init___d2 (hr.mono (by decide)) rfl (pa_cons (pv 1) (pa_cons (pv 2) pa_nil)))))
        pss_nil)
      (pss_cons (ps_if (PW.pt (pw_or (pt_cmpR op_ne (pe_ix ix_list (pv 0) pe_int (fun _ _ => rfl)) pe_str (nomark _)) (pw_or1 (pt_cmpR op_lt (pe_callB call_len_seq rfl z_len PySem.boot_len (pa_cons (pv 0) pa_nil)) pe_int (nomark _)))))
        (pss_one (ps_raise T rfl er.x_NoText rfl (pa_cons pe_str pa_nil)))
        pss_nil)
      (pss_cons (ps_set (i := 3) sc_read_sun.nd rfl (by first | exact Or.inl rfl | exact Or.inr rfl) (pe_calE T c_read_number (hr.mono (by decide)) rfl (pa_cons (pe_ix ix_list (pv 0) pe_int (fun _ _ => rfl)) pa_nil)))
      (pss_one (ps_ret (pe_mkE T c_Sun___init__ (hr.mono (by decide)) rfl (pa_cons (pv 1) (pa_cons (pv 2) (pa_cons (pv 3) (pa_cons (pe_calE T c_read_terms (hr.mono (by decide)) rfl (pa_cons (pe_slice sl_list (pv 0) (po_some pe_int) po_none) pa_nil)) pa_nil))))))))))))), ?_⟩
  walk_at "rdx"
  refine ⟨l, _, rfl, .inl (SqL.of hl), ?_⟩
  walk_at "rdx"
  rw [wV_len]
  by_cases c1 : (us.length : Int) < 2
  · refine iteD c1 ?_
    walk_at "rdx"
    exact ⟨one, qt (fun ⟨_, _, _, _, F⟩ => by cases F <;> simp only [List.length_cons, List.length_nil] at c1 <;> omega) _ (Same.refl _)⟩
  refine iteN c1 ?_
  obtain ⟨a, b, r, rfl⟩ : ∃ a b r, us = a :: b :: r := by
    match us, c1 with
    | [], h => exact absurd (by show (0 : Int) < 2; decide) h
    | [a], h => exact absurd (by show (1 : Int) < 2; decide) h
    | a :: b :: r, _ => exact ⟨a, b, r, rfl⟩
  have ta := hw.2 a (by simp)
  have tb := hw.2 b (by simp)
  walk_at "rdx"
  refine rd_ixL (SqL.of hl) at_n0 ?_
  refine rd_nil ?_
  refine ⟨_, rfl, .txt _ ta, fun z H1 s1 ez Na => ?_, fun nn H1 s1 => qt (fun ⟨_, _, _, _, F⟩ => nn ⟨_, rfl, by cases F <;> assumption⟩) H1 s1⟩
  cases ez
  rw [cpl_txt] at Na ⊢
  have h1 := s1 _ _ hl
  walk_at "rdx"
  refine rd_ixL (SqL.of h1) at_n1 ?_
  refine rd_nil ?_
  refine ⟨_, rfl, tb, fun Nb l2 H2 hl2 s2 t2 => ?_, fun nn H2 s2 => qt (fun ⟨_, _, _, _, F⟩ => nn (by cases F <;> assumption)) H2 (s1.trans s2)⟩
  rw [cpl_txt] at Nb t2
  have h2 := s2 _ _ h1
  have s02 := s1.trans s2
  walk_at "rdx"
  refine ⟨l, _, rfl, .inl (SqL.of h2), ?_⟩
  walk_at "rdx"
  rw [wV_len]
  cases r with
  | nil =>
    have F := SunF.plain Na Nb
    refine iteD rfl ?_
    walk_at "rdx"
    exact fun x dx hx hdx ne => init_sunE hx hdx t2 .nil (.inl ⟨rfl, rfl⟩) (by decide) (sm_bt (num_sm Na)) (fun g H6 s6 S6 => ⟨rfl, q _ _ _ _ F g x _ (s02.trans s6) S6⟩) (fun g H6 s6 => qm _ _ _ _ F g _ (s02.trans s6))
  | cons c r =>
    refine iteN (fun z => by have := V.int.inj z; simp only [List.length_cons] at this; omega) ?_
    walk_at "rdx"
    refine rd_ixL (SqL.of h2) at_n2 ?_
    walk_at "rdx"
    rw [eLeap]
    by_cases c2 : c = [108, 101, 97, 112]
    rotate_left
    · refine iteNN (fun z => c2 (txt_inj (V.str.inj z))) (iteT ?_)
      walk_at "rdx"
      exact ⟨one, qt (fun ⟨_, _, _, _, F⟩ => by cases F; exact c2 rfl) _ s02⟩
    subst c2
    refine iteNS rfl ?_
    walk_at "rdx"
    refine ⟨l, _, rfl, .inl (SqL.of h2), ?_⟩
    walk_at "rdx"
    rw [wV_len]
    by_cases c3 : (((a :: b :: [108, 101, 97, 112] :: r).length : Nat) : Int) < 5
    · refine iteD c3 ?_
      walk_at "rdx"
      refine ⟨one, qt (fun ⟨_, _, _, _, F⟩ => ?_) _ s02⟩
      cases F with
      | @leap _ _ _ ts _ _ _ hn _ =>
        have : 0 < ts.length := List.length_pos_iff.mpr hn
        simp only [List.length_cons] at c3
        omega
    refine iteN c3 ?_
    obtain ⟨c, ts, rfl, tne⟩ : ∃ c ts, r = c :: ts ∧ ts ≠ [] := by
      match r, c3 with
      | [], h => exact absurd (by show (3 : Int) < 5; decide) h
      | [c], h => exact absurd (by show (4 : Int) < 5; decide) h
      | c :: t :: ts, _ => exact ⟨c, t :: ts, rfl, by simp⟩
    have tc := hw.2 c (by simp)
    walk_at "rdx"
    refine rd_ixL (SqL.of h2) at_n3 ?_
    refine rd_nil ?_
    refine ⟨_, rfl, .txt _ tc, fun z H3 s3 ez Nc => ?_, fun nn H3 s3 => qt (fun ⟨_, _, _, _, F⟩ => nn ⟨_, rfl, by cases F; assumption⟩) H3 (s02.trans s3)⟩
    cases ez
    rw [cpl_txt] at Nc ⊢
    have h3 := s3 _ _ h2
    walk_at "rdx"
    refine rd_slL (SqL.of h3) fun u hu => ?_
    rw [show cutV (wV (a :: b :: [108, 101, 97, 112] :: c :: ts)) (some 4) none = wV ts from cutWf _ 4]
    have s4 := same_new hu (.lst (wV ts))
    have t4 : upd H3 u (.lst (wV ts)) u = some (.lst (wV ts)) := upd_same
    generalize upd H3 u (.lst (wV ts)) = H4 at s4 t4 ⊢
    refine rd_nil ?_
    have s04 := (s02.trans s3).trans s4
    have wt : Wds ts := hw.drop 4
    refine ⟨u, ts, rfl, t4, wt, fun T l5 vs H5 s5 t5 hT => ?_, fun nn H5 s5 => qt (fun ⟨_, _, _, _, F⟩ => by cases F; exact nn (by assumption)) H5 (s04.trans s5)⟩
    have F := SunF.leap Na Nb Nc tne T
    walk_at "rdx"
    exact fun x dx hx hdx ne => init_sunE hx hdx (s5 _ _ (s4 _ _ (s3 _ _ t2))) hT (.inr ⟨l5, rfl, t5⟩) (few_map wt) (sm_bt (num_sm Na)) (fun g H6 s6 S6 => ⟨rfl, q _ _ _ _ F g x _ ((s04.trans s5).trans s6) S6⟩) (fun g H6 s6 => qm _ _ _ _ F g _ ((s04.trans s5).trans s6))
theorem sc_read_moon : FnScope ["words", "place", "days", "many", "start", "days_base", "days_terms", "many_base", "many_terms"] ["words"] (defScope s_read_moon) := ⟨rfl, rfl, rfl, by decide +kernel, rfl, by decide +kernel, by decide +kernel⟩
theorem ok_read_moon {f : Addr} {fd : FuncData} (F : Fun K "read_moon" "read_moon" s_read_moon f fd) (er : Errs K mg c_FeastError c_NoNumber c_NoMeasure c_NoText c_Measure c_Calendar c_Sun c_Moon) (c_read_number : CalE P w K mg base 2 "read_number" ["text"] (spReadN c_NoText)) (c_read_terms : CalE P w K mg base 5 "read_terms" ["words"] (spReadTsE K c_NoText)) (c_Moon___init__ : CalI P w K mg base (CX1 P w) 3 "Moon" c_Moon ["self", "start", "days", "many"] (spInitMoE K c_Moon c_Measure c_NoMeasure)) (c_Measure___init__ : CalI P w K mg base (CX1 P w) 5 "Measure" c_Measure ["self", "base", "terms"] (spInitME K c_Measure c_NoMeasure)) (z_len : mg "len" = none) : FnOk P w K mg base (CX1 P w) 7 f fd ["words"] (spReadME K c_Moon c_Measure c_NoText c_NoMeasure) := by
  refine F.okE (k := 6) sc_read_moon (fun vs H Q E h => ?_) (fun cdv A outer s H vs Q E hr h T => ?_)
  · obtain ⟨l, us, rfl, _⟩ := h
    rfl
  obtain ⟨l, us, rfl, hl, hw, q, qm, qt⟩ := h
  have one : 1 ≤ sizeLine := by decide
  refine ⟨_, (pss_cons (ps_if (pt_cmpR op_ne (pe_bm PySem.F.plainAttrs_list PySem.F.slot_list_count PySem.F.type_list_count mt_lcount (pv 0) (pa_cons pe_str pa_nil)) pe_int (nomark _))
        (pss_one (ps_raise T rfl er.x_NoText rfl (pa_cons pe_str pa_nil)))
        pss_nil)
      (pss_cons (ps_set (i := 1) sc_read_moon.nd rfl (by first | exact Or.inl rfl | exact Or.inr rfl) (pe_bm PySem.F.plainAttrs_list PySem.F.slot_list_index PySem.F.type_list_index mt_lindex (pv 0) (pa_cons pe_str pa_nil)))
      (pss_cons (ps_set (i := 2) sc_read_moon.nd rfl (by first | exact Or.inl rfl | exact Or.inr rfl) (pe_slice sl_list (pv 0) (po_some pe_int) (po_some (pv 1))))
      (pss_cons (ps_set (i := 3) sc_read_moon.nd rfl (by first | exact Or.inl rfl | exact Or.inr rfl) (pe_slice sl_list (pv 0) (po_some (pe_op op_add (pv 1) pe_int)) po_none))
      (pss_cons (ps_if (PW.pt (pw_or (pt_cmpR op_lt (pe_callB call_len_seq rfl z_len PySem.boot_len (pa_cons (pv 2) pa_nil)) pe_int (nomark _)) (pw_or1 (pt_cmpR op_lt (pe_callB call_len_seq rfl z_len PySem.boot_len (pa_cons (pv 3) pa_nil)) pe_int (nomark _)))))
        (pss_one (ps_raise T rfl er.x_NoText rfl (pa_cons pe_str pa_nil)))
        pss_nil)
      (pss_cons (ps_set (i := 4) sc_read_moon.nd rfl (by first | exact Or.inl rfl | exact Or.inr rfl) (pe_calE T c_read_number (hr.mono (by decide)) rfl (pa_cons (pe_ix ix_list (pv 0) pe_int (fun _ _ => rfl)) pa_nil)))
      (pss_cons (ps_set (i := 5) sc_read_moon.nd rfl (by first | exact Or.inl rfl | exact Or.inr rfl) (pe_calE T c_read_number (hr.mono (by decide)) rfl (pa_cons (pe_ix ix_list (pv 2) pe_int (fun _ _ => rfl)) pa_nil)))
      (pss_cons (ps_set (i := 6) sc_read_moon.nd rfl (by first | exact Or.inl rfl | exact Or.inr rfl) (pe_calE T c_read_terms (hr.mono (by decide)) rfl (pa_cons (pe_slice sl_list (pv 2) (po_some pe_int) po_none) pa_nil)))
      (pss_cons (ps_set (i := 7) sc_read_moon.nd rfl (by first | exact Or.inl rfl | exact Or.inr rfl) (pe_calE T c_read_number (hr.mono (by decide)) rfl (pa_cons (pe_ix ix_list (pv 3) pe_int (fun _ _ => rfl)) pa_nil)))
      (pss_cons (ps_set (i := 8) sc_read_moon.nd rfl (by first | exact Or.inl rfl | exact Or.inr rfl) (pe_calE T c_read_terms (hr.mono (by decide)) rfl (pa_cons (pe_slice sl_list (pv 3) (po_some pe_int) po_none) pa_nil)))
      (pss_one (ps_ret (pe_mkE T c_Moon___init__ (hr.mono (by decide)) rfl (pa_cons (pv 4) (pa_cons (pe_mkE T c_Measure___init__ (hr.mono (by decide)) rfl (pa_cons (pv 5) (pa_cons (pv 6) pa_nil))) (pa_cons (pe_mkE T c_Measure___init__ (hr.mono (by decide)) rfl (pa_cons (pv 7) (pa_cons (pv 8) pa_nil))) pa_nil)))))))))))))))), ?_⟩
  walk_at "rdx"
  refine rd_bm ?_
  walk_at "rdx"
  refine ⟨.inl ⟨rfl, _, SqL.of hl⟩, ?_⟩
  walk_at "rdx"
  refine ⟨l, us.map txt, _, rfl, rfl, SqL.of hl, ?_⟩
  rw [eSlash, count_txt]
  walk_at "rdx"
  by_cases c1 : us.count [47] = 1
  rotate_left
  · refine iteNN (fun z => c1 (by have := V.int.inj z; omega)) ?_
    walk_at "rdx"
    exact ⟨one, qt (fun ⟨_, _, _, _, _, F⟩ => c1 F.has.1) _ (Same.refl _)⟩
  refine iteNS (congrArg V.int (by rw [c1]; rfl)) ?_
  obtain ⟨A, r, rfl, hA⟩ : ∃ A r, us = A ++ [47] :: r ∧ [47] ∉ A := List.eq_append_cons_of_mem (List.count_pos_iff.mp (by omega))
  walk_at "rdx"
  refine rd_bm ?_
  walk_at "rdx"
  refine ⟨.inl ⟨rfl, _, SqL.of hl⟩, ?_⟩
  walk_at "rdx"
  refine ⟨l, _, txt [47], A.length, rfl, rfl, SqL.of hl, idx_at A r, idx_no r hA, ?_⟩
  walk_at "rdx"
  refine rd_slL (SqL.of hl) fun u1 hu1 => ?_
  have ec1 : cutV (wV (A ++ [47] :: r)) (some 1) (some ((A.length : Nat) : Int)) = wV (A.drop 1) := by
    rw [show (some 1 : Option Int) = some ((1 : Nat) : Int) from rfl, cutW, List.take_left]
  rw [ec1]
  have s1 := same_new hu1 (.lst (wV (A.drop 1)))
  have t1 : upd H u1 (.lst (wV (A.drop 1))) u1 = some (.lst (wV (A.drop 1))) := upd_same
  generalize upd H u1 (.lst (wV (A.drop 1))) = H1 at s1 t1 ⊢
  have l1 := s1 _ _ hl
  walk_at "rdx"
  refine rd_slL (SqL.of l1) fun u2 hu2 => ?_
  have ec2 : cutV (wV (A ++ [47] :: r)) (some (((A.length : Nat) : Int) + 1)) none = wV r := by
    rw [show (((A.length : Nat) : Int) + 1) = ((A.length + 1 : Nat) : Int) by omega, cutWf]
    congr 1
    rw [← List.drop_drop, List.drop_left]
    rfl
  rw [ec2]
  have s2 := same_new hu2 (.lst (wV r))
  have t2 : upd H1 u2 (.lst (wV r)) u2 = some (.lst (wV r)) := upd_same
  generalize upd H1 u2 (.lst (wV r)) = H2 at s2 t2 ⊢
  have l2 := s2 _ _ l1
  have k2 := s2 _ _ t1
  have s02 := s1.trans s2
  walk_at "rdx"
  refine ⟨u1, _, rfl, .inl (SqL.of k2), ?_⟩
  walk_at "rdx"
  rw [wV_len]
  by_cases c2 : ((A.drop 1).length : Int) < 1
  · refine iteD c2 (iteT ?_)
    walk_at "rdx"
    refine ⟨one, qt (fun ⟨_, _, _, _, _, F⟩ => ?_) _ s02⟩
    obtain ⟨a, b, c, t, m, rfl, rfl, _⟩ := F.cut hA
    simp only [List.length_drop, List.length_cons] at c2
    omega
  refine iteN c2 ?_
  walk_at "rdx"
  refine ⟨u2, _, rfl, .inl (SqL.of t2), ?_⟩
  walk_at "rdx"
  rw [wV_len]
  by_cases c3 : (r.length : Int) < 1
  · refine iteD c3 ?_
    walk_at "rdx"
    refine ⟨one, qt (fun ⟨_, _, _, _, _, F⟩ => ?_) _ s02⟩
    obtain ⟨a, b, c, t, m, rfl, rfl, _⟩ := F.cut hA
    simp only [List.length_cons] at c3
    omega
  refine iteN c3 ?_
  obtain ⟨a, b, td, rfl⟩ : ∃ a b td, A = a :: b :: td := by
    match A, c2 with
    | [], h => exact absurd (by show (0 : Int) < 1; decide) h
    | [a], h => exact absurd (by show (0 : Int) < 1; decide) h
    | a :: b :: td, _ => exact ⟨a, b, td, rfl⟩
  obtain ⟨c, tm, rfl⟩ : ∃ c tm, r = c :: tm := by
    match r, c3 with
    | [], h => exact absurd (by show (0 : Int) < 1; decide) h
    | c :: tm, _ => exact ⟨c, tm, rfl⟩
  have no : ¬ (IsNum a ∧ IsNum b ∧ AllT td ∧ IsNum c ∧ AllT tm) → ∀ H', Same H H' → E (.ref c_NoText) none H' := fun n => qt fun ⟨_, _, _, _, _, F⟩ => by
    obtain ⟨a', b', c', t', m', e1, e2, x1, x2, x3, x4, x5, _⟩ := F.cut hA
    cases e1
    cases e2
    exact n ⟨x1, x2, x4, x3, x5⟩
  have ta := hw.2 a (by simp)
  have tb := hw.2 b (by simp)
  have tc := hw.2 c (by simp)
  have wd : Wds td := hw.of (by simp; omega) fun w h => by simp [h]
  have wm : Wds tm := hw.of (by simp; omega) fun w h => by simp [h]
  walk_at "rdx"
  refine rd_ixL (SqL.of l2) at_n0 ?_
  refine rd_nil ?_
  refine ⟨_, rfl, .txt _ ta, fun z H3 s3 ez Na => ?_, fun nn H3 s3 => no (fun z => nn ⟨_, rfl, z.1⟩) H3 (s02.trans s3)⟩
  cases ez
  rw [cpl_txt] at Na ⊢
  have k3 := s3 _ _ k2
  have t3 := s3 _ _ t2
  have s03 := s02.trans s3
  walk_at "rdx"
  refine rd_ixL (SqL.of k3) at_n0 ?_
  refine rd_nil ?_
  refine ⟨_, rfl, .txt _ tb, fun z H4 s4 ez Nb => ?_, fun nn H4 s4 => no (fun z => nn ⟨_, rfl, z.2.1⟩) H4 (s03.trans s4)⟩
  cases ez
  rw [cpl_txt] at Nb ⊢
  have k4 := s4 _ _ k3
  have t4 := s4 _ _ t3
  have s04 := s03.trans s4
  walk_at "rdx"
  refine rd_slL (SqL.of k4) fun u5 hu5 => ?_
  rw [show cutV (wV (List.drop 1 (a :: b :: td))) (some 1) none = wV td from cutWf _ 1]
  have s5 := same_new hu5 (.lst (wV td))
  have t5 : upd H4 u5 (.lst (wV td)) u5 = some (.lst (wV td)) := upd_same
  generalize upd H4 u5 (.lst (wV td)) = H5 at s5 t5 ⊢
  have s05 := s04.trans s5
  refine rd_nil ?_
  refine ⟨u5, td, rfl, t5, wd, fun Td ld ud H6 s6 e6 hD => ?_, fun nn H6 s6 => no (fun z => nn z.2.2.1) H6 (s05.trans s6)⟩
  have t6 := s6 _ _ (s5 _ _ t4)
  have s06 := s05.trans s6
  walk_at "rdx"
  refine rd_ixL (SqL.of t6) at_n0 ?_
  refine rd_nil ?_
  refine ⟨_, rfl, .txt _ tc, fun z H7 s7 ez Nc => ?_, fun nn H7 s7 => no (fun z => nn ⟨_, rfl, z.2.2.2.1⟩) H7 (s06.trans s7)⟩
  cases ez
  rw [cpl_txt] at Nc ⊢
  have t7 := s7 _ _ t6
  have s07 := s06.trans s7
  walk_at "rdx"
  refine rd_slL (SqL.of t7) fun u8 hu8 => ?_
  rw [show cutV (wV (c :: tm)) (some 1) none = wV tm from cutWf _ 1]
  have s8 := same_new hu8 (.lst (wV tm))
  have t8 : upd H7 u8 (.lst (wV tm)) u8 = some (.lst (wV tm)) := upd_same
  generalize upd H7 u8 (.lst (wV tm)) = H8 at s8 t8 ⊢
  have s08 := s07.trans s8
  refine rd_nil ?_
  refine ⟨u8, tm, rfl, t8, wm, fun Tm lm um H9 s9 e9 hM => ?_, fun nn H9 s9 => no (fun z => nn z.2.2.2.2) H9 (s08.trans s9)⟩
  have F := MoonF.mk Na Nb Nc Td Tm
  have s69 := (s7.trans s8).trans s9
  have s09 := s08.trans s9
  have e6 := s69 _ _ e6
  have hD := hD.same s69
  walk_at "rdx"
  refine fun y1 dy hy hdy ne => init_meE hy hdy hD (.inr ⟨ld, rfl, e6⟩) (few_map wd) (fun m1 H10 s10 N10 => ⟨rfl, ?_⟩) (fun m1 H10 s10 => qm _ _ _ _ _ F (fun g => m1 g.isMd) _ (s09.trans s10))
  have e10 := s10 _ _ e9
  have hM := hM.same s10
  have s010 := s09.trans s10
  clear hy hdy ne
  walk_at "rdx"
  refine fun y2 dy hy hdy ne => init_meE hy hdy hM (.inr ⟨lm, rfl, e10⟩) (few_map wm) (fun m2 H11 s11 O11 => ⟨rfl, ?_⟩) (fun m2 H11 s11 => qm _ _ _ _ _ F (fun g => m2 g.isMm) _ (s010.trans s11))
  have N11 := N10.same s11
  have s011 := s010.trans s11
  clear hy hdy ne
  walk_at "rdx"
  exact fun x dx hx hdx ne => init_moonE hx hdx N11 O11 (sm_bt (num_sm Na)) (fun g H12 s12 S12 => ⟨rfl, q _ _ _ _ _ F g x _ (s011.trans s12) S12⟩) (fun g H12 s12 => qm _ _ _ _ _ F g _ (s011.trans s12))
theorem sc_read_calendar : FnScope ["text", "words"] ["text"] (defScope s_read_calendar) := ⟨rfl, rfl, rfl, by decide +kernel, rfl, by decide +kernel, by decide +kernel⟩
theorem ok_read_calendar {f : Addr} {fd : FuncData} (F : Fun K "read_calendar" "read_calendar" s_read_calendar f fd) (er : Errs K mg c_FeastError c_NoNumber c_NoMeasure c_NoText c_Measure c_Calendar c_Sun c_Moon) (c_is_readable : Cal P w K mg base 1 "is_readable" ["text"] spReadable73) (c_read_sun : CalE P w K mg base 9 "read_sun" ["words"] (spReadSE K c_Sun c_Measure c_NoText c_NoMeasure)) (c_read_moon : CalE P w K mg base 7 "read_moon" ["words"] (spReadME K c_Moon c_Measure c_NoText c_NoMeasure)) : FnOk P w K mg base (CX1 P w) 10 f fd ["text"] (spReadCE K c_Sun c_Moon c_Measure c_NoText c_NoMeasure) := by
  refine F.okE (k := 9) sc_read_calendar (fun vs H Q E h => ?_) (fun cdv A outer s H vs Q E hr h T => ?_)
  · obtain ⟨v, rfl, _⟩ := h
    rfl
  obtain ⟨v, rfl, hv, q, qm, qt⟩ := h
  have one : 1 ≤ sizeLine := by decide
  refine ⟨_, (pss_cons (ps_if (pt_not (pt_val (pe_cal c_is_readable (hr.mono (by decide)) rfl (pa_cons (pv 0) pa_nil))))
        (pss_one (ps_raise T rfl er.x_NoText rfl (pa_cons pe_str pa_nil)))
        pss_nil)
      (pss_cons (ps_set (i := 1) sc_read_calendar.nd rfl (by first | exact Or.inl rfl | exact Or.inr rfl) (pe_bm PySem.F.plainAttrs_str PySem.F.slot_str_split PySem.F.type_str_split mt_split (pv 0) (pa_cons pe_str pa_nil)))
      (pss_cons (ps_if (pt_cmpR op_eq (pe_ix ix_list (pv 1) pe_int (fun _ _ => rfl)) pe_str (nomark _))
        (pss_one (ps_ret (pe_calE T c_read_sun (hr.mono (by decide)) rfl (pa_cons (pe_slice sl_list (pv 1) (po_some pe_int) po_none) pa_nil))))
        pss_nil)
      (pss_cons (ps_if (pt_cmpR op_eq (pe_ix ix_list (pv 1) pe_int (fun _ _ => rfl)) pe_str (nomark _))
        (pss_one (ps_ret (pe_calE T c_read_moon (hr.mono (by decide)) rfl (pa_cons (pe_slice sl_list (pv 1) (po_some pe_int) po_none) pa_nil))))
        pss_nil)
      (pss_one (ps_raise T rfl er.x_NoText rfl (pa_cons pe_str pa_nil))))))), ?_⟩
  walk_at "rdx"
  refine ⟨v, rfl, hv, fun z ez b hb => ?_, fun nt => ?_⟩
  rotate_left
  · walk_at "rdx"
    refine iteT ?_
    walk_at "rdx"
    exact ⟨one, qt (fun ⟨d, z, e, _⟩ => by rw [e] at nt; cases nt) _ (Same.refl _)⟩
  subst ez
  have hz : TOk z := by cases hv; assumption
  walk_at "rdx"
  by_cases c0 : (cpl z).length ≤ 4000
  rotate_left
  · rw [show b = false from (Bool.not_eq_true _).mp fun e => c0 (hb.mp e)]
    refine iteT ?_
    walk_at "rdx"
    exact ⟨one, qt (fun ⟨d, y, e, F⟩ => by cases e; cases F <;> exact c0 (by assumption)) _ (Same.refl _)⟩
  rw [hb.mpr c0]
  refine iteF ?_
  walk_at "rdx"
  refine rd_bm ?_
  walk_at "rdx"
  refine ⟨rfl, ?_⟩
  walk_at "rdx"
  refine ⟨z, 32, rfl, by rw [e32], by decide, hz.len, fun l hl => ?_⟩
  have eV : (splS 32 z).map V.str = wV (spl 32 (cpl z)) := rfl
  rw [eV]
  have W : Wds (spl 32 (cpl z)) := ⟨by have := splS_len 32 z; unfold splS at this; rw [List.length_map] at this; have := len_cpl z; show (spl 32 (cps z)).length ≤ 5000; omega, fun w hw => hz.part hw (spl_mem 32 _ w hw)⟩
  obtain ⟨w0, us, ew⟩ : ∃ w us, spl 32 (cpl z) = w :: us := ⟨_, _, spl_eta 32 _⟩
  rw [ew] at W ⊢
  have s1 := same_new hl (.lst (wV (w0 :: us)))
  have t1 : upd H l (.lst (wV (w0 :: us))) l = some (.lst (wV (w0 :: us))) := upd_same
  generalize upd H l (.lst (wV (w0 :: us))) = H1 at s1 t1 ⊢
  walk_at "rdx"
  refine rd_ixL (SqL.of t1) at_n0 ?_
  walk_at "rdx"
  rw [eSun]
  by_cases c1 : w0 = [115, 117, 110]
  · subst c1
    refine iteD rfl ?_
    walk_at "rdx"
    refine rd_slL (SqL.of t1) fun u hu => ?_
    rw [show cutV (wV ([115, 117, 110] :: us)) (some 1) none = wV us from cutWf _ 1]
    have s2 := same_new hu (.lst (wV us))
    refine rd_nil ?_
    refine ⟨u, us, rfl, upd_same, W.drop 1, fun s ls lp ts F g x H3 s3 S3 => q (.sun s ls lp ts) ⟨z, rfl, .sun c0 ew F⟩ g x _ ((s1.trans s2).trans s3) S3, fun s ls lp ts F g H3 s3 => qm (.sun s ls lp ts) ⟨z, rfl, .sun c0 ew F⟩ g _ ((s1.trans s2).trans s3), fun nn H3 s3 => qt (fun ⟨d, y, e, F⟩ => ?_) _ ((s1.trans s2).trans s3)⟩
    cases e
    cases F with
    | sun _ c F =>
      rw [ew] at c
      cases c
      exact nn ⟨_, _, _, _, F⟩
    | moon _ c F =>
      rw [ew] at c
      cases c
  refine iteN (fun z => c1 (txt_inj (V.str.inj z))) ?_
  walk_at "rdx"
  refine rd_ixL (SqL.of t1) at_n0 ?_
  walk_at "rdx"
  rw [eMoon]
  by_cases c2 : w0 = [109, 111, 111, 110]
  · subst c2
    refine iteD rfl ?_
    walk_at "rdx"
    refine rd_slL (SqL.of t1) fun u hu => ?_
    rw [show cutV (wV ([109, 111, 111, 110] :: us)) (some 1) none = wV us from cutWf _ 1]
    have s2 := same_new hu (.lst (wV us))
    refine rd_nil ?_
    refine ⟨u, us, rfl, upd_same, W.drop 1, fun s bd td bm tm F g x H3 s3 S3 => q (.moon s bd td bm tm) ⟨z, rfl, .moon c0 ew F⟩ g x _ ((s1.trans s2).trans s3) S3, fun s bd td bm tm F g H3 s3 => qm (.moon s bd td bm tm) ⟨z, rfl, .moon c0 ew F⟩ g _ ((s1.trans s2).trans s3), fun nn H3 s3 => qt (fun ⟨d, y, e, F⟩ => ?_) _ ((s1.trans s2).trans s3)⟩
    cases e
    cases F with
    | sun _ c F =>
      rw [ew] at c
      cases c
    | moon _ c F =>
      rw [ew] at c
      cases c
      exact nn ⟨_, _, _, _, _, F⟩
  refine iteN (fun z => c2 (txt_inj (V.str.inj z))) ?_
  walk_at "rdx"
  refine ⟨one, qt (fun ⟨d, y, e, F⟩ => ?_) _ s1⟩
  cases e
  cases F with
  | sun _ c F =>
    rw [ew] at c
    cases c
    exact c1 rfl
  | moon _ c F =>
    rw [ew] at c
    cases c
    exact c2 rfl
theorem sc_law_cell_at : FnScope ["_law_script", "_law_k"] ["_law_script", "_law_k"] (defScope s_law_cell_at) := ⟨rfl, rfl, rfl, by decide +kernel, rfl, by decide +kernel, by decide +kernel⟩
theorem ok_law_cell_at {f : Addr} {fd : FuncData} (F : Fun K "_law_cell_at" "_law_cell_at" s_law_cell_at f fd) (z_len : mg "len" = none) : FnOk P w K mg base CX0 1 f fd ["_law_script", "_law_k"] (spCell K) := by
  refine F.ok (k := 0) sc_law_cell_at (fun vs H Q E h => ?_) (fun cdv A outer s H vs Q E hr h => ?_)
  · obtain ⟨a, ns, k, rfl, _⟩ := h
    rfl
  obtain ⟨a, ns, k, rfl, hS, h0, hl, q⟩ := h
  refine ⟨_, (pss_cons (ps_if (pt_cmpR op_lt (pv 1) (pe_callB call_len_seq rfl z_len PySem.boot_len (pa_cons (pv 0) pa_nil)) (nomark _))
        (pss_one (ps_ret (pe_ix ix_list (pv 0) (pv 1) (fun _ _ => rfl))))
        pss_nil)
      (pss_one (ps_ret pe_int))), ?_⟩
  walk_at "rd"
  refine ⟨a, _, rfl, .inl hS, ?_⟩
  walk_at "rd"
  rw [List.length_map]
  refine ite2d (fun c => ?_) (fun c => ?_)
  · walk_at "rd"
    refine rd_ixL hS (at_ints h0 c) ?_
    exact q
  · walk_at "rd"
    have e : ns.getD k.toNat 0 = 0 := by
      simp [List.getD, List.getElem?_eq_none (show ns.length ≤ k.toNat by omega)]
    rw [e] at q
    exact q
theorem sc_law_word_of : FnScope ["_law_cell", "_law_some"] ["_law_cell"] (defScope s_law_word_of) := ⟨rfl, rfl, rfl, by decide +kernel, rfl, by decide +kernel, by decide +kernel⟩
theorem ok_law_word_of {f : Addr} {fd : FuncData} (F : Fun K "_law_word_of" "_law_word_of" s_law_word_of f fd) : FnOk P w K mg base CX0 1 f fd ["_law_cell"] spOddT := by
  refine F.ok (k := 0) sc_law_word_of (fun vs H Q E h => ?_) (fun cdv A outer s H vs Q E hr h => ?_)
  · obtain ⟨x, rfl, _⟩ := h
    rfl
  obtain ⟨x, rfl, q⟩ := h
  refine bss_ex ⟨_, (bss_cons (bs_set (i := 1) sc_law_word_of.nd rfl (by first | exact Or.inl rfl | exact Or.inr rfl) (be_strs (ss := ["sun", "moon", "leap", "/", "+1,3,4", "-0,0,1", "0", "", "7,", "leap 1 +1,3,4", "29 / 12", "1,2,3"]) (by rfl)))
    (bss_one (bs (ps_ret (pe_ix ix_list (pv 1) (pe_op op_mod (pv 0) pe_int) (fun _ _ => rfl)))))), ?_⟩
  walk_at "rdc"
  refine rd_strs ?_
  refine ⟨(by show 12 ≤ sizeLine; decide), fun l hl => ?_⟩
  have s1 := same_new hl (.lst ((["sun", "moon", "leap", "/", "+1,3,4", "-0,0,1", "0", "", "7,", "leap 1 +1,3,4", "29 / 12", "1,2,3"] : List Str).map V.str))
  walk_at "rdc"
  obtain ⟨z, hz, tz⟩ := at_texts (k := 100) (xs := (["sun", "moon", "leap", "/", "+1,3,4", "-0,0,1", "0", "", "7,", "leap 1 +1,3,4", "29 / 12", "1,2,3"] : List Str).map V.str) (i := x % 12) (by decide +kernel) (by omega) (by show x % 12 < 12; omega)
  refine rd_ixL (SqL.of upd_same) hz ?_
  exact q z _ s1 tz
theorem sc_law_terms : FnScope ["_law_cell", "_law_words_here", "_law_k", "_law_n", "_law_sign", "_law_numbers"] ["_law_cell"] (defScope s_law_terms) := ⟨rfl, rfl, rfl, by decide +kernel, rfl, by decide +kernel, by decide +kernel⟩
theorem ok_law_terms {f : Addr} {fd : FuncData} (F : Fun K "_law_terms" "_law_terms" s_law_terms f fd) (z_range : mg "range" = none) (z_str : mg "str" = none) : FnOk P w K mg base CX0 1 f fd ["_law_cell"] spTerms73 := by
  refine F.ok (k := 0) sc_law_terms (fun vs H Q E h => ?_) (fun cdv A outer s H vs Q E hr h => ?_)
  · obtain ⟨x, rfl, _⟩ := h
    rfl
  obtain ⟨x, rfl, q⟩ := h
  refine ⟨_, (pss_cons (ps_set (i := 1) sc_law_terms.nd rfl (by first | exact Or.inl rfl | exact Or.inr rfl) (pe_lst pa_nil))
      (pss_cons (ps_for PassesOwn.never rfl (pi_range1 rfl z_range (pa_cons (pe_op op_mod (pv 0) pe_int) pa_nil)) (pg_name (i := 2) sc_law_terms.nd rfl (by first | exact Or.inl rfl | exact Or.inr rfl))
        (pss_cons (ps_set (i := 3) sc_law_terms.nd rfl (by first | exact Or.inl rfl | exact Or.inr rfl) (pe_op op_add pe_int (pe_op op_mod (pe_op op_fdivB (pe_op op_add (pv 0) (pe_op op_mulB (pe_op op_mulB pe_int (pv 2)) (pv 2))) pe_int) (pe_ix ix_list (pe_lst (pa_cons pe_int (pa_cons pe_int pa_nil))) (pe_op op_mod (pv 2) pe_int) (fun _ _ => rfl)))))
      (pss_cons (ps_set (i := 4) sc_law_terms.nd rfl (by first | exact Or.inl rfl | exact Or.inr rfl) (pe_ix ix_str pe_str (pe_op op_mod (pe_op op_add (pe_op op_fdivB (pv 0) pe_int) (pv 2)) pe_int) (fun _ _ => rfl)))
      (pss_cons (ps_set (i := 5) sc_law_terms.nd rfl (by first | exact Or.inl rfl | exact Or.inr rfl) (pe_lst (pa_cons (pe_callTy call_str_int rfl z_str PyProof.Rows.boot_str (pa_cons (pe_op op_mod (pe_op op_add (pe_op op_fdivB (pv 0) pe_int) (pv 2)) (pe_op op_add (pv 3) pe_int)) pa_nil)) (pa_cons (pe_callTy call_str_int rfl z_str PyProof.Rows.boot_str (pa_cons (pe_op op_mod (pe_op op_fdivB (pv 0) pe_int) (pv 3)) pa_nil)) (pa_cons (pe_callTy call_str_int rfl z_str PyProof.Rows.boot_str (pa_cons (pv 3) pa_nil)) pa_nil)))))
      (pss_one (ps_expr (pe_bm PySem.F.plainAttrs_list PySem.F.slot_list_append PySem.F.type_list_append mt_append (pv 1) (pa_cons (pe_op op_add_str (pv 4) (pe_bm PySem.F.plainAttrs_str PySem.F.slot_str_join PySem.F.type_str_join mt_join pe_str (pa_cons (pv 5) pa_nil))) pa_nil))))))))
      (pss_one (ps_ret (pv 1))))), ?_⟩
  walk_at "rdc"
  refine ⟨Nat.zero_le _, fun l hl => ?_⟩
  have s0 := same_new hl (.lst [])
  have t0 : upd H l (.lst []) l = some (.lst []) := upd_same
  generalize upd H l (.lst []) = H0 at s0 t0 ⊢
  walk_at "rdc"
  walk_at "rdf"
  walk_at "rdc"
  refine ⟨_, rfl, by omega, by omega, for_range (fun i σ' H' => Same H H' ∧ H l = none ∧ ∃ (zs : List Str) (a b c d : Option V), H' l = some (.lst (zs.map V.str)) ∧ WL (i * 5800) zs ∧ σ' = [some (.int x), some (.ref l), a, b, c, d]) ⟨s0, hl, [], _, _, _, _, t0, WL.nil _, rfl⟩ ?_ ?_⟩
  · rintro i σ' H' hi ⟨s1, hl, zs, a, b, c, d, t1, W, rfl⟩
    rw [Int.zero_add]
    walk_at "rdc"
    refine rd_i ⟨64, 64, bt_small (by decide) (by decide) (by decide), bt_small (by omega) (by omega) (by decide), by decide⟩ ?_
    walk_at "rdc"
    refine rd_i ⟨64, 64, bt_small (by omega) (by omega) (by decide), bt_small (by omega) (by omega) (by decide), by decide⟩ ?_
    walk_at "rdc"
    refine ⟨two', fun l2 hl2 => ?_⟩
    have s2 := same_new hl2 (.lst [.int 9, .int 1002])
    have t2 : upd H' l2 (.lst [.int 9, .int 1002]) l2 = some (.lst [.int 9, .int 1002]) := upd_same
    generalize upd H' l2 (.lst [.int 9, .int 1002]) = H2 at s2 t2 ⊢
    have t12 := s2 _ _ t1
    walk_at "rdc"
    obtain ⟨m, hm, m0, m1⟩ : ∃ m : Int, atI [V.int 9, .int 1002] ((i : Int) % 2) = some (.int m) ∧ 0 < m ∧ m ≤ 1002 := by
      rcases (by omega : (i : Int) % 2 = 0 ∨ (i : Int) % 2 = 1) with e | e <;> rw [e]
      · exact ⟨_, rfl, by decide, by decide⟩
      · exact ⟨_, rfl, by decide, by decide⟩
    refine rd_ixL (SqL.of t2) hm ?_
    generalize (x + 31 * (i : Int) * (i : Int)) / 4 = y0
    refine rd_i m0 ?_
    have p0 := Int.emod_nonneg y0 (show m ≠ 0 by omega)
    have p1 := Int.emod_lt_of_pos y0 m0
    generalize y0 % m = n0 at p0 p1 ⊢
    walk_at "rdc"
    obtain ⟨c0, hc0, c1⟩ : ∃ c, atI (Str.ofString "+-").cps.toList ((x / 16 + (i : Int)) % 2) = some c ∧ c < 128 := by
      have e0 : (Str.ofString "+-").cps.toList = [43, 45] := by decide +kernel
      rw [e0]
      rcases (by omega : (x / 16 + (i : Int)) % 2 = 0 ∨ (x / 16 + (i : Int)) % 2 = 1) with e | e <;> rw [e]
      · exact ⟨43, rfl, by decide⟩
      · exact ⟨45, rfl, by decide⟩
    refine ⟨_, _, c0, rfl, rfl, (by decide +kernel), hc0, ?_⟩
    walk_at "rdc"
    have q0 := Int.emod_nonneg (x / 8 + (i : Int)) (show 1 + n0 + 1 ≠ 0 by omega)
    have q1 := Int.emod_lt_of_pos (x / 8 + (i : Int)) (show (0 : Int) < 1 + n0 + 1 by omega)
    generalize (x / 8 + (i : Int)) % (1 + n0 + 1) = a0 at q0 q1 ⊢
    have la : a0.natAbs.log2 < 1920 := log_small (by omega) (by omega)
    refine ⟨_, rfl, la, ?_⟩
    walk_at "rdc"
    have r0 := Int.emod_nonneg (x / 8) (show 1 + n0 ≠ 0 by omega)
    have r1 := Int.emod_lt_of_pos (x / 8) (show (0 : Int) < 1 + n0 by omega)
    generalize x / 8 % (1 + n0) = b0 at r0 r1 ⊢
    have lb : b0.natAbs.log2 < 1920 := log_small (by omega) (by omega)
    refine ⟨_, rfl, lb, ?_⟩
    walk_at "rdc"
    have lc : (1 + n0).natAbs.log2 < 1920 := log_small (by omega) (by omega)
    refine ⟨_, rfl, lc, ?_⟩
    walk_at "rdc"
    refine ⟨three, fun l3 hl3 => ?_⟩
    have ta := TL.int la
    have tb := TL.int lb
    have tc := TL.int lc
    have ea : Str.ofString (toString a0) = intT a0 := rfl
    have eb : Str.ofString (toString b0) = intT b0 := rfl
    have ec : Str.ofString (toString (1 + n0)) = intT (1 + n0) := rfl
    rw [ea, eb, ec]
    generalize intT a0 = za at ta ⊢
    generalize intT b0 = zb at tb ⊢
    generalize intT (1 + n0) = zc at tc ⊢
    have s3 := same_new hl3 (.lst [.str za, .str zb, .str zc])
    have t3 : upd H2 l3 (.lst [.str za, .str zb, .str zc]) l3 = some (.lst [.str za, .str zb, .str zc]) := upd_same
    generalize upd H2 l3 (.lst [.str za, .str zb, .str zc]) = H3 at s3 t3 ⊢
    have t13 := s3 _ _ t12
    have W3 : WL 5766 [za, zb, zc] := WL.cons ta (WL.cons tb (WL.one tc))
    walk_at "rdc"
    refine rd_append rfl t13 ?_
    walk_at "rdc"
    refine rd_bm ?_
    walk_at "rdc"
    refine ⟨rfl, ?_⟩
    walk_at "rdc"
    refine ⟨_, l3, [za, zb, zc], rfl, rfl, SqL.of t3, (by rw [e44]; exact W3.sum (by decide)), ?_⟩
    rw [e44]
    have tj := W3.join (c := 44) (by decide)
    generalize Txt.join ⟨#[44]⟩ [za, zb, zc] = zj at tj ⊢
    have ts := (TL.sign c1).app tj
    refine ⟨_, _, rfl, rfl, (by have := tj.len; have := (TL.sign c1).len; rw [sizeLine_eq]; omega), ?_⟩
    walk_at "rdc"
    have wl := W.fit
    refine rd_app t13 (by rw [sizeLine_eq]; omega) ?_
    walk_at "rdc"
    refine ⟨same_app hl ((s1.trans s2).trans s3), hl, zs ++ [(⟨#[c0]⟩ : Str) ++ zj], _, _, _, _, ?_, ?_, rfl⟩
    · rw [upd_same, List.map_append]
      rfl
    · exact (W.app (WL.one ts)).mono (by omega)
  · rintro σ' H' ⟨s1, hl, zs, a, b, c, d, t1, W, rfl⟩
    walk_at "rdc"
    exact q l zs H' s1 t1 (W.mono (by omega))
theorem sc_law_words : FnScope ["_law_script", "_law_cell", "_law_start", "_law_two", "_law_three", "_law_most", "_law_lengths", "_law_words_here", "_law_terms_here"] ["_law_script"] (defScope s_law_words) := ⟨rfl, rfl, rfl, by decide +kernel, rfl, by decide +kernel, by decide +kernel⟩
theorem ok_law_words {f : Addr} {fd : FuncData} (F : Fun K "_law_words" "_law_words" s_law_words f fd) (c__law_cell_at : Cal P w K mg base 1 "_law_cell_at" ["_law_script", "_law_k"] (spCell K)) (c__law_terms : Cal P w K mg base 1 "_law_terms" ["_law_cell"] spTerms73) (z_str : mg "str" = none) (z_range : mg "range" = none) : FnOk P w K mg base CX0 2 f fd ["_law_script"] (spWords73 K) := by
  refine F.ok (k := 1) sc_law_words (fun vs H Q E h => ?_) (fun cdv A outer s H vs Q E hr h => ?_)
  · obtain ⟨a, ns, rfl, _⟩ := h
    rfl
  obtain ⟨a, ns, rfl, hS, h63, q⟩ := h
  have tMoon : TL 4 (Str.ofString "moon") := ⟨by decide +kernel, by decide +kernel⟩
  have tSun : TL 3 (Str.ofString "sun") := ⟨by decide +kernel, by decide +kernel⟩
  have tLeap : TL 4 (Str.ofString "leap") := ⟨by decide +kernel, by decide +kernel⟩
  have tSl : TL 1 (Str.ofString "/") := ⟨by decide +kernel, by decide +kernel⟩
  refine ⟨_, (pss_cons (ps_set (i := 1) sc_law_words.nd rfl (by first | exact Or.inl rfl | exact Or.inr rfl) (pe_cal c__law_cell_at (hr.mono (by decide)) rfl (pa_cons (pv 0) (pa_cons pe_int pa_nil))))
      (pss_cons (ps_set (i := 2) sc_law_words.nd rfl (by first | exact Or.inl rfl | exact Or.inr rfl) (pe_callTy call_str_int rfl z_str PyProof.Rows.boot_str (pa_cons (pe_op op_sub (pe_op op_mod (pe_op op_fdivB (pv 1) pe_int) (pe_op op_pow pe_int pe_int)) (pe_op op_mulB (pe_op op_pow pe_int pe_int) (pe_op op_mod (pv 1) pe_int))) pa_nil)))
      (pss_cons (ps_set (i := 3) sc_law_words.nd rfl (by first | exact Or.inl rfl | exact Or.inr rfl) (pe_cal c__law_cell_at (hr.mono (by decide)) rfl (pa_cons (pv 0) (pa_cons pe_int pa_nil))))
      (pss_cons (ps_set (i := 4) sc_law_words.nd rfl (by first | exact Or.inl rfl | exact Or.inr rfl) (pe_cal c__law_cell_at (hr.mono (by decide)) rfl (pa_cons (pv 0) (pa_cons pe_int pa_nil))))
      (pss_cons (ps_if (pt_cmpR op_eq (pe_op op_mod (pv 3) pe_int) pe_int (nomark _))
        (pss_cons (ps_set (i := 7) sc_law_words.nd rfl (by first | exact Or.inl rfl | exact Or.inr rfl) (pe_op op_cat (pe_op op_cat (pe_lst (pa_cons pe_str (pa_cons (pv 2) (pa_cons (pe_callTy call_str_int rfl z_str PyProof.Rows.boot_str (pa_cons (pe_op op_mod (pe_op op_fdivB (pv 3) pe_int) pe_int) pa_nil)) pa_nil)))) (pe_cal c__law_terms (hr.mono (by decide)) rfl (pa_cons (pe_op op_fdivB (pv 3) pe_int) pa_nil))) (pe_lst (pa_cons pe_str (pa_cons (pe_callTy call_str_int rfl z_str PyProof.Rows.boot_str (pa_cons (pe_op op_mod (pv 4) pe_int) pa_nil)) pa_nil)))))
      (pss_one (ps_ret (pe_op op_cat (pv 7) (pe_cal c__law_terms (hr.mono (by decide)) rfl (pa_cons (pe_op op_fdivB (pv 4) pe_int) pa_nil))))))
        pss_nil)
      (pss_cons (ps_set (i := 5) sc_law_words.nd rfl (by first | exact Or.inl rfl | exact Or.inr rfl) (pe_ix ix_list (pe_lst (pa_cons pe_int (pa_cons pe_int pa_nil))) (pe_op op_mod (pe_op op_fdivB (pv 4) pe_int) pe_int) (fun _ _ => rfl)))
      (pss_cons (ps_setComp (i := 6) sc_law_words.nd rfl (by first | exact Or.inl rfl | exact Or.inr rfl) rfl (compOk_freeM ["_law_script", "_law_cell", "_law_start", "_law_two", "_law_three", "_law_most", "_law_lengths", "_law_words_here", "_law_terms_here"] ["_law_script", "_law_cell", "_law_start", "_law_two", "_law_three", "_law_most", "_law_lengths", "_law_words_here", "_law_terms_here"] rfl rfl (by with_unfolding_all rfl) (by decide +kernel) rfl (by decide +kernel) rfl (by decide +kernel) (by walk_at "fm") (by with_unfolding_all rfl) (by with_unfolding_all rfl)) (pi_range1 rfl z_range (pa_cons (pe_op op_add pe_int (pe_op op_mod (pv 4) pe_int)) pa_nil)) (fun _ _ _ _ => pifs_nil) (fun _ _ _ _ => (pe_callTy call_str_int rfl z_str PyProof.Rows.boot_str (pa_cons (pe_op op_mod (pe_op op_fdivB (pv 4) (pe_op op_add pe_int (pe_op op_mulB pe_int (pv 0)))) (pv 6)) pa_nil))))
      (pss_cons (ps_set (i := 7) sc_law_words.nd rfl (by first | exact Or.inl rfl | exact Or.inr rfl) (pe_lst (pa_cons pe_str (pa_cons (pv 2) (pa_cons (pe_bm PySem.F.plainAttrs_str PySem.F.slot_str_join PySem.F.type_str_join mt_join pe_str (pa_cons (pv 6) pa_nil)) pa_nil)))))
      (pss_cons (ps_if (pt_cmpR op_eq (pe_op op_mod (pe_op op_fdivB (pv 4) pe_int) pe_int) pe_int (nomark _))
        (pss_one (ps_ret (pv 7)))
        pss_nil)
      (pss_cons (ps_set (i := 8) sc_law_words.nd rfl (by first | exact Or.inl rfl | exact Or.inr rfl) (pe_cal c__law_terms (hr.mono (by decide)) rfl (pa_cons (pe_op op_add (pe_op op_add (pe_op op_mulB (pe_op op_mod (pe_op op_fdivB (pv 4) pe_int) pe_int) pe_int) pe_int) (pe_op op_mod (pe_op op_fdivB (pv 4) pe_int) pe_int)) pa_nil)))
      (pss_one (ps_ret (pe_op op_cat (pe_op op_cat (pv 7) (pe_lst (pa_cons pe_str (pa_cons (pe_callTy call_str_int rfl z_str PyProof.Rows.boot_str (pa_cons (pe_op op_mod (pe_op op_fdivB (pv 4) pe_int) pe_int) pa_nil)) pa_nil)))) (pv 8)))))))))))))), ?_⟩
  walk_at "rdc"
  rw [p39, p40]
  generalize ns.getD (Int.toNat 1) 0 = c0
  refine rd_i ⟨200, 64, bt_of (by decide) (by decide), bt_small (by omega) (by omega) (by decide), by decide⟩ ?_
  walk_at "rdc"
  generalize hv : c0 / 2 % 10000000000000000000000000000000000000000 - 1000000000000000000000000000000000000000 * (c0 % 2) = v0
  have l0 : v0.natAbs.log2 < 1920 := log_small (by omega) (by omega)
  refine ⟨_, rfl, l0, ?_⟩
  have tst := TL.int l0
  have e0 : Str.ofString (toString v0) = intT v0 := rfl
  rw [e0]
  generalize intT v0 = st at tst ⊢
  walk_at "rdc"
  generalize ns.getD (Int.toNat 2) 0 = c2
  generalize ns.getD (Int.toNat 3) 0 = c3
  refine ite2d (fun _ => ?_) (fun _ => ?_)
  · walk_at "rdc"
    have lg2 : (c2 / 2 % 40).natAbs.log2 < 1920 := log_small (by omega) (by omega)
    refine ⟨_, rfl, lg2, ?_⟩
    have t40 := TL.int lg2
    have e1 : Str.ofString (toString (c2 / 2 % 40)) = intT (c2 / 2 % 40) := rfl
    rw [e1]
    generalize intT (c2 / 2 % 40) = y at t40 ⊢
    walk_at "rdc"
    refine ⟨three, fun l1 hl1 => ?_⟩
    have W1 := WL.cons tMoon (WL.cons tst (WL.one t40))
    have s1 := same_new hl1 (.lst [.str (Str.ofString "moon"), .str st, .str y])
    have t1 : upd H l1 (.lst [.str (Str.ofString "moon"), .str st, .str y]) l1 = some (.lst [.str (Str.ofString "moon"), .str st, .str y]) := upd_same
    generalize upd H l1 (.lst [.str (Str.ofString "moon"), .str st, .str y]) = H1 at s1 t1 ⊢
    have t1 : H1 l1 = some (.lst ([Str.ofString "moon", st, y].map V.str)) := t1
    walk_at "rdc"
    refine ⟨_, rfl, fun l2 zs2 H2 s2 t2 W2 => ?_⟩
    refine rd_cat (s2 _ _ t1) t2 (by have := W1.fit; have := W2.fit; rw [sizeLine_eq]; omega) (fun l3 hl3 => ?_)
    rw [← List.map_append]
    have W3 := W1.app W2
    generalize [Str.ofString "moon", st, y] ++ zs2 = zs3 at W3 ⊢
    have s3 := same_new hl3 (.lst (zs3.map V.str))
    have t3 : upd H2 l3 (.lst (zs3.map V.str)) l3 = some (.lst (zs3.map V.str)) := upd_same
    generalize upd H2 l3 (.lst (zs3.map V.str)) = H3 at s3 t3 ⊢
    walk_at "rdc"
    have lg4 : (c3 % 24).natAbs.log2 < 1920 := log_small (by omega) (by omega)
    refine ⟨_, rfl, lg4, ?_⟩
    have t24 := TL.int lg4
    have e2 : Str.ofString (toString (c3 % 24)) = intT (c3 % 24) := rfl
    rw [e2]
    generalize intT (c3 % 24) = y4 at t24 ⊢
    walk_at "rdc"
    refine ⟨two, fun l4 hl4 => ?_⟩
    have W4 := WL.cons tSl (WL.one t24)
    have s4 := same_new hl4 (.lst [.str (Str.ofString "/"), .str y4])
    have t4 : upd H3 l4 (.lst [.str (Str.ofString "/"), .str y4]) l4 = some (.lst [.str (Str.ofString "/"), .str y4]) := upd_same
    generalize upd H3 l4 (.lst [.str (Str.ofString "/"), .str y4]) = H4 at s4 t4 ⊢
    have t4 : H4 l4 = some (.lst ([Str.ofString "/", y4].map V.str)) := t4
    walk_at "rdc"
    refine rd_cat (s4 _ _ t3) t4 (by have := W3.fit; have := W4.fit; rw [sizeLine_eq]; omega) (fun l5 hl5 => ?_)
    rw [← List.map_append]
    have W5 := W3.app W4
    generalize zs3 ++ [Str.ofString "/", y4] = zs5 at W5 ⊢
    have s5 := same_new hl5 (.lst (zs5.map V.str))
    have t5 : upd H4 l5 (.lst (zs5.map V.str)) l5 = some (.lst (zs5.map V.str)) := upd_same
    generalize upd H4 l5 (.lst (zs5.map V.str)) = H5 at s5 t5 ⊢
    walk_at "rdc"
    refine ⟨_, rfl, fun l6 zs6 H6 s6 t6 W6 => ?_⟩
    refine rd_cat (s6 _ _ t5) t6 (by have := W5.fit; have := W6.fit; rw [sizeLine_eq]; omega) (fun l7 hl7 => ?_)
    rw [← List.map_append]
    exact q l7 _ _ ((((s1.trans s2).trans s3).trans ((s4.trans s5).trans s6)).trans (same_new hl7 _)) upd_same ((W5.app W6).mono (by decide))
  walk_at "rdc"
  refine ⟨two', fun l1 hl1 => ?_⟩
  have s1 := same_new hl1 (.lst [.int 40, .int 2000])
  have t1 : upd H l1 (.lst [.int 40, .int 2000]) l1 = some (.lst [.int 40, .int 2000]) := upd_same
  generalize upd H l1 (.lst [.int 40, .int 2000]) = H1 at s1 t1 ⊢
  walk_at "rdc"
  obtain ⟨m, hm, m0, m1⟩ : ∃ m : Int, atI [V.int 40, .int 2000] (c3 / 6000 % 2) = some (.int m) ∧ 0 < m ∧ m ≤ 2000 := by
    rcases (by omega : c3 / 6000 % 2 = 0 ∨ c3 / 6000 % 2 = 1) with e | e <;> rw [e]
    · exact ⟨_, rfl, by decide, by decide⟩
    · exact ⟨_, rfl, by decide, by decide⟩
  refine rd_ixL (SqL.of t1) hm ?_
  walk_at "rdc"
  refine rd_comp (rd_rng1 ?_)
  walk_at "rdc"
  refine ⟨1 + c3 % 4, rfl, by omega, by omega, ?_⟩
  refine comp_inv walk_r (by rw [List.length_map, List.length_range]; exact small1000 (by omega)) (fun D i ys H2 => H2 D = some (.lst ys) ∧ Same H1 H2 ∧ ∃ zs : List Str, ys = zs.map V.str ∧ zs.length = i ∧ WL (i * 1922) zs) (fun D hD => ⟨upd_same, same_new hD _, [], rfl, rfl, WL.nil _⟩)
    (fun D i ys H2 _ ⟨h1, _, zs, h3, h4, _⟩ => ⟨h1, by rw [h3, List.length_map]; omega, trivial⟩) (fun D i x ys H2 hD hx ⟨h1, h2, zs, h3, h4, h5⟩ => ?_) (fun D ys H2 hD ⟨h1, h2, zs, h3, h4, h5⟩ => ?_)
  · rw [List.getElem?_map] at hx
    obtain ⟨j, hj, rfl⟩ := Option.map_eq_some_iff.mp hx
    have jl : j < (1 + c3 % 4).toNat := List.mem_range.mp (List.mem_of_getElem? hj)
    refine rd_true (iteT ?_)
    walk_at "rdc"
    refine rd_i ⟨64, 64, bt_small (by decide) (by decide) (by decide), bt_small (by omega) (by omega) (by decide), by decide⟩ ?_
    walk_at "rdc"
    refine rd_i (cdiv_small (by omega) (by omega)) ?_
    walk_at "rdc"
    generalize c2 / (2 + 11 * (0 + (j : Int))) = y0
    have p0 := Int.emod_nonneg y0 (show m ≠ 0 by omega)
    have p1 := Int.emod_lt_of_pos y0 m0
    generalize y0 % m = n0 at p0 p1 ⊢
    have ln : n0.natAbs.log2 < 1920 := log_small (by omega) (by omega)
    refine ⟨_, rfl, ln, h1, upd_same, same_app hD h2, zs ++ [intT n0], ?_, ?_, ?_⟩
    · rw [h3, List.map_append]
      rfl
    · rw [List.length_append, h4]
      rfl
    · exact (h5.app (WL.one (TL.int ln))).mono (by omega)
  rw [List.length_map, List.length_range] at h5
  subst h3
  have WL1 : WL 7688 zs := h5.mono (by omega)
  walk_at "rdc"
  refine rd_bm ?_
  walk_at "rdc"
  refine ⟨rfl, ?_⟩
  walk_at "rdc"
  refine ⟨_, D, zs, rfl, rfl, SqL.of h1, (by rw [e44]; exact WL1.sum (by decide)), ?_⟩
  rw [e44]
  have tj := WL1.join (c := 44) (by decide)
  generalize Txt.join ⟨#[44]⟩ zs = zj at tj ⊢
  walk_at "rdc"
  refine ⟨three, fun l3 hl3 => ?_⟩
  have W3 := WL.cons tSun (WL.cons tst (WL.one tj))
  have s3 := same_new hl3 (.lst [.str (Str.ofString "sun"), .str st, .str zj])
  have t3 : upd H2 l3 (.lst [.str (Str.ofString "sun"), .str st, .str zj]) l3 = some (.lst [.str (Str.ofString "sun"), .str st, .str zj]) := upd_same
  generalize upd H2 l3 (.lst [.str (Str.ofString "sun"), .str st, .str zj]) = H3 at s3 t3 ⊢
  have t3 : H3 l3 = some (.lst ([Str.ofString "sun", st, zj].map V.str)) := t3
  have s03 := (s1.trans h2).trans s3
  walk_at "rdc"
  refine ite2d (fun _ => ?_) (fun _ => ?_)
  · walk_at "rdc"
    exact q l3 _ _ s03 t3 (W3.mono (by decide))
  walk_at "rdc"
  refine rd_i ⟨64, 64, bt_small (by omega) (by omega) (by decide), bt_small (by decide) (by decide) (by decide), by decide⟩ ?_
  walk_at "rdc"
  refine ⟨_, rfl, fun l4 zs4 H4 s4 t4 W4 => ?_⟩
  walk_at "rdc"
  have lg5 : (c3 / 500 % 6).natAbs.log2 < 1920 := log_small (by omega) (by omega)
  refine ⟨_, rfl, lg5, ?_⟩
  have t6 := TL.int lg5
  have e5 : Str.ofString (toString (c3 / 500 % 6)) = intT (c3 / 500 % 6) := rfl
  rw [e5]
  generalize intT (c3 / 500 % 6) = y5 at t6 ⊢
  walk_at "rdc"
  refine ⟨two, fun l5 hl5 => ?_⟩
  have W5 := WL.cons tLeap (WL.one t6)
  have s5 := same_new hl5 (.lst [.str (Str.ofString "leap"), .str y5])
  have t5 : upd H4 l5 (.lst [.str (Str.ofString "leap"), .str y5]) l5 = some (.lst [.str (Str.ofString "leap"), .str y5]) := upd_same
  generalize upd H4 l5 (.lst [.str (Str.ofString "leap"), .str y5]) = H5 at s5 t5 ⊢
  have t5 : H5 l5 = some (.lst ([Str.ofString "leap", y5].map V.str)) := t5
  walk_at "rdc"
  refine rd_cat (s5 _ _ (s4 _ _ t3)) t5 (by have := W3.fit; have := W5.fit; rw [sizeLine_eq]; omega) (fun l6 hl6 => ?_)
  rw [← List.map_append]
  have W6 := W3.app W5
  generalize [Str.ofString "sun", st, zj] ++ [Str.ofString "leap", y5] = zs6 at W6 ⊢
  have s6 := same_new hl6 (.lst (zs6.map V.str))
  have t6' : upd H5 l6 (.lst (zs6.map V.str)) l6 = some (.lst (zs6.map V.str)) := upd_same
  generalize upd H5 l6 (.lst (zs6.map V.str)) = H6 at s6 t6' ⊢
  walk_at "rdc"
  refine rd_cat t6' (s6 _ _ (s5 _ _ t4)) (by have := W6.fit; have := W4.fit; rw [sizeLine_eq]; omega) (fun l7 hl7 => ?_)
  rw [← List.map_append]
  exact q l7 _ _ (((s03.trans s4).trans (s5.trans s6)).trans (same_new hl7 _)) upd_same ((W6.app W4).mono (by decide))
theorem sc_law_cut : FnScope ["_law_text", "_law_cell", "_law_at"] ["_law_text", "_law_cell"] (defScope s_law_cut) := ⟨rfl, rfl, rfl, by decide +kernel, rfl, by decide +kernel, by decide +kernel⟩
theorem ok_law_cut {f : Addr} {fd : FuncData} (F : Fun K "_law_cut" "_law_cut" s_law_cut f fd) (z_len : mg "len" = none) : FnOk P w K mg base CX0 1 f fd ["_law_text", "_law_cell"] spCut73 := by
  refine F.ok (k := 0) sc_law_cut (fun vs H Q E h => ?_) (fun cdv A outer s H vs Q E hr h => ?_)
  · obtain ⟨k, z, x, rfl, _⟩ := h
    rfl
  obtain ⟨k, z, x, rfl, hz, hk, q⟩ := h
  refine ⟨_, (pss_cons (ps_if (pt_cmpR op_eq (pv 0) pe_str (nomark _))
        (pss_one (ps_ret (pv 0)))
        pss_nil)
      (pss_cons (ps_set (i := 2) sc_law_cut.nd rfl (by first | exact Or.inl rfl | exact Or.inr rfl) (pe_op op_mod (pv 1) (pe_callB call_len_str rfl z_len PySem.boot_len (pa_cons (pv 0) pa_nil))))
      (pss_one (ps_ret (pe_op op_add_str (pe_slice sl_str (pv 0) po_none (po_some (pv 2))) (pe_slice sl_str (pv 0) (po_some (pe_op op_add (pv 2) pe_int)) po_none)))))), ?_⟩
  have zl := hz.len
  have zf : z.length ≤ sizeLine := by rw [sizeLine_eq]; omega
  walk_at "rdc"
  refine ite2d (fun e => ?_) (fun e => ?_)
  · walk_at "rdc"
    exact q z (hz.mono (by omega))
  have l1 : 1 ≤ z.length := by
    rw [← len_cpl]
    cases hc : cpl z with
    | nil => exact absurd (congrArg V.str (str_ext (by rw [hc, eNo]; rfl))) e
    | cons a r => simp
  walk_at "rdc"
  refine ⟨z, rfl, zf, ?_⟩
  refine rd_i (show (0 : Int) < (z.length : Int) by omega) ?_
  generalize x % (z.length : Int) = at'
  walk_at "rdc"
  refine ⟨z, rfl, zf, ?_⟩
  walk_at "rdc"
  refine ⟨z, rfl, zf, ?_⟩
  walk_at "rdc"
  have t1 := hz.slice none (some at')
  have t3 := hz.slice (some (at' + 1)) none
  refine ⟨_, _, rfl, rfl, ?_, ?_⟩
  · have := t1.len
    have := t3.len
    rw [sizeLine_eq]
    omega
  exact q _ ((t1.app t3).mono (by omega))
theorem sc_law_free : FnScope ["_law_cell", "_law_signs", "_law_text", "_law_rest", "_law_k"] ["_law_cell", "_law_signs"] (defScope s_law_free) := ⟨rfl, rfl, rfl, by decide +kernel, rfl, by decide +kernel, by decide +kernel⟩
theorem ok_law_free {f : Addr} {fd : FuncData} (F : Fun K "_law_free" "_law_free" s_law_free f fd) (z_range : mg "range" = none) (z_len : mg "len" = none) : FnOk P w K mg base CX0 1 f fd ["_law_cell", "_law_signs"] spFreeT := by
  refine F.ok (k := 0) sc_law_free (fun vs H Q E h => ?_) (fun cdv A outer s H vs Q E hr h => ?_)
  · obtain ⟨x, z, rfl, _⟩ := h
    rfl
  obtain ⟨x, z, rfl, hz, l1, q⟩ := h
  refine ⟨_, (pss_cons (ps_set (i := 2) sc_law_free.nd rfl (by first | exact Or.inl rfl | exact Or.inr rfl) pe_str)
      (pss_cons (ps_set (i := 3) sc_law_free.nd rfl (by first | exact Or.inl rfl | exact Or.inr rfl) (pe_op op_fdivB (pv 0) pe_int))
      (pss_cons (ps_for PassesOwn.never rfl (pi_range1 rfl z_range (pa_cons (pe_op op_mod (pv 0) pe_int) pa_nil)) (pg_name (i := 4) sc_law_free.nd rfl (by first | exact Or.inl rfl | exact Or.inr rfl))
        (pss_cons (ps_set (i := 2) sc_law_free.nd rfl (by first | exact Or.inl rfl | exact Or.inr rfl) (pe_op op_add_str (pv 2) (pe_ix ix_str (pv 1) (pe_op op_mod (pv 3) (pe_callB call_len_str rfl z_len PySem.boot_len (pa_cons (pv 1) pa_nil))) (fun _ _ => rfl))))
      (pss_one (ps_set (i := 3) sc_law_free.nd rfl (by first | exact Or.inl rfl | exact Or.inr rfl) (pe_op op_fdivB (pv 3) (pe_callB call_len_str rfl z_len PySem.boot_len (pa_cons (pv 1) pa_nil)))))))
      (pss_one (ps_ret (pv 2)))))), ?_⟩
  have zf : z.length ≤ sizeLine := Nat.le_trans hz.len (by decide)
  have zl := hz.len
  walk_at "rdc"
  walk_at "rdf"
  walk_at "rdc"
  refine ⟨_, rfl, by omega, by omega, for_range (fun i σ' H' => H' = H ∧ ∃ (y : Str) (m : Int) (v : Option V), TL i y ∧ σ' = [some (.int x), some (.str z), some (.str y), some (.int m), v]) ⟨rfl, _, _, _, ⟨by decide +kernel, by decide +kernel⟩, rfl⟩ ?_ ?_⟩
  · rintro i σ' H' hi ⟨rfl, y, m, v, hy, rfl⟩
    rw [Int.zero_add]
    walk_at "rdc"
    refine ⟨z, rfl, zf, ?_⟩
    refine rd_i (show (0 : Int) < (z.length : Int) by omega) ?_
    have k0 := Int.emod_nonneg m (show (z.length : Int) ≠ 0 by omega)
    have k1 := Int.emod_lt_of_pos m (show (0 : Int) < (z.length : Int) by omega)
    have el : (cpl z).length = z.length := len_cpl z
    have hk : (m % (z.length : Int)).toNat < (cpl z).length := by omega
    have hc := List.getElem_mem hk
    have hat : atI z.cps.toList (m % (z.length : Int)) = some (cpl z)[(m % (z.length : Int)).toNat] := by
      have := atI_nat (xs := cpl z) (j := (m % (z.length : Int)).toNat) (v := (cpl z)[(m % (z.length : Int)).toNat]) (by simp [hk])
      rwa [show (((m % (z.length : Int)).toNat : Nat) : Int) = m % (z.length : Int) by omega] at this
    generalize (cpl z)[(m % (z.length : Int)).toNat] = c at hc hat
    have c1 := asc_iff.mp hz.asc c hc
    refine ⟨z, _, c, rfl, rfl, zf, hat, ?_⟩
    walk_at "rdc"
    have hyl := hy.len
    refine ⟨y, _, rfl, rfl, ?_, ?_⟩
    · show y.length + 1 ≤ sizeLine
      rw [sizeLine_eq]
      omega
    walk_at "rdc"
    refine ⟨z, rfl, zf, ?_⟩
    refine rd_i (cdiv_small (by omega) (by omega)) ?_
    walk_at "rdc"
    exact ⟨rfl, _, _, _, hy.app (TL.sign c1), rfl⟩
  · rintro σ' H' ⟨rfl, y, m, v, hy, rfl⟩
    walk_at "rdc"
    exact q y (hy.mono (by omega))
theorem sc_law_changed : FnScope ["_law_text", "_law_cell", "_law_way", "_law_words_here", "_law_at"] ["_law_text", "_law_cell"] (defScope s_law_changed) := ⟨rfl, rfl, rfl, by decide +kernel, rfl, by decide +kernel, by decide +kernel⟩
theorem ok_law_changed {f : Addr} {fd : FuncData} (F : Fun K "_law_changed" "_law_changed" s_law_changed f fd) (c__law_cut : Cal P w K mg base 1 "_law_cut" ["_law_text", "_law_cell"] spCut73) (c__law_word_of : Cal P w K mg base 1 "_law_word_of" ["_law_cell"] spOddT) (c__law_free : Cal P w K mg base 1 "_law_free" ["_law_cell", "_law_signs"] spFreeT) (z_len : mg "len" = none) (z_str : mg "str" = none) : FnOk P w K mg base CX0 2 f fd ["_law_text", "_law_cell"] spChg73 := by
  refine F.ok (k := 1) sc_law_changed (fun vs H Q E h => ?_) (fun cdv A outer s H vs Q E hr h => ?_)
  · obtain ⟨k, z, x, rfl, _⟩ := h
    rfl
  obtain ⟨k, z, x, rfl, hz, hk, q⟩ := h
  refine ⟨_, (pss_cons (ps_set (i := 2) sc_law_changed.nd rfl (by first | exact Or.inl rfl | exact Or.inr rfl) (pe_op op_mod (pv 1) pe_int))
      (pss_cons (ps_set (i := 1) sc_law_changed.nd rfl (by first | exact Or.inl rfl | exact Or.inr rfl) (pe_op op_fdivB (pv 1) pe_int))
      (pss_cons (ps_set (i := 3) sc_law_changed.nd rfl (by first | exact Or.inl rfl | exact Or.inr rfl) (pe_bm PySem.F.plainAttrs_str PySem.F.slot_str_split PySem.F.type_str_split mt_split (pv 0) (pa_cons pe_str pa_nil)))
      (pss_cons (ps_set (i := 4) sc_law_changed.nd rfl (by first | exact Or.inl rfl | exact Or.inr rfl) (pe_op op_mod (pv 1) (pe_callB call_len_seq rfl z_len PySem.boot_len (pa_cons (pv 3) pa_nil))))
      (pss_cons (ps_if (pt_cmpR op_eq (pv 2) pe_int (nomark _))
        (pss_cons (ps_set (i := 4) sc_law_changed.nd rfl (by first | exact Or.inl rfl | exact Or.inr rfl) (pe_op op_mod (pv 1) (pe_op op_add (pe_callB call_len_str rfl z_len PySem.boot_len (pa_cons (pv 0) pa_nil)) pe_int)))
      (pss_one (ps_ret (pe_op op_add_str (pe_op op_add_str (pe_slice sl_str (pv 0) po_none (po_some (pv 4))) (pe_ix ix_str pe_str (pe_op op_mod (pe_op op_fdivB (pv 1) pe_int) pe_int) (fun _ _ => rfl))) (pe_slice sl_str (pv 0) (po_some (pv 4)) po_none)))))
        pss_nil)
      (pss_cons (ps_if (pt_cmpR op_eq (pv 2) pe_int (nomark _))
        (pss_one (ps_ret (pe_cal c__law_cut (hr.mono (by decide)) rfl (pa_cons (pv 0) (pa_cons (pv 1) pa_nil)))))
        pss_nil)
      (pss_cons (ps_if (pt_cmpR op_eq (pv 2) pe_int (nomark _))
        (pss_one (ps_ret (pe_bm PySem.F.plainAttrs_str PySem.F.slot_str_join PySem.F.type_str_join mt_join pe_str (pa_cons (pe_op op_cat (pe_slice sl_list (pv 3) po_none (po_some (pv 4))) (pe_slice sl_list (pv 3) (po_some (pe_op op_add (pv 4) pe_int)) po_none)) pa_nil))))
        pss_nil)
      (pss_cons (ps_if (pt_cmpR op_eq (pv 2) pe_int (nomark _))
        (pss_one (ps_ret (pe_bm PySem.F.plainAttrs_str PySem.F.slot_str_join PySem.F.type_str_join mt_join pe_str (pa_cons (pe_op op_cat (pe_op op_cat (pe_slice sl_list (pv 3) po_none (po_some (pv 4))) (pe_slice sl_list (pv 3) (po_some (pv 4)) (po_some (pe_op op_add (pv 4) pe_int)))) (pe_slice sl_list (pv 3) (po_some (pv 4)) po_none)) pa_nil))))
        pss_nil)
      (pss_cons (ps_if (pt_cmpR op_eq (pv 2) pe_int (nomark _))
        (pss_one (ps_ret (pe_bm PySem.F.plainAttrs_str PySem.F.slot_str_join PySem.F.type_str_join mt_join pe_str (pa_cons (pe_op op_cat (pe_op op_cat (pe_slice sl_list (pv 3) po_none (po_some (pv 4))) (pe_lst (pa_cons (pe_cal c__law_word_of (hr.mono (by decide)) rfl (pa_cons (pe_op op_fdivB (pv 1) pe_int) pa_nil)) pa_nil))) (pe_slice sl_list (pv 3) (po_some (pe_op op_add (pv 4) pe_int)) po_none)) pa_nil))))
        pss_nil)
      (pss_cons (ps_if (pt_cmpR op_eq (pv 2) pe_int (nomark _))
        (pss_one (ps_ret (pe_bm PySem.F.plainAttrs_str PySem.F.slot_str_join PySem.F.type_str_join mt_join pe_str (pa_cons (pe_op op_cat (pe_op op_cat (pe_slice sl_list (pv 3) po_none (po_some (pv 4))) (pe_lst (pa_cons pe_str pa_nil))) (pe_slice sl_list (pv 3) (po_some (pv 4)) po_none)) pa_nil))))
        pss_nil)
      (pss_cons (ps_if (pt_cmpR op_eq (pv 2) pe_int (nomark _))
        (pss_one (ps_ret (pe_bm PySem.F.plainAttrs_str PySem.F.slot_str_join PySem.F.type_str_join mt_join pe_str (pa_cons (pe_op op_cat (pe_op op_cat (pe_slice sl_list (pv 3) po_none (po_some (pv 4))) (pe_lst (pa_cons (pe_op op_add_str pe_str (pe_ix ix_list (pv 3) (pv 4) (fun _ _ => rfl))) pa_nil))) (pe_slice sl_list (pv 3) (po_some (pe_op op_add (pv 4) pe_int)) po_none)) pa_nil))))
        pss_nil)
      (pss_cons (ps_if (pt_cmpR op_eq (pv 2) pe_int (nomark _))
        (pss_one (ps_ret (pe_bm PySem.F.plainAttrs_str PySem.F.slot_str_join PySem.F.type_str_join mt_join pe_str (pa_cons (pe_op op_cat (pe_op op_cat (pe_slice sl_list (pv 3) po_none (po_some (pv 4))) (pe_lst (pa_cons (pe_callTy call_str_int rfl z_str PyProof.Rows.boot_str (pa_cons (pe_op op_mod (pe_op op_fdivB (pv 1) pe_int) (pe_op op_pow pe_int pe_int)) pa_nil)) pa_nil))) (pe_slice sl_list (pv 3) (po_some (pe_op op_add (pv 4) pe_int)) po_none)) pa_nil))))
        pss_nil)
      (pss_cons (ps_if (pt_cmpR op_eq (pv 2) pe_int (nomark _))
        (pss_one (ps_ret (pe_slice sl_str (pe_op op_add_str (pv 0) (pe_op op_mulS pe_str pe_int)) po_none (po_some (pe_op op_add pe_int (pe_op op_mod (pv 1) pe_int))))))
        pss_nil)
      (pss_cons (ps_if (pt_cmpR op_eq (pv 2) pe_int (nomark _))
        (pss_one (ps_ret (pe_bm PySem.F.plainAttrs_str PySem.F.slot_str_join PySem.F.type_str_join mt_join pe_str (pa_cons (pe_op op_cat (pe_lst (pa_cons (pe_ix ix_list (pe_lst (pa_cons pe_str (pa_cons pe_str (pa_cons pe_str (pa_cons pe_str pa_nil))))) (pe_op op_mod (pv 1) pe_int) (fun _ _ => rfl)) pa_nil)) (pe_slice sl_list (pv 3) (po_some pe_int) po_none)) pa_nil))))
        pss_nil)
      (pss_cons (ps_if (pt_cmpR op_eq (pv 2) pe_int (nomark _))
        (pss_one (ps_ret (pe_op op_add_str (pe_ix ix_list (pe_lst (pa_cons pe_str (pa_cons pe_str (pa_cons pe_str (pa_cons pe_str pa_nil))))) (pe_op op_mod (pv 1) pe_int) (fun _ _ => rfl)) (pe_cal c__law_free (hr.mono (by decide)) rfl (pa_cons (pe_op op_fdivB (pv 1) pe_int) (pa_cons pe_str pa_nil))))))
        pss_nil)
      (pss_one (ps_ret (pv 0)))))))))))))))))), ?_⟩
  have zl := hz.len
  have zf : z.length ≤ sizeLine := by rw [sizeLine_eq]; omega
  walk_at "rdc"
  refine rd_bm ?_
  walk_at "rdc"
  refine ⟨rfl, ?_⟩
  walk_at "rdc"
  refine ⟨z, 32, rfl, by rw [e32], by decide, by omega, fun l hl => ?_⟩
  have W := WL.spl (c := 32) hz
  have sne : splS 32 z ≠ [] := fun e => spl_ne 32 (cpl z) (List.map_eq_nil_iff.mp e)
  generalize splS 32 z = zs at W sne ⊢
  have pos : 0 < zs.length := List.length_pos_iff.mpr sne
  have s1 := same_new hl (.lst (zs.map V.str))
  have t1 : upd H l (.lst (zs.map V.str)) l = some (.lst (zs.map V.str)) := upd_same
  generalize upd H l (.lst (zs.map V.str)) = H1 at s1 t1 ⊢
  walk_at "rdc"
  refine ⟨l, _, rfl, .inl (SqL.of t1), ?_⟩
  rw [List.length_map]
  generalize x / 12 = u
  refine rd_i (show (0 : Int) < ((zs.length : Nat) : Int) by omega) ?_
  have a0 := Int.emod_nonneg u (show ((zs.length : Nat) : Int) ≠ 0 by omega)
  have a1 := Int.emod_lt_of_pos u (show (0 : Int) < ((zs.length : Nat) : Int) by omega)
  generalize u % ((zs.length : Nat) : Int) = at' at a0 a1 ⊢
  have lit0 : TL 1 (Str.ofString "0") := ⟨by decide +kernel, by decide +kernel⟩
  have litE : TL 0 (Str.ofString "") := ⟨by decide +kernel, by decide +kernel⟩
  have fin : ∀ {H' : Hp} {y : Str} {m : Nat}, Same H H' → TL m y → m ≤ 3 * k + 8000 → Q (.str y) H' := fun s t l => q _ _ s (t.mono l)
  walk_at "rdc"
  refine ite2d (fun _ => ?_) (fun _ => ?_)
  · walk_at "rdc"
    refine ⟨z, rfl, zf, ?_⟩
    walk_at "rdc"
    generalize u % ((z.length : Int) + 1) = at2
    refine ⟨z, rfl, zf, ?_⟩
    walk_at "rdc"
    obtain ⟨c, hc, c1⟩ : ∃ c, atI (Str.ofString "0123456789-+ /,.axEm").cps.toList (u / 7 % 20) = some c ∧ c < 128 := by
      have el : (cpl (Str.ofString "0123456789-+ /,.axEm")).length = 20 := by decide +kernel
      have hk : (u / 7 % 20).toNat < (cpl (Str.ofString "0123456789-+ /,.axEm")).length := by omega
      have hall : ∀ c ∈ cpl (Str.ofString "0123456789-+ /,.axEm"), c < 128 := by decide +kernel
      refine ⟨_, ?_, hall _ (List.getElem_mem hk)⟩
      have := atI_nat (xs := cpl (Str.ofString "0123456789-+ /,.axEm")) (j := (u / 7 % 20).toNat) (v := (cpl (Str.ofString "0123456789-+ /,.axEm"))[(u / 7 % 20).toNat]) (by simp [hk])
      rwa [show (((u / 7 % 20).toNat : Nat) : Int) = u / 7 % 20 by omega] at this
    refine ⟨_, _, c, rfl, rfl, (by decide +kernel), hc, ?_⟩
    have t1 := hz.slice none (some at2)
    have t2 := t1.app (TL.sign c1)
    have t3 := hz.slice (some at2) none
    refine ⟨_, _, rfl, rfl, ?_, ?_⟩
    · have := t1.len
      show (Txt.slice z none (some at2)).length + 1 ≤ sizeLine
      rw [sizeLine_eq]
      omega
    walk_at "rdc"
    refine ⟨z, rfl, zf, ?_⟩
    walk_at "rdc"
    refine ⟨_, _, rfl, rfl, ?_, ?_⟩
    · have := t2.len
      have := t3.len
      rw [sizeLine_eq]
      omega
    exact fin s1 (t2.app t3) (by omega)
  walk_at "rdc"
  refine ite2d (fun _ => ?_) (fun _ => ?_)
  · walk_at "rdc"
    exact ⟨k, z, u, rfl, hz, by omega, fun y ty => fin s1 ty (by omega)⟩
  walk_at "rdc"
  refine ite2d (fun _ => ?_) (fun _ => ?_)
  · walk_at "rdc"
    refine rd_bm ?_
    walk_at "rdc"
    refine ⟨rfl, ?_⟩
    walk_at "rdc"
    refine rd_slW t1 W fun u2 H2 y2 s2 t2 V2 => ?_
    walk_at "rdc"
    refine rd_slW (s2 _ _ t1) W fun u3 H3 y3 s3 t3 V3 => ?_
    walk_at "rdc"
    refine rd_catW (s3 _ _ t2) V2 t3 V3 (by omega) fun u4 H4 y4 s4 t4 V4 => ?_
    walk_at "rdc"
    refine rd_joinW t4 V4 (by omega) fun y ty => ?_
    exact fin (((s1.trans s2).trans (s3.trans s4))) ty (by omega)
  walk_at "rdc"
  refine ite2d (fun _ => ?_) (fun _ => ?_)
  · walk_at "rdc"
    refine rd_bm ?_
    walk_at "rdc"
    refine ⟨rfl, ?_⟩
    walk_at "rdc"
    refine rd_slW t1 W fun u2 H2 y2 s2 t2 V2 => ?_
    walk_at "rdc"
    refine rd_slW (s2 _ _ t1) W fun u3 H3 y3 s3 t3 V3 => ?_
    walk_at "rdc"
    refine rd_catW (s3 _ _ t2) V2 t3 V3 (by omega) fun u4 H4 y4 s4 t4 V4 => ?_
    walk_at "rdc"
    refine rd_slW ((s2.trans (s3.trans s4)) _ _ t1) W fun u5 H5 y5 s5 t5 V5 => ?_
    walk_at "rdc"
    refine rd_catW (s5 _ _ t4) V4 t5 V5 (by omega) fun u6 H6 y6 s6 t6 V6 => ?_
    walk_at "rdc"
    refine rd_joinW t6 V6 (by omega) fun y ty => ?_
    exact fin (((s1.trans s2).trans (s3.trans s4)).trans (s5.trans s6)) ty (by omega)
  walk_at "rdc"
  refine ite2d (fun _ => ?_) (fun _ => ?_)
  · walk_at "rdc"
    refine rd_bm ?_
    walk_at "rdc"
    refine ⟨rfl, ?_⟩
    walk_at "rdc"
    refine rd_slW t1 W fun u2 H2 y2 s2 t2 V2 => ?_
    walk_at "rdc"
    refine ⟨_, rfl, fun yw Hw sw tw => ?_⟩
    have V3 := WL.one tw
    have t2 := sw _ _ t2
    have s2 := s2.trans sw
    walk_at "rdc"
    refine ⟨(by show 1 ≤ sizeLine; decide), fun u3 hu3 => ?_⟩
    have s3 := same_new hu3 (.lst [.str yw])
    have t3 : upd Hw u3 (.lst [.str yw]) u3 = some (.lst [.str yw]) := upd_same
    generalize upd Hw u3 (.lst [.str yw]) = H3 at s3 t3 ⊢
    have t3 : H3 u3 = some (.lst ([yw].map V.str)) := t3
    walk_at "rdc"
    refine rd_catW (s3 _ _ t2) V2 t3 V3 (by omega) fun u4 H4 y4 s4 t4 V4 => ?_
    walk_at "rdc"
    refine rd_slW ((s2.trans (s3.trans s4)) _ _ t1) W fun u5 H5 y5 s5 t5 V5 => ?_
    walk_at "rdc"
    refine rd_catW (s5 _ _ t4) V4 t5 V5 (by omega) fun u6 H6 y6 s6 t6 V6 => ?_
    walk_at "rdc"
    refine rd_joinW t6 V6 (by omega) fun y ty => ?_
    exact fin (((s1.trans s2).trans (s3.trans s4)).trans (s5.trans s6)) ty (by omega)
  walk_at "rdc"
  refine ite2d (fun _ => ?_) (fun _ => ?_)
  · walk_at "rdc"
    refine rd_bm ?_
    walk_at "rdc"
    refine ⟨rfl, ?_⟩
    walk_at "rdc"
    refine rd_slW t1 W fun u2 H2 y2 s2 t2 V2 => ?_
    walk_at "rdc"
    have V3 := WL.one litE
    refine ⟨(by show 1 ≤ sizeLine; decide), fun u3 hu3 => ?_⟩
    have s3 := same_new hu3 (.lst [.str (Str.ofString "")])
    have t3 : upd H2 u3 (.lst [.str (Str.ofString "")]) u3 = some (.lst [.str (Str.ofString "")]) := upd_same
    generalize upd H2 u3 (.lst [.str (Str.ofString "")]) = H3 at s3 t3 ⊢
    have t3 : H3 u3 = some (.lst ([(Str.ofString "")].map V.str)) := t3
    walk_at "rdc"
    refine rd_catW (s3 _ _ t2) V2 t3 V3 (by omega) fun u4 H4 y4 s4 t4 V4 => ?_
    walk_at "rdc"
    refine rd_slW ((s2.trans (s3.trans s4)) _ _ t1) W fun u5 H5 y5 s5 t5 V5 => ?_
    walk_at "rdc"
    refine rd_catW (s5 _ _ t4) V4 t5 V5 (by omega) fun u6 H6 y6 s6 t6 V6 => ?_
    walk_at "rdc"
    refine rd_joinW t6 V6 (by omega) fun y ty => ?_
    exact fin (((s1.trans s2).trans (s3.trans s4)).trans (s5.trans s6)) ty (by omega)
  walk_at "rdc"
  refine ite2d (fun _ => ?_) (fun _ => ?_)
  · walk_at "rdc"
    refine rd_bm ?_
    walk_at "rdc"
    refine ⟨rfl, ?_⟩
    walk_at "rdc"
    refine rd_slW t1 W fun u2 H2 y2 s2 t2 V2 => ?_
    walk_at "rdc"
    obtain ⟨zw, hzw, tzw⟩ := W.at a0 a1
    refine rd_ixL (SqL.of (s2 _ _ t1)) hzw ?_
    have tw := lit0.app tzw
    have V3 := WL.one tw
    refine ⟨_, _, rfl, rfl, (by have := lit0.len; have := tzw.len; rw [sizeLine_eq]; omega), ?_⟩
    walk_at "rdc"
    refine ⟨(by show 1 ≤ sizeLine; decide), fun u3 hu3 => ?_⟩
    have s3 := same_new hu3 (.lst [.str (Str.ofString "0" ++ zw)])
    have t3 : upd H2 u3 (.lst [.str (Str.ofString "0" ++ zw)]) u3 = some (.lst [.str (Str.ofString "0" ++ zw)]) := upd_same
    generalize upd H2 u3 (.lst [.str (Str.ofString "0" ++ zw)]) = H3 at s3 t3 ⊢
    have t3 : H3 u3 = some (.lst ([(Str.ofString "0" ++ zw)].map V.str)) := t3
    walk_at "rdc"
    refine rd_catW (s3 _ _ t2) V2 t3 V3 (by omega) fun u4 H4 y4 s4 t4 V4 => ?_
    walk_at "rdc"
    refine rd_slW ((s2.trans (s3.trans s4)) _ _ t1) W fun u5 H5 y5 s5 t5 V5 => ?_
    walk_at "rdc"
    refine rd_catW (s5 _ _ t4) V4 t5 V5 (by omega) fun u6 H6 y6 s6 t6 V6 => ?_
    walk_at "rdc"
    refine rd_joinW t6 V6 (by omega) fun y ty => ?_
    exact fin (((s1.trans s2).trans (s3.trans s4)).trans (s5.trans s6)) ty (by omega)
  walk_at "rdc"
  refine ite2d (fun _ => ?_) (fun _ => ?_)
  · walk_at "rdc"
    refine rd_bm ?_
    walk_at "rdc"
    refine ⟨rfl, ?_⟩
    walk_at "rdc"
    refine rd_slW t1 W fun u2 H2 y2 s2 t2 V2 => ?_
    walk_at "rdc"
    have g0 := Int.emod_nonneg (u / 7) (show (10 : Int) ^ Int.toNat 64 ≠ 0 by decide)
    have g1 := Int.emod_lt_of_pos (u / 7) (show (0 : Int) < (10 : Int) ^ Int.toNat 64 by decide)
    have lw := log64 g0 g1
    refine ⟨_, rfl, lw, ?_⟩
    have t8 := TL.int lw
    have e8 : Str.ofString (toString (u / 7 % 10 ^ Int.toNat 64)) = intT (u / 7 % 10 ^ Int.toNat 64) := rfl
    rw [e8]
    generalize intT (u / 7 % 10 ^ Int.toNat 64) = z8 at t8 ⊢
    have V3 := WL.one t8
    walk_at "rdc"
    refine ⟨(by show 1 ≤ sizeLine; decide), fun u3 hu3 => ?_⟩
    have s3 := same_new hu3 (.lst [.str z8])
    have t3 : upd H2 u3 (.lst [.str z8]) u3 = some (.lst [.str z8]) := upd_same
    generalize upd H2 u3 (.lst [.str z8]) = H3 at s3 t3 ⊢
    have t3 : H3 u3 = some (.lst ([z8].map V.str)) := t3
    walk_at "rdc"
    refine rd_catW (s3 _ _ t2) V2 t3 V3 (by omega) fun u4 H4 y4 s4 t4 V4 => ?_
    walk_at "rdc"
    refine rd_slW ((s2.trans (s3.trans s4)) _ _ t1) W fun u5 H5 y5 s5 t5 V5 => ?_
    walk_at "rdc"
    refine rd_catW (s5 _ _ t4) V4 t5 V5 (by omega) fun u6 H6 y6 s6 t6 V6 => ?_
    walk_at "rdc"
    refine rd_joinW t6 V6 (by omega) fun y ty => ?_
    exact fin (((s1.trans s2).trans (s3.trans s4)).trans (s5.trans s6)) ty (by omega)
  walk_at "rdc"
  refine ite2d (fun _ => ?_) (fun _ => ?_)
  · walk_at "rdc"
    refine ⟨_, _, rfl, rfl, mul600, ?_⟩
    have tw := hz.app tl600
    refine ⟨_, _, rfl, rfl, (by have := tl600.len; rw [sizeLine_eq]; omega), ?_⟩
    walk_at "rdc"
    refine ⟨_, rfl, (by have := tw.len; rw [sizeLine_eq]; omega), ?_⟩
    exact fin s1 (tw.slice _ _) (by omega)
  walk_at "rdc"
  refine ite2d (fun _ => ?_) (fun _ => ?_)
  · walk_at "rdc"
    refine rd_bm ?_
    walk_at "rdc"
    refine ⟨rfl, ?_⟩
    walk_at "rdc"
    refine ⟨four, fun l2 hl2 => ?_⟩
    have s2 := same_new hl2 (.lst [.str (Str.ofString "moon"), .str (Str.ofString "sun"), .str (Str.ofString "Sun"), .str (Str.ofString "suns")])
    have t2 : upd H1 l2 (.lst [.str (Str.ofString "moon"), .str (Str.ofString "sun"), .str (Str.ofString "Sun"), .str (Str.ofString "suns")]) l2 = some (.lst [.str (Str.ofString "moon"), .str (Str.ofString "sun"), .str (Str.ofString "Sun"), .str (Str.ofString "suns")]) := upd_same
    generalize upd H1 l2 (.lst [.str (Str.ofString "moon"), .str (Str.ofString "sun"), .str (Str.ofString "Sun"), .str (Str.ofString "suns")]) = H2 at s2 t2 ⊢
    walk_at "rdc"
    obtain ⟨zw, hzw, tzw⟩ := at_texts (k := 4) (xs := [.str (Str.ofString "moon"), .str (Str.ofString "sun"), .str (Str.ofString "Sun"), .str (Str.ofString "suns")]) (i := u % 4) (by decide +kernel) (by omega) (by show u % 4 < 4; omega)
    refine rd_ixL (SqL.of t2) hzw ?_
    have V3 := WL.one tzw
    walk_at "rdc"
    refine ⟨(by show 1 ≤ sizeLine; decide), fun u3 hu3 => ?_⟩
    have s3 := same_new hu3 (.lst [.str zw])
    have t3 : upd H2 u3 (.lst [.str zw]) u3 = some (.lst [.str zw]) := upd_same
    generalize upd H2 u3 (.lst [.str zw]) = H3 at s3 t3 ⊢
    have t3 : H3 u3 = some (.lst ([zw].map V.str)) := t3
    walk_at "rdc"
    refine rd_slW ((s2.trans s3) _ _ t1) W fun u4 H4 y4 s4 t4 V4 => ?_
    walk_at "rdc"
    refine rd_catW (s4 _ _ t3) V3 t4 V4 (by omega) fun u5 H5 y5 s5 t5 V5 => ?_
    walk_at "rdc"
    refine rd_joinW t5 V5 (by omega) fun y ty => ?_
    exact fin (((s1.trans s2).trans (s3.trans s4)).trans s5) ty (by omega)
  walk_at "rdc"
  refine ite2d (fun _ => ?_) (fun _ => ?_)
  · walk_at "rdc"
    refine ⟨four, fun l2 hl2 => ?_⟩
    have s2 := same_new hl2 (.lst [.str (Str.ofString "sun "), .str (Str.ofString "moon "), .str (Str.ofString ""), .str (Str.ofString "sun 0 ")])
    have t2 : upd H1 l2 (.lst [.str (Str.ofString "sun "), .str (Str.ofString "moon "), .str (Str.ofString ""), .str (Str.ofString "sun 0 ")]) l2 = some (.lst [.str (Str.ofString "sun "), .str (Str.ofString "moon "), .str (Str.ofString ""), .str (Str.ofString "sun 0 ")]) := upd_same
    generalize upd H1 l2 (.lst [.str (Str.ofString "sun "), .str (Str.ofString "moon "), .str (Str.ofString ""), .str (Str.ofString "sun 0 ")]) = H2 at s2 t2 ⊢
    walk_at "rdc"
    obtain ⟨zw, hzw, tzw⟩ := at_texts (k := 6) (xs := [.str (Str.ofString "sun "), .str (Str.ofString "moon "), .str (Str.ofString ""), .str (Str.ofString "sun 0 ")]) (i := u % 4) (by decide +kernel) (by omega) (by show u % 4 < 4; omega)
    refine rd_ixL (SqL.of t2) hzw ?_
    walk_at "rdc"
    refine ⟨_, _, rfl, ⟨by decide +kernel, by decide +kernel⟩, (by decide +kernel), fun yw tw => ?_⟩
    refine ⟨_, _, rfl, rfl, (by have := tzw.len; have := tw.len; rw [sizeLine_eq]; omega), ?_⟩
    exact fin (s1.trans s2) (tzw.app tw) (by omega)
  walk_at "rdc"
  exact fin s1 hz (by omega)
theorem sc_law_value : FnScope ["_law_word", "_law_figures"] ["_law_word"] (defScope s_law_value) := ⟨rfl, rfl, rfl, by decide +kernel, rfl, by decide +kernel, by decide +kernel⟩
theorem ok_law_value {f : Addr} {fd : FuncData} (F : Fun K "_law_value" "_law_value" s_law_value f fd) (z_len : mg "len" = none) (z_all : mg "all" = none) (z_int : mg "int" = none) : FnOk P w K mg base CX0 1 f fd ["_law_word"] spVal73 := by
  refine F.ok (k := 0) sc_law_value (fun vs H Q E h => ?_) (fun cdv A outer s H vs Q E hr h => ?_)
  · obtain ⟨z, rfl, _⟩ := h
    rfl
  obtain ⟨z, rfl, hz, q⟩ := h
  have eMinus : Str.ofString "-" = ⟨#[45]⟩ := by decide +kernel
  have hm : Txt.slice z none (some 1) = ⟨#[45]⟩ ↔ (cpl z).head? = some 45 := by rw [str1_eq, slice_to1 z, head_take]
  refine ⟨_, (pss_cons (ps_set (i := 1) sc_law_value.nd rfl (by first | exact Or.inl rfl | exact Or.inr rfl) (pv 0))
      (pss_cons (ps_cut (ps_if (pt_cmpR op_eq (pe_slice sl_str (pv 0) po_none (po_some pe_int)) pe_str (nomark _))
        (pss_one (ps_set (i := 1) sc_law_value.nd rfl (by first | exact Or.inl rfl | exact Or.inr rfl) (pe_slice sl_str (pv 0) (po_some pe_int) po_none)))
        pss_nil))
      (pss_cons (ps_cut (ps_if (PW.pt (pw_or (pt_cmpR op_lt (pe_callB call_len_str rfl z_len PySem.boot_len (pa_cons (pv 1) pa_nil)) pe_int (nomark _)) (pw_or (pt_cmpR op_gt (pe_callB call_len_str rfl z_len PySem.boot_len (pa_cons (pv 1) pa_nil)) pe_int (nomark _)) (pw_or1 (PW.pt (pw_and (pt_cmpR op_eq (pe_ix ix_str (pv 1) pe_int (fun _ _ => rfl)) pe_str (nomark _)) (pw_and1 (pt_cmpR op_ne (pv 0) pe_str (nomark _)))))))))
        (pss_one (ps_ret pe_non))
        pss_nil))
      (pss_cons (ps_if (pt_not (pt_val (pe_callB (call_all rfl) rfl z_all PyProof.Rows.boot_all (pa_cons (pe_comp rfl (compOk_nil ["_law_word", "_law_figures"] rfl (by decide +kernel) rfl (by decide +kernel) rfl (by decide +kernel) (by decide +kernel)) (pi_str (pv 1)) (fun _ _ _ _ => pifs_nil) (fun _ _ _ _ => (pe_cmpR op_in_str (pv 0) pe_str (by rfl)))) pa_nil))))
        (pss_one (ps_ret pe_non))
        pss_nil)
      (pss_one (ps_ret (pe_callTy call_int_text rfl z_int PyProof.Rows.boot_int (pa_cons (pv 0) pa_nil)))))))), ?_⟩
  walk_at "rdc"
  refine rd_cut (fun σ' H' => H' = H ∧ ∃ y : Str, TOk y ∧ cpl y = figs (cpl z) ∧ σ' = [some (.str z), some (.str y)]) ?_ ?_
  · walk_at "rdc"
    refine ⟨z, rfl, hz.fit, ?_⟩
    walk_at "rdc"
    rw [eMinus]
    by_cases c : (cpl z).head? = some 45
    · refine iteD (congrArg V.str (hm.mpr c)) ?_
      walk_at "rdc"
      have l1 : 1 ≤ z.length := by
        rw [← len_cpl]
        cases h : cpl z with
        | nil => rw [h] at c; cases c
        | cons a r => simp
      refine ⟨z, rfl, hz.fit, ?_⟩
      walk_at "rdc"
      refine ⟨rfl, _, hz.slice _ _, ?_, rfl⟩
      rw [slice_from1 l1]
      unfold figs
      rw [if_pos c]
    · refine iteN (fun y => c (hm.mp (V.str.inj y))) ?_
      walk_at "rdc"
      exact ⟨rfl, z, hz, (figs_pos c).symm, rfl⟩
  rintro σ' H ⟨rfl, y, hy, ey, rfl⟩
  have fy := hy.fit
  have yl : (cpl y).length = y.length := len_cpl _
  have no : ¬ IsNum (cpl z) → ∀ H', Same H H' → Q .non H' := fun n H' s => by
    have := q H' s
    rwa [oNum_n n] at this
  walk_at "rdc"
  refine rd_cut (fun σ' H' => H' = H ∧ 1 ≤ y.length ∧ y.length ≤ 60 ∧ ((cpl y).head? = some 48 → cpl z = [48]) ∧ σ' = [some (.str z), some (.str y)]) ?_ ?_
  · walk_at "rdc"
    refine ⟨y, rfl, fy, ?_⟩
    walk_at "rdc"
    refine ite2d (fun l1 => iteT ?_) (fun l1 => ?_)
    · walk_at "rdc"
      refine no (fun N => ?_) _ (Same.refl _)
      have := N.lo
      rw [← ey] at this
      omega
    walk_at "rdc"
    refine ⟨y, rfl, fy, ?_⟩
    walk_at "rdc"
    refine ite2d (fun l2 => iteT ?_) (fun l2 => ?_)
    · walk_at "rdc"
      refine no (fun N => ?_) _ (Same.refl _)
      have := N.hi
      rw [← ey] at this
      omega
    walk_at "rdc"
    obtain ⟨c0, r0, ec⟩ : ∃ c r, cpl y = c :: r := by
      cases h : cpl y with
      | nil => rw [h] at yl; simp at yl; omega
      | cons c r => exact ⟨c, r, rfl⟩
    refine ⟨_, 0, c0, rfl, rfl, fy, by rw [show y.cps.toList = c0 :: r0 from ec]; exact atI_nat (j := 0) rfl, ?_⟩
    walk_at "rdc"
    have e48 : (⟨#[48]⟩ : Str) = Str.ofString "0" := by decide +kernel
    have ez0 : cpl (Str.ofString "0") = [48] := by decide +kernel
    by_cases e0 : c0 = 48
    · subst e0
      refine iteD (congrArg V.str e48) ?_
      walk_at "rdc"
      by_cases e1 : z = Str.ofString "0"
      · refine iteNS (congrArg V.str e1) ?_
        walk_at "rdc"
        exact ⟨rfl, by omega, by omega, fun _ => by rw [e1, ez0], rfl⟩
      · refine iteNN (fun y => e1 (V.str.inj y)) ?_
        walk_at "rdc"
        exact no (fun N => e1 (str_ext (by rw [N.z0 (by rw [← ey, ec]; rfl), ez0]))) _ (Same.refl _)
    · refine iteN (fun y => e0 ?_) ?_
      · have := congrArg cpl (V.str.inj y)
        rw [ez0] at this
        exact (List.cons.inj this).1
      refine iteF ?_
      walk_at "rdc"
      exact ⟨rfl, by omega, by omega, fun h => by rw [ec] at h; exact absurd (Option.some.inj h) e0, rfl⟩
  rintro σ' H ⟨rfl, l1, l2, hz0, rfl⟩
  walk_at "rdc"
  refine rd_comp (rd_iS ?_)
  walk_at "rdc"
  refine ⟨_, rfl, hy.asc, ?_⟩
  refine comp_go walk_s ?_ (fun _ _ _ => trivial) (fun _ => true) (fun v => match v with | .str y => .bl (decide (48 ≤ (cpl y).headD 0 ∧ (cpl y).headD 0 ≤ 57)) | _ => .non) (fun x hx D ys Q' hD h => h) (fun x hx _ D ys Q' hD h => ?_) (fun D hD => ?_)
  · rw [List.length_map]
    exact small1000 (by have : y.cps.toList.length = y.length := yl; omega)
  · obtain ⟨c, hc, rfl⟩ := List.mem_map.mp hx
    walk_at "rdc"
    refine ⟨_, _, rfl, rfl, ?_⟩
    rw [in_dig]
    exact h
  have e : ((y.cps.toList.map signV).filter fun _ => true).map (fun v => match v with | .str y => V.bl (decide (48 ≤ (cpl y).headD 0 ∧ (cpl y).headD 0 ≤ 57)) | _ => .non) = ((cpl y).map fun c => decide (48 ≤ c ∧ c ≤ 57)).map V.bl := by
    rw [List.filter_eq_self.mpr (fun _ _ => rfl), List.map_map, List.map_map]
    rfl
  rw [e]
  have s1 := same_new hD (.lst (((cpl y).map fun c => decide (48 ≤ c ∧ c ≤ 57)).map V.bl))
  have t1 : upd H D (.lst (((cpl y).map fun c => decide (48 ≤ c ∧ c ≤ 57)).map V.bl)) D = some (.lst (((cpl y).map fun c => decide (48 ≤ c ∧ c ≤ 57)).map V.bl)) := upd_same
  generalize upd H D (.lst (((cpl y).map fun c => decide (48 ≤ c ∧ c ≤ 57)).map V.bl)) = H1 at s1 t1 ⊢
  walk_at "rdc"
  refine ⟨D, _, rfl, SqL.of t1, ?_⟩
  have ha : (((cpl y).map fun c => decide (48 ≤ c ∧ c ≤ 57)).all id = true) ↔ ∀ c ∈ cpl y, 48 ≤ c ∧ c ≤ 57 := by
    rw [List.all_map, List.all_eq_true]
    exact ⟨fun h c hc => by simpa using h c hc, fun h c hc => by simpa using h c hc⟩
  walk_at "rdc"
  by_cases c : ((cpl y).map fun c => decide (48 ≤ c ∧ c ≤ 57)).all id = true
  · rw [c]
    refine iteF ?_
    have N : IsNum (cpl z) := ⟨by rw [← ey]; omega, by rw [← ey]; omega, by rw [← ey]; exact ha.mp c, fun h => hz0 (by rw [ey]; exact h)⟩
    walk_at "rdc"
    have zl : z.length ≤ 640 := by
      rw [← len_cpl]
      have := N.hi
      unfold figs at this
      split at this
      · rw [List.length_drop] at this
        omega
      · omega
    refine ⟨z, _, rfl, zl, int_reads N, ?_⟩
    have := q _ s1
    rwa [oNum_y N] at this
  · rw [(Bool.not_eq_true _).mp c]
    refine iteT ?_
    walk_at "rdc"
    exact no (fun N => c (ha.mpr (by rw [ey]; exact N.dg))) _ s1
theorem sc_law_values : FnScope ["_law_text"] ["_law_text"] (defScope s_law_values) := ⟨rfl, rfl, rfl, by decide +kernel, rfl, by decide +kernel, by decide +kernel⟩
theorem ok_law_values {f : Addr} {fd : FuncData} (F : Fun K "_law_values" "_law_values" s_law_values f fd) (c__law_value : Cal P w K mg base 1 "_law_value" ["_law_word"] spVal73) : FnOk P w K mg base CX0 2 f fd ["_law_text"] spVals73 := by
  refine F.ok (k := 1) sc_law_values (fun vs H Q E h => ?_) (fun cdv A outer s H vs Q E hr h => ?_)
  · obtain ⟨z, rfl, _⟩ := h
    rfl
  obtain ⟨z, rfl, hz, q⟩ := h
  refine ⟨_, (pss_one (ps_ret (pe_comp rfl (compOk_nil ["_law_text"] rfl (by decide +kernel) rfl (by decide +kernel) rfl (by decide +kernel) (by decide +kernel)) (pi_list (pe_bm PySem.F.plainAttrs_str PySem.F.slot_str_split PySem.F.type_str_split mt_split (pv 0) (pa_cons pe_str pa_nil))) (fun _ _ _ _ => pifs_nil) (fun _ _ _ _ => (pe_cal c__law_value (hr.mono (by decide)) rfl (pa_cons (pv 0) pa_nil)))))), ?_⟩
  walk_at "rdc"
  refine rd_comp (rd_iL ?_)
  walk_at "rdc"
  refine rd_bm ?_
  walk_at "rdc"
  refine ⟨rfl, ?_⟩
  walk_at "rdc"
  refine ⟨z, 44, rfl, by rw [e44], by decide, hz.len, fun l hl => ?_⟩
  have s1 := same_new hl (.lst ((splS 44 z).map V.str))
  have t1 : upd H l (.lst ((splS 44 z).map V.str)) l = some (.lst ((splS 44 z).map V.str)) := upd_same
  generalize upd H l (.lst ((splS 44 z).map V.str)) = H1 at s1 t1 ⊢
  have sl : (splS 44 z).length ≤ z.length + 1 := splS_len 44 z
  have zl := hz.len
  have eS : splS 44 z = (spl 44 (cpl z)).map fun p => (⟨p.toArray⟩ : Str) := rfl
  rw [eS] at t1 sl
  rw [List.length_map] at sl
  generalize hps : spl 44 (cpl z) = ps at *
  refine ⟨l, rfl, ⟨_, SqL.of t1⟩, ?_⟩
  refine comp_inv walk_l (by rw [List.length_map, List.length_map, sizeLine_eq]; omega) (fun D i ys H2 => H2 D = some (.lst ys) ∧ Same H1 H2 ∧ ys = (ps.take i).map oNum) (fun D hD => ⟨upd_same, same_new hD _, rfl⟩)
    (fun D i ys H2 _ ⟨h1, h2, h3⟩ => ⟨h1, by rw [h3, List.length_map]; exact List.length_take_le _ _, SqL.of (h2 _ _ t1)⟩) (fun D i x ys H2 hD hx ⟨h1, h2, h3⟩ => ?_) (fun D ys H2 hD ⟨h1, h2, h3⟩ => ?_)
  · rw [List.getElem?_map, List.getElem?_map] at hx
    obtain ⟨y, hy, rfl⟩ := Option.map_eq_some_iff.mp hx
    obtain ⟨p, hp, rfl⟩ := Option.map_eq_some_iff.mp hy
    have mem := List.mem_of_getElem? hp
    have tok : TOk (⟨p.toArray⟩ : Str) := hz.part (c := 44) (by rw [hps]; exact mem) (spl_mem 44 (cpl z) p (by rw [hps]; exact mem))
    refine rd_true (iteT ?_)
    walk_at "rdc"
    refine ⟨_, rfl, tok, fun H3 s3 => ⟨s3 _ _ h1, upd_same, same_app hD (h2.trans s3), ?_⟩⟩
    rw [List.take_add_one, hp, Option.toList_some, List.map_append, h3]
    rfl
  · rw [List.length_map, List.length_map, List.take_length] at h3
    subst h3
    exact q D H2 (s1.free hD) (s1.trans h2) h1
theorem sc_law_read_terms : FnScope ["_law_words_here", "_law_terms_here", "_law_word", "_law_values_here"] ["_law_words_here"] (defScope s_law_read_terms) := ⟨rfl, rfl, rfl, by decide +kernel, rfl, by decide +kernel, by decide +kernel⟩
theorem ok_law_read_terms {f : Addr} {fd : FuncData} (F : Fun K "_law_read_terms" "_law_read_terms" s_law_read_terms f fd) (c__law_values : Cal P w K mg base 2 "_law_values" ["_law_text"] spVals73) (z_len : mg "len" = none) : FnOk P w K mg base CX0 3 f fd ["_law_words_here"] spRdTs73 := by
  refine F.ok (k := 2) sc_law_read_terms (fun vs H Q E h => ?_) (fun cdv A outer s H vs Q E hr h => ?_)
  · obtain ⟨l, ws, rfl, _⟩ := h
    rfl
  obtain ⟨l, ws, rfl, hl, hw, q, qn⟩ := h
  refine ⟨_, (pss_cons (ps_set (i := 1) sc_law_read_terms.nd rfl (by first | exact Or.inl rfl | exact Or.inr rfl) (pe_lst pa_nil))
      (pss_cons (ps_for PassesOwn.never rfl (pi_list (pv 0)) (pg_name (i := 2) sc_law_read_terms.nd rfl (by first | exact Or.inl rfl | exact Or.inr rfl))
        (pss_cons (ps_set (i := 3) sc_law_read_terms.nd rfl (by first | exact Or.inl rfl | exact Or.inr rfl) (pe_cal c__law_values (hr.mono (by decide)) rfl (pa_cons (pe_slice sl_str (pv 2) (po_some pe_int) po_none) pa_nil)))
      (pss_cons (ps_if (PW.pt (pw_or (pt_cmpR op_notIn_seq (pe_slice sl_str (pv 2) po_none (po_some pe_int)) (pe_lst (pa_cons pe_str (pa_cons pe_str pa_nil))) (by rfl)) (pw_or (pt_cmpR op_ne (pe_callB call_len_seq rfl z_len PySem.boot_len (pa_cons (pv 3) pa_nil)) pe_int (nomark _)) (pw_or1 (pt_cmpR op_in_seq pe_non (pv 3) (by rfl))))))
        (pss_one (ps_ret pe_non))
        pss_nil)
      (pss_one (ps_expr (pe_bm PySem.F.plainAttrs_list PySem.F.slot_list_append PySem.F.type_list_append mt_append (pv 1) (pa_cons (pe_tup (pa_cons (pe_ix ix_list (pe_lst (pa_cons pe_int (pa_cons (pe_un un_neg pe_int) pa_nil))) (pe_bm PySem.F.plainAttrs_str PySem.F.slot_str_index PySem.F.type_str_index mt_index pe_str (pa_cons (pe_ix ix_str (pv 2) pe_int (fun _ _ => rfl)) pa_nil)) (fun _ _ => rfl)) (pa_cons (pe_ix ix_list (pv 3) pe_int (fun _ _ => rfl)) (pa_cons (pe_ix ix_list (pv 3) pe_int (fun _ _ => rfl)) (pa_cons (pe_ix ix_list (pv 3) pe_int (fun _ _ => rfl)) pa_nil))))) pa_nil)))))))
      (pss_one (ps_ret (pv 1))))), ?_⟩
  walk_at "rdc"
  refine ⟨Nat.zero_le _, fun l' hl' => ?_⟩
  have s0 := same_new hl' (.lst [])
  have t0 : upd H l' (.lst []) l' = some (.lst []) := upd_same
  generalize upd H l' (.lst []) = H0 at s0 t0 ⊢
  walk_at "rdc"
  walk_at "rdf"
  walk_at "rdc"
  refine ⟨l, rfl, ⟨_, SqL.of (s0 _ _ hl)⟩, for_list (fun i σ' H' => Same H H' ∧ ∃ (us : List V) (a b : Option V), H' l' = some (.lst us) ∧ Tms H' us ((ws.take i).map tmOf) ∧ AllT (ws.take i) ∧ σ' = [some (.ref l), some (.ref l'), a, b]) ⟨s0, [], _, _, t0, .nil, (fun t ht => nomatch ht), rfl⟩ (fun i σ' H' _ ⟨s1, _⟩ => SqL.of (s1 _ _ hl)) ?_ ?_⟩
  · rintro i x σ' H1 hx ⟨s1, us, a, b, t1, hT, hA, rfl⟩
    unfold wV at hx
    rw [List.getElem?_map, List.getElem?_map] at hx
    obtain ⟨y, hy, rfl⟩ := Option.map_eq_some_iff.mp hx
    obtain ⟨w', hw', rfl⟩ := Option.map_eq_some_iff.mp hy
    have mem := List.mem_of_getElem? hw'
    have tok := hw.2 w' mem
    have no : ¬ TermT w' → ∀ H', Same H H' → Q .non H' := fun n => qn fun all => n (all w' mem)
    walk_at "rdc"
    refine ⟨_, rfl, tok.fit, ?_⟩
    refine rd_nil ?_
    refine ⟨_, rfl, tok.slice _ _, fun l2 H2 hl2 s2 t2 => ?_⟩
    rw [slice_drop, cpl_txt] at t2
    have s02 := s1.trans s2
    walk_at "rdc"
    refine ⟨_, rfl, tok.fit, ?_⟩
    walk_at "rdc"
    refine ⟨two, fun l3 hl3 => ?_⟩
    have s3 := same_new hl3 (.lst [.str (Str.ofString "+"), .str (Str.ofString "-")])
    have t3 : upd H2 l3 (.lst [.str (Str.ofString "+"), .str (Str.ofString "-")]) l3 = some (.lst [.str (Str.ofString "+"), .str (Str.ofString "-")]) := upd_same
    generalize upd H2 l3 (.lst [.str (Str.ofString "+"), .str (Str.ofString "-")]) = H3 at s3 t3 ⊢
    have t32 := s3 _ _ t2
    have t31 := s3 _ _ (s2 _ _ t1)
    have s03 := s02.trans s3
    have sg := in_sign (Txt.slice (txt w') none (some 1))
    rw [slice_to1, cpl_txt, head_take, head_take] at sg
    refine ⟨l3, _, rfl, .inl (SqL.of t3), rfl, rfl, ?_⟩
    walk_at "rdc"
    by_cases c1 : inV (V.str (Txt.slice (txt w') none (some 1))) [.str (Str.ofString "+"), .str (Str.ofString "-")] = true
    rotate_left
    · rw [(Bool.not_eq_true _).mp c1]
      refine iteT (iteT ?_)
      walk_at "rdc"
      exact no (fun T => c1 (sg.mpr T.hd)) _ s03
    rw [c1]
    have hd := sg.mp c1
    refine iteF ?_
    walk_at "rdc"
    refine ⟨l2, _, rfl, .inl (SqL.of t32), ?_⟩
    walk_at "rdc"
    rw [List.length_map]
    by_cases c2 : (spl 44 (w'.drop 1)).length = 3
    rotate_left
    · refine iteNN (fun z => c2 (by have := V.int.inj z; omega)) (iteT ?_)
      walk_at "rdc"
      exact no (fun T => c2 T.len) _ s03
    refine iteNS (congrArg V.int (by rw [c2]; rfl)) ?_
    walk_at "rdc"
    refine ⟨l2, _, rfl, .inl (SqL.of t32), rfl, oNums_flat _, ?_⟩
    walk_at "rdc"
    by_cases c3 : inV .non ((spl 44 (w'.drop 1)).map oNum) = true
    · rw [c3]
      refine iteT ?_
      walk_at "rdc"
      exact no (fun T => (oNums_in _).mp c3 T.num) _ s03
    rw [(Bool.not_eq_true _).mp c3]
    refine iteF ?_
    have num : ∀ p ∈ spl 44 (w'.drop 1), IsNum p := Classical.byContradiction fun n => c3 ((oNums_in _).mpr n)
    have T : TermT w' := ⟨hd, num, c2⟩
    rw [oNums_y num] at t32
    obtain ⟨pa, pb, pn, hps⟩ : ∃ a b n, spl 44 (w'.drop 1) = [a, b, n] := by
      match spl 44 (w'.drop 1), c2 with
      | [a, b, n], _ => exact ⟨a, b, n, rfl⟩
    have etm : tmOf w' = (if w'.head? = some 43 then 1 else -1, numVal pa, numVal pb, numVal pn) := by
      unfold tmOf
      rw [hps]
      rfl
    rw [hps] at t32
    have tA : AllT (ws.take (i + 1)) := fun t ht => by
      rw [List.take_add_one, hw', Option.toList_some] at ht
      rcases List.mem_append.mp ht with e | e
      · exact hA t e
      · rw [List.mem_singleton.mp e]
        exact T
    walk_at "rdc"
    refine rd_append rfl t31 ?_
    walk_at "rdc"
    refine ⟨two', fun l4 hl4 => ?_⟩
    have s4 := same_new hl4 (.lst [.int 1, .int (-1)])
    have t4 : upd H3 l4 (.lst [.int 1, .int (-1)]) l4 = some (.lst [.int 1, .int (-1)]) := upd_same
    generalize upd H3 l4 (.lst [.int 1, .int (-1)]) = H4 at s4 t4 ⊢
    walk_at "rdc"
    refine rd_bm ?_
    walk_at "rdc"
    refine ⟨rfl, ?_⟩
    walk_at "rdc"
    obtain ⟨x0, r0, ex⟩ : ∃ x r, w' = x :: r := by
      cases w' with
      | nil => rcases hd with h | h <;> cases h
      | cons x r => exact ⟨x, r, rfl⟩
    refine ⟨_, 0, x0, rfl, rfl, tok.fit, (by show atI w' 0 = some x0; rw [ex]; exact atI_nat (j := 0) rfl), ?_⟩
    walk_at "rdc"
    obtain ⟨j, rest, hj, hsg⟩ : ∃ j rest, Builtin.Str.occurrences (Str.ofString "+-") ⟨#[x0]⟩ 0 (Str.ofString "+-").length 1 = j :: rest ∧ atI [V.int 1, .int (-1)] ((j : Nat) : Int) = some (.int (tmOf w').1) := by
      rw [etm, ex]
      rw [ex] at hd
      rcases hd with h | h <;> (injection h with h; subst h)
      · exact ⟨0, [], by decide +kernel, rfl⟩
      · exact ⟨1, [], by decide +kernel, rfl⟩
    refine ⟨_, _, j, rest, rfl, rfl, hj, ?_⟩
    refine rd_ixL (SqL.of t4) hsg ?_
    have t42 := s4 _ _ t32
    walk_at "rdc"
    refine rd_ixL (SqL.of t42) at_n0 ?_
    walk_at "rdc"
    refine rd_ixL (SqL.of t42) at_n1 ?_
    walk_at "rdc"
    refine rd_ixL (SqL.of t42) at_n2 ?_
    walk_at "rdc"
    refine ⟨four, fun p hp => ?_⟩
    have e4 : [V.int (tmOf w').1, .int (numVal pa), .int (numVal pb), .int (numVal pn)] = tmV (tmOf w') := by rw [etm]; rfl
    rw [e4]
    have s5 := same_new hp (.tup (tmV (tmOf w')))
    have t5 : upd H4 p (.tup (tmV (tmOf w'))) p = some (.tup (tmV (tmOf w'))) := upd_same
    generalize upd H4 p (.tup (tmV (tmOf w'))) = H5 at s5 t5 ⊢
    have s45 := s4.trans s5
    have ul := hT.len
    rw [List.length_map, List.length_take] at ul
    have w1 := hw.1
    refine rd_nil ?_
    refine rd_app (s45 _ _ t31) (by rw [sizeLine_eq]; omega) ?_
    walk_at "rdc"
    refine ⟨same_app hl' (s03.trans s45), us ++ [.ref p], _, _, upd_same, ?_, tA, rfl⟩
    rw [List.take_add_one, hw', Option.toList_some, List.map_append]
    exact Tms.upd (s45 _ _ t31) (Tms.snoc (t := tmOf w') t5 (((hT.same s2).same s3).same s45))
  · rintro σ' H1 ⟨s1, us, a, b, t1, hT, hA, rfl⟩
    rw [wV_len, List.take_length] at hT hA
    walk_at "rdc"
    exact q hA l' us H1 s1 t1 hT
theorem sc_law_are_terms : FnScope ["_law_base", "_law_terms_here", "_law_most", "_law_sign", "_law_a", "_law_b", "_law_n"] ["_law_base", "_law_terms_here", "_law_most"] (defScope s_law_are_terms) := ⟨rfl, rfl, rfl, by decide +kernel, rfl, by decide +kernel, by decide +kernel⟩
theorem ok_law_are_terms {f : Addr} {fd : FuncData} (F : Fun K "_law_are_terms" "_law_are_terms" s_law_are_terms f fd) (z_len : mg "len" = none) : FnOk P w K mg base CX0 1 f fd ["_law_base", "_law_terms_here", "_law_most"] spAreT73 := by
  refine F.ok (k := 0) sc_law_are_terms (fun vs H Q E h => ?_) (fun cdv A outer s H vs Q E hr h => ?_)
  · obtain ⟨l, b, g, us, ts, rfl, _⟩ := h
    rfl
  obtain ⟨l, b, g, us, ts, rfl, hl, hT, few, sg, q⟩ := h
  have ul := hT.len
  have no : ¬ AreT b ts g → ∀ H', Same H H' → Q (.bl false) H' := fun n H' s => q false H' s ⟨fun z => (nomatch z), fun z => absurd z n⟩
  refine ⟨_, (pss_cons (ps_if (pt_cmpR op_gt (pe_callB call_len_seq rfl z_len PySem.boot_len (pa_cons (pv 1) pa_nil)) pe_int (nomark _))
        (pss_one (ps_ret pe_bl))
        pss_nil)
      (pss_cons (ps_for PassesOwn.never rfl (pi_list (pv 1)) (pg_tup rfl (pgs_cons (pg_name (i := 3) sc_law_are_terms.nd rfl (by first | exact Or.inl rfl | exact Or.inr rfl)) (pgs_cons (pg_name (i := 4) sc_law_are_terms.nd rfl (by first | exact Or.inl rfl | exact Or.inr rfl)) (pgs_cons (pg_name (i := 5) sc_law_are_terms.nd rfl (by first | exact Or.inl rfl | exact Or.inr rfl)) (pgs_cons (pg_name (i := 6) sc_law_are_terms.nd rfl (by first | exact Or.inl rfl | exact Or.inr rfl)) pgs_nil)))))
        (pss_one (ps_if (PW.pt (pw_or (pt_cmpR op_lt (pv 6) pe_int (nomark _)) (pw_or (pt_cmpR op_gt (pv 6) pe_int (nomark _)) (pw_or (pt_cmpR op_lt (pv 4) pe_int (nomark _)) (pw_or (pt_cmpR op_gt (pv 4) (pv 6) (nomark _)) (pw_or (pt_cmpR op_lt (pv 5) pe_int (nomark _)) (pw_or1 (pt_cmpR op_ge (pv 5) (pv 6) (nomark _)))))))))
        (pss_one (ps_ret pe_bl))
        pss_nil)))
      (pss_one (ps_ret (pe_chain op_lt op_le (pe_callB call_len_seq rfl z_len PySem.boot_len (pa_cons (pe_comp rfl (compOk_nil ["_law_base", "_law_terms_here", "_law_most", "_law_sign", "_law_a", "_law_b", "_law_n"] rfl (by decide +kernel) rfl (by decide +kernel) rfl (by decide +kernel) (by decide +kernel)) (pi_list (pv 1)) (fun _ _ _ _ => (pifs_one (pt_cmpR op_eq (pe_ix ix_tup_c (pv 0) pe_int (fun _ _ => rfl)) (pe_un un_neg pe_int) (nomark _)))) (fun _ _ _ _ => (pv 0))) pa_nil)) (pv 0) (pv 2)))))), ?_⟩
  walk_at "rdc"
  refine ⟨l, _, rfl, .inl (SqL.of hl), ?_⟩
  walk_at "rdc"
  by_cases c1 : 6 < (us.length : Int)
  · refine iteD c1 ?_
    walk_at "rdc"
    exact no (fun z => by have := z.few; omega) _ (Same.refl _)
  refine iteN c1 ?_
  walk_at "rdc"
  walk_at "rdf"
  walk_at "rdc"
  refine ⟨l, rfl, ⟨_, SqL.of hl⟩, for_list (fun i σ' H' => H' = H ∧ (∀ t ∈ ts.take i, OkT t) ∧ ∃ (x y z v : Option V), σ' = [some (.int b), some (.ref l), some (.int g), x, y, z, v]) ⟨rfl, fun t ht => (nomatch ht), _, _, _, _, rfl⟩ (fun i σ' H' _ ⟨e, _⟩ => by rw [e]; exact SqL.of hl) ?_ ?_⟩
  · rintro i x σ' H1 hx ⟨rfl, hA, a1, a2, a3, a4, rfl⟩
    obtain ⟨p, t, rfl, ht, hp⟩ := hT.at hx
    have mem := List.mem_of_getElem? ht
    have bad : ¬ OkT t → Q (.bl false) H1 := fun n => no (fun z => n (z.ok t mem)) _ (Same.refl _)
    refine rd_gtup (xs := [.int t.1, .int t.2.1, .int t.2.2.1, .int t.2.2.2]) (SqT.of hp) rfl ?_
    walk_at "rdc"
    by_cases c2 : t.2.2.2 < 1
    · refine iteD c2 (iteT ?_)
      walk_at "rdc"
      exact bad fun z => by have := z.n0; omega
    refine iteN c2 ?_
    walk_at "rdc"
    by_cases c3 : 1000 < t.2.2.2
    · refine iteD c3 (iteT ?_)
      walk_at "rdc"
      exact bad fun z => by have := z.n1; omega
    refine iteN c3 ?_
    walk_at "rdc"
    by_cases c4 : t.2.1 < 0
    · refine iteD c4 (iteT ?_)
      walk_at "rdc"
      exact bad fun z => by have := z.a0; omega
    refine iteN c4 ?_
    walk_at "rdc"
    by_cases c5 : t.2.2.2 < t.2.1
    · refine iteD c5 (iteT ?_)
      walk_at "rdc"
      exact bad fun z => by have := z.a1; omega
    refine iteN c5 ?_
    walk_at "rdc"
    by_cases c6 : t.2.2.1 < 0
    · refine iteD c6 (iteT ?_)
      walk_at "rdc"
      exact bad fun z => by have := z.b0; omega
    refine iteN c6 ?_
    walk_at "rdc"
    by_cases c7 : t.2.2.2 ≤ t.2.2.1
    · refine iteD c7 ?_
      walk_at "rdc"
      exact bad fun z => by have := z.b1; omega
    refine iteN c7 ?_
    walk_at "rdc"
    refine ⟨rfl, fun u hu => ?_, _, _, _, _, rfl⟩
    rw [List.take_add_one, ht, Option.toList_some] at hu
    rcases List.mem_append.mp hu with e | e
    · exact hA u e
    · rw [List.mem_singleton.mp e]
      exact ⟨sg t mem, by omega, by omega, by omega, by omega, by omega, by omega⟩
  rintro σ' H1 ⟨rfl, hA, a1, a2, a3, a4, rfl⟩
  rw [ul, List.take_length] at hA
  walk_at "rdc"
  refine comp_l rfl (SqL.of hl) (by rw [ul, sizeLine_eq]; omega) (fun v => ((tmAt H1 v).map fun t => decide (t.1 = -1)).getD false) (fun v => v) (fun x hx D ys Q' hD h => ?_) (fun x hx _ D ys Q' hD h => ⟨_, rfl, h⟩) (fun D4 hD4 => ?_)
  · obtain ⟨a, t, rfl, ht, ha⟩ := hT.mem hx
    rw [tmAt_eq ha] at h
    walk_at "rdc"
    refine rd_ixT (SqT.of (same_new hD _ _ _ ha)) at40 ?_
    walk_at "rdc"
    rw [dec_int0]
    exact h
  walk_at "rdc"
  refine ⟨D4, _, rfl, .inl (SqL.of upd_same), ?_⟩
  have e : ((((us.filter fun v => ((tmAt H1 v).map fun t => decide (t.1 = -1)).getD false).map fun v => v).length : Nat) : Int) = falls ts := by
    have := congrArg List.length (hT.fm (fun t => decide (t.1 = -1)) (fun _ => V.non))
    rw [List.length_map, List.length_map] at this
    rw [List.length_map, this]
    rfl
  rw [e]
  have s4 := same_new hD4 (.lst ((us.filter fun v => ((tmAt H1 v).map fun t => decide (t.1 = -1)).getD false).map fun v => v))
  walk_at "rdc"
  by_cases c8 : falls ts < b
  · refine iteD c8 ?_
    walk_at "rdc"
    exact q _ _ s4 ⟨fun z => ⟨by omega, hA, c8, of_decide_eq_true z⟩, fun z => decide_eq_true z.g⟩
  · refine iteN c8 ?_
    exact no (fun z => c8 z.f) _ s4
theorem sc_law_of_sun : FnScope ["_law_words_here", "_law_values_here", "_law_leap", "_law_terms_here", "_law_lengths"] ["_law_words_here"] (defScope s_law_of_sun) := ⟨rfl, rfl, rfl, by decide +kernel, rfl, by decide +kernel, by decide +kernel⟩
theorem ok_law_of_sun {f : Addr} {fd : FuncData} (F : Fun K "_law_of_sun" "_law_of_sun" s_law_of_sun f fd) (c__law_value : Cal P w K mg base 1 "_law_value" ["_law_word"] spVal73) (c__law_values : Cal P w K mg base 2 "_law_values" ["_law_text"] spVals73) (c__law_read_terms : Cal P w K mg base 3 "_law_read_terms" ["_law_words_here"] spRdTs73) (c__law_are_terms : Cal P w K mg base 1 "_law_are_terms" ["_law_base", "_law_terms_here", "_law_most"] spAreT73) (z_len : mg "len" = none) (z_min : mg "min" = none) (z_max : mg "max" = none) (z_sum : mg "sum" = none) : FnOk P w K mg base CX0 4 f fd ["_law_words_here"] spOfSun73 := by
  refine F.ok (k := 3) sc_law_of_sun (fun vs H Q E h => ?_) (fun cdv A outer s H vs Q E hr h => ?_)
  · obtain ⟨l, w0, us, rfl, _⟩ := h
    rfl
  obtain ⟨l, w0, us, rfl, hl, hw, len2, q, qm, qt⟩ := h
  obtain ⟨a, b, r, rfl⟩ : ∃ a b r, us = a :: b :: r := by
    match us, len2 with
    | [], h => exact absurd h (by decide)
    | [a], h => exact absurd h (by show ¬ 2 ≤ 1; decide)
    | a :: b :: r, _ => exact ⟨a, b, r, rfl⟩
  have ta := hw.2 a (by simp)
  have tb := hw.2 b (by simp)
  refine ⟨_, (pss_cons (ps_set (i := 1) sc_law_of_sun.nd rfl (by first | exact Or.inl rfl | exact Or.inr rfl) (pe_op op_cat (pe_lst (pa_cons (pe_cal c__law_value (hr.mono (by decide)) rfl (pa_cons (pe_ix ix_list (pv 0) pe_int (fun _ _ => rfl)) pa_nil)) pa_nil)) (pe_cal c__law_values (hr.mono (by decide)) rfl (pa_cons (pe_ix ix_list (pv 0) pe_int (fun _ _ => rfl)) pa_nil))))
      (pss_cons (ps_set (i := 2) sc_law_of_sun.nd rfl (by first | exact Or.inl rfl | exact Or.inr rfl) pe_int)
      (pss_cons (ps_set (i := 3) sc_law_of_sun.nd rfl (by first | exact Or.inl rfl | exact Or.inr rfl) (pe_lst pa_nil))
      (pss_cons (ps_cut (ps_if (pt_cmpR op_gt (pe_callB call_len_seq rfl z_len PySem.boot_len (pa_cons (pv 0) pa_nil)) pe_int (nomark _))
        (pss_cons (ps_cut (ps_set (i := 2) sc_law_of_sun.nd rfl (by first | exact Or.inl rfl | exact Or.inr rfl) (pe_ifExp (PW.pt (pw_and (pt_cmpR op_gt (pe_callB call_len_seq rfl z_len PySem.boot_len (pa_cons (pv 0) pa_nil)) pe_int (nomark _)) (pw_and1 (pt_cmpR op_eq (pe_ix ix_list (pv 0) pe_int (fun _ _ => rfl)) pe_str (nomark _))))) (pe_cal c__law_value (hr.mono (by decide)) rfl (pa_cons (pe_ix ix_list (pv 0) pe_int (fun _ _ => rfl)) pa_nil)) pe_non)))
      (pss_one (ps_set (i := 3) sc_law_of_sun.nd rfl (by first | exact Or.inl rfl | exact Or.inr rfl) (pe_cal c__law_read_terms (hr.mono (by decide)) rfl (pa_cons (pe_slice sl_list (pv 0) (po_some pe_int) po_none) pa_nil)))))
        pss_nil))
      (pss_cons (ps_if (PW.pt (pw_or (pt_cmpR op_in_seq pe_non (pv 1) (by rfl)) (pw_or (pt_cmpR op_isN (pv 2) pe_non (nomark _)) (pw_or1 (pt_cmpR op_isN (pv 3) pe_non (nomark _))))))
        (pss_one (ps_ret pe_str))
        pss_nil)
      (pss_cons (ps_set (i := 4) sc_law_of_sun.nd rfl (by first | exact Or.inl rfl | exact Or.inr rfl) (pe_slice sl_list (pv 1) (po_some pe_int) po_none))
      (pss_cons (ps_if (PW.pt (pw_or (pt_cmpR op_gt (pe_callB call_len_seq rfl z_len PySem.boot_len (pa_cons (pv 4) pa_nil)) pe_int (nomark _)) (pw_or (pt_cmpR op_lt (pe_callB (call_minL rfl) rfl z_min PyProof.Rows.boot_min (pa_cons (pv 4) pa_nil)) pe_int (nomark _)) (pw_or (pt_cmpR op_gt (pe_callB (call_maxL rfl) rfl z_max PyProof.Rows.boot_max (pa_cons (pv 4) pa_nil)) pe_int (nomark _)) (pw_or (pt_cmpR op_lt (pv 2) pe_int (nomark _)) (pw_or1 (pt_cmpR op_gt (pv 2) (pe_callB call_len_seq rfl z_len PySem.boot_len (pa_cons (pv 4) pa_nil)) (nomark _))))))))
        (pss_one (ps_ret pe_str))
        pss_nil)
      (pss_cons (ps_if (PW.pt (pw_or (pt_not (pt_val (pe_cal c__law_are_terms (hr.mono (by decide)) rfl (pa_cons (pe_op op_add (pe_ix ix_list (pv 4) (pe_op op_sub (pv 2) pe_int) (fun _ _ => rfl)) pe_int) (pa_cons (pv 3) (pa_cons pe_int pa_nil)))))) (pw_or1 (pt_not (pt_val (pe_cal c__law_are_terms (hr.mono (by decide)) rfl (pa_cons (pe_callB (call_sum rfl) rfl z_sum PyProof.Rows.boot_sum (pa_cons (pv 4) pa_nil)) (pa_cons (pv 3) (pa_cons pe_int pa_nil)))))))))
        (pss_one (ps_ret pe_str))
        pss_nil)
      (pss_one (ps_ret pe_str)))))))))), ?_⟩
  walk_at "rdc"
  refine rd_ixL (SqL.of hl) at_n1 ?_
  refine rd_nil ?_
  refine ⟨_, rfl, ta, fun H1 s1 => ?_⟩
  rw [cpl_txt]
  walk_at "rdc"
  refine ⟨(by show 1 ≤ sizeLine; decide), fun l1 hl1 => ?_⟩
  have s2 := same_new hl1 (.lst [oNum a])
  have t2 : upd H1 l1 (.lst [oNum a]) l1 = some (.lst [oNum a]) := upd_same
  generalize upd H1 l1 (.lst [oNum a]) = H2 at s2 t2 ⊢
  have h2 := s2 _ _ (s1 _ _ hl)
  walk_at "rdc"
  refine rd_ixL (SqL.of h2) at_n2 ?_
  refine rd_nil ?_
  refine ⟨_, rfl, tb, fun l3 H3 hl3 s3 t3 => ?_⟩
  rw [cpl_txt] at t3
  have bl : (spl 44 b).length ≤ 1000001 := by
    have h0 := splS_len 44 (txt b)
    have := tb.len
    unfold splS at h0
    rw [List.length_map] at h0
    have h1 : (spl 44 b).length ≤ (txt b).length + 1 := h0
    omega
  refine ⟨l1, l3, _, _, rfl, rfl, s3 _ _ t2, t3, (by rw [List.length_map, sizeLine_eq]; show 1 + _ ≤ _; omega), fun l4 hl4 => ?_⟩
  have eL : [oNum a] ++ (spl 44 b).map oNum = (a :: spl 44 b).map oNum := rfl
  rw [eL]
  have s4 := same_new hl4 (.lst ((a :: spl 44 b).map oNum))
  have t4 : upd H3 l4 (.lst ((a :: spl 44 b).map oNum)) l4 = some (.lst ((a :: spl 44 b).map oNum)) := upd_same
  generalize upd H3 l4 (.lst ((a :: spl 44 b).map oNum)) = H4 at s4 t4 ⊢
  have h4 := (s3.trans s4) _ _ h2
  have s04 := (s1.trans s2).trans (s3.trans s4)
  walk_at "rdc"
  refine ⟨Nat.zero_le _, fun l5 hl5 => ?_⟩
  have s5 := same_new hl5 (.lst [])
  have t5 : upd H4 l5 (.lst []) l5 = some (.lst []) := upd_same
  generalize upd H4 l5 (.lst []) = H5 at s5 t5 ⊢
  have h5 := s5 _ _ h4
  have s05 := s04.trans s5
  have v5 := s5 _ _ t4
  walk_at "rdc"
  refine rd_cut (fun σ' H' => Same H5 H' ∧ ∃ vl vt : V, σ' = [some (.ref l), some (.ref l4), some vl, some vt, none] ∧
    ((∃ (lp : Int) (ts : List Tm) (us : List V) (l6 : Addr), vl = .int lp ∧ vt = .ref l6 ∧ H' l6 = some (.lst us) ∧ Tms H' us ts ∧ ts.length ≤ 5000 ∧ (∀ t ∈ ts, t.1 = 1 ∨ t.1 = -1) ∧ (IsNum a → NumsT b → SunF (a :: b :: r) (numVal a) (numsOf b) lp ts)) ∨
     ((¬ ∃ s ls lp ts, SunF (a :: b :: r) s ls lp ts) ∧ (vl = .non ∨ vt = .non)))) ?_ ?_
  · walk_at "rdc"
    refine ⟨l, _, rfl, .inl (SqL.of h5), ?_⟩
    walk_at "rdc"
    rw [wV_len]
    cases r with
    | nil =>
      refine iteN (by show ¬ (3 : Int) < 3; decide) ?_
      walk_at "rdc"
      exact ⟨Same.refl _, _, _, rfl, .inl ⟨1, [], [], l5, rfl, rfl, t5, .nil, by decide, (fun t ht => nomatch ht), fun ha hb => .plain ha hb⟩⟩
    | cons c0 r =>
      refine iteD (by simp only [List.length_cons]; omega) ?_
      have wr : Wds (r.drop 1) := hw.drop 5
      walk_at "rdc"
      refine rd_cut (fun σ' H' => Same H5 H' ∧ ∃ vl : V, σ' = [some (.ref l), some (.ref l4), some vl, some (.ref l5), none] ∧ ((∃ c ts, r = c :: ts ∧ ts ≠ [] ∧ c0 = [108, 101, 97, 112] ∧ vl = oNum c) ∨ (vl = .non ∧ ¬ ∃ c ts, r = c :: ts ∧ ts ≠ [] ∧ c0 = [108, 101, 97, 112]))) ?_ ?_
      · walk_at "rdc"
        refine rd_ifE ?_
        walk_at "rdc"
        refine ⟨l, _, rfl, .inl (SqL.of h5), ?_⟩
        walk_at "rdc"
        rw [wV_len]
        by_cases c1 : 5 < (((w0 :: a :: b :: c0 :: r).length : Nat) : Int)
        rotate_left
        · refine iteN c1 (iteF ?_)
          walk_at "rdc"
          exact ⟨Same.refl _, _, rfl, .inr ⟨rfl, fun ⟨c, ts, e, n, _⟩ => by
            subst e
            have := List.length_pos_iff.mpr n
            simp only [List.length_cons] at c1
            omega⟩⟩
        refine iteD c1 ?_
        obtain ⟨c, ts, rfl, tne⟩ : ∃ c ts, r = c :: ts ∧ ts ≠ [] := by
          match r, c1 with
          | [], h => exact absurd h (by show ¬ (5 : Int) < 4; decide)
          | [c], h => exact absurd h (by show ¬ (5 : Int) < 5; decide)
          | c :: t :: ts, _ => exact ⟨c, t :: ts, rfl, by simp⟩
        walk_at "rdc"
        refine rd_ixL (SqL.of h5) at_n3 ?_
        walk_at "rdc"
        rw [eLeap]
        by_cases c2 : c0 = [108, 101, 97, 112]
        rotate_left
        · refine iteN (fun z => c2 (txt_inj (V.str.inj z))) ?_
          walk_at "rdc"
          exact ⟨Same.refl _, _, rfl, .inr ⟨rfl, fun ⟨_, _, _, _, e⟩ => c2 e⟩⟩
        refine iteD (by rw [c2]) ?_
        walk_at "rdc"
        refine rd_ixL (SqL.of h5) at_n4 ?_
        refine rd_nil ?_
        refine ⟨_, rfl, hw.2 c (by simp), fun H6 s6 => ?_⟩
        rw [cpl_txt]
        walk_at "rdc"
        exact ⟨s6, _, rfl, .inl ⟨c, ts, rfl, tne, c2, rfl⟩⟩
      rintro σ' H6 ⟨s6, vl, rfl, hvl⟩
      have h6 := s6 _ _ h5
      walk_at "rdc"
      refine rd_slL (SqL.of h6) fun u7 hu7 => ?_
      rw [show cutV (wV (w0 :: a :: b :: c0 :: r)) (some 5) none = wV (r.drop 1) from cutWf _ 5]
      have s7 := same_new hu7 (.lst (wV (r.drop 1)))
      have t7 : upd H6 u7 (.lst (wV (r.drop 1))) u7 = some (.lst (wV (r.drop 1))) := upd_same
      generalize upd H6 u7 (.lst (wV (r.drop 1))) = H7 at s7 t7 ⊢
      refine rd_nil ?_
      have s57 := s6.trans s7
      refine ⟨u7, _, rfl, t7, wr, fun T l8 us8 H8 s8 t8 hT8 => ?_, fun nT H8 s8 => ?_⟩
      · walk_at "rdc"
        rcases hvl with ⟨c, ts, e, tne, e0, ev⟩ | ⟨ev, n⟩
        · subst e
          by_cases Nc : IsNum c
          · rw [oNum_y Nc] at ev
            exact ⟨s57.trans s8, _, _, rfl, .inl ⟨numVal c, _, us8, l8, ev, rfl, t8, hT8, few_map wr, tmOf_sg _, fun ha hb => by subst e0; exact .leap ha hb Nc tne T⟩⟩
          · rw [oNum_n Nc] at ev
            exact ⟨s57.trans s8, _, _, rfl, .inr ⟨fun ⟨_, _, _, _, F⟩ => by cases F; exact Nc (by assumption), .inl ev⟩⟩
        · exact ⟨s57.trans s8, _, _, rfl, .inr ⟨fun ⟨_, _, _, _, F⟩ => by cases F with | leap _ _ _ hn _ => exact n ⟨_, _, rfl, hn, rfl⟩, .inl ev⟩⟩
      · walk_at "rdc"
        exact ⟨s57.trans s8, _, _, rfl, .inr ⟨fun ⟨_, _, _, _, F⟩ => by cases F with | leap _ _ _ _ ht => exact nT ht, .inr rfl⟩⟩
  rintro σ' H6 ⟨s6, vl, vt, rfl, hC⟩
  have s06 := s05.trans s6
  have v6 := s6 _ _ v5
  walk_at "rdc"
  refine ⟨l4, _, rfl, .inl (SqL.of v6), rfl, oNums_flat _, ?_⟩
  have oi := oNums_in (a :: spl 44 b)
  walk_at "rdc"
  by_cases c1 : inV .non ((a :: spl 44 b).map oNum) = true
  · rw [c1]
    refine iteT (iteT ?_)
    walk_at "rdc"
    exact qt (fun ⟨_, _, _, _, F⟩ => oi.mp c1 F.nums) _ s06
  rw [(Bool.not_eq_true _).mp c1]
  refine iteF ?_
  have all : ∀ w ∈ a :: spl 44 b, IsNum w := Classical.byContradiction fun n => c1 (oi.mpr n)
  have Na := all a List.mem_cons_self
  have Nb : NumsT b := fun w hw => all w (List.mem_cons_of_mem _ hw)
  walk_at "rdc"
  refine ⟨rfl, ?_⟩
  walk_at "rdc"
  rcases hC with ⟨lp, ts, us, l6, rfl, rfl, t6, hT, few, sg, mk⟩ | ⟨noF, bad⟩
  rotate_left
  · by_cases e1 : vl = .non
    · refine iteD e1 (iteT ?_)
      walk_at "rdc"
      exact qt noF _ s06
    · refine iteN e1 ?_
      walk_at "rdc"
      refine ⟨rfl, ?_⟩
      walk_at "rdc"
      refine iteD (bad.resolve_left e1) ?_
      walk_at "rdc"
      exact qt noF _ s06
  have F := mk Na Nb
  refine iteN (fun z => by cases z) ?_
  walk_at "rdc"
  refine ⟨rfl, ?_⟩
  walk_at "rdc"
  refine iteN (fun z => by cases z) ?_
  walk_at "rdc"
  refine rd_slL (SqL.of v6) fun u7 hu7 => ?_
  have ec : cutV ((a :: spl 44 b).map oNum) (some 1) none = (numsOf b).map V.int := by
    rw [show (some 1 : Option Int) = some ((1 : Nat) : Int) from rfl, cut_from']
    exact oNums_y Nb
  rw [ec]
  have lne : numsOf b ≠ [] := fun z => spl_ne 44 b (List.map_eq_nil_iff.mp z)
  generalize numsOf b = ls at F lne ⊢
  have lp0 : 0 < ls.length := List.length_pos_iff.mpr lne
  have s7 := same_new hu7 (.lst (ls.map V.int))
  have t7 : upd H6 u7 (.lst (ls.map V.int)) u7 = some (.lst (ls.map V.int)) := upd_same
  generalize upd H6 u7 (.lst (ls.map V.int)) = H7 at s7 t7 ⊢
  have s07 := s06.trans s7
  have S7 : SqL K H7 u7 (ls.map V.int) := SqL.of t7
  have bad : ¬ GoodS ls lp ts → saysT H Q "measure" := qm _ _ _ _ F
  walk_at "rdc"
  refine ⟨u7, _, rfl, .inl S7, ?_⟩
  rw [List.length_map]
  walk_at "rdc"
  by_cases d1 : 20 < (ls.length : Int)
  · refine iteD d1 (iteT ?_)
    walk_at "rdc"
    exact bad (fun g => by have := g.l1; omega) _ s07
  refine iteN d1 ?_
  walk_at "rdc"
  refine ⟨u7, ls, rfl, S7, lne, fun mn hm hle => ?_⟩
  walk_at "rdc"
  by_cases d2 : mn < 0
  · refine iteD d2 (iteT ?_)
    walk_at "rdc"
    exact bad (fun g => by have := g.m mn hm; omega) _ s07
  refine iteN d2 ?_
  walk_at "rdc"
  refine ⟨u7, ls, rfl, S7, lne, fun mx hx hge => ?_⟩
  walk_at "rdc"
  by_cases d3 : 1000 < mx
  · refine iteD d3 (iteT ?_)
    walk_at "rdc"
    exact bad (fun g => by have := g.m mx hx; omega) _ s07
  refine iteN d3 ?_
  walk_at "rdc"
  by_cases d4 : lp < 1
  · refine iteD d4 (iteT ?_)
    walk_at "rdc"
    exact bad (fun g => by have := g.p0; omega) _ s07
  refine iteN d4 ?_
  walk_at "rdc"
  refine ⟨u7, _, rfl, .inl S7, ?_⟩
  rw [List.length_map]
  walk_at "rdc"
  by_cases d5 : (ls.length : Int) < lp
  · refine iteD d5 ?_
    walk_at "rdc"
    exact bad (fun g => by have := g.p1; omega) _ s07
  refine iteN d5 ?_
  have box : ∀ n ∈ ls, 0 ≤ n ∧ n ≤ 1000 := fun n hn => ⟨by have := hle n hn; omega, by have := hge n hn; omega⟩
  have sb := sum_le box
  have il : (lp - 1).toNat < ls.length := by omega
  have gm := box _ (getD_mem' il)
  have hat : atI (ls.map V.int) (lp - 1) = some (V.int (ls.getD (lp - 1).toNat 0)) := by
    have elp : lp - 1 = (((lp - 1).toNat : Nat) : Int) := by omega
    conv => lhs; rw [elp]
    refine atI_nat ?_
    rw [List.getElem?_map, List.getD_eq_getElem?_getD, List.getElem?_eq_getElem il]
    rfl
  walk_at "rdc"
  refine rd_ixL S7 hat ?_
  walk_at "rdc"
  refine ⟨l6, _, _, us, ts, rfl, s7 _ _ t6, hT.same s7, few, sg, fun cb H8 s8 hcb => ?_⟩
  walk_at "rdc"
  by_cases d6 : cb = true
  rotate_left
  · rw [(Bool.not_eq_true _).mp d6]
    refine iteT (iteT ?_)
    walk_at "rdc"
    exact bad (fun g => d6 (hcb.mpr ⟨g.few, g.ok, by have := g.f0; omega, by omega⟩)) _ (s07.trans s8)
  have A1 := hcb.mp d6
  rw [d6]
  refine iteF ?_
  walk_at "rdc"
  refine ⟨u7, ls, rfl, s8.seq S7, ?_⟩
  walk_at "rdc"
  refine ⟨l6, _, _, us, ts, rfl, s8 _ _ (s7 _ _ t6), (hT.same s7).same s8, few, sg, fun cb2 H9 s9 hcb2 => ?_⟩
  walk_at "rdc"
  by_cases d7 : cb2 = true
  rotate_left
  · rw [(Bool.not_eq_true _).mp d7]
    refine iteT ?_
    walk_at "rdc"
    exact bad (fun g => d7 (hcb2.mpr ⟨g.few, g.ok, g.f1, g.sum.2⟩)) _ ((s07.trans s8).trans s9)
  have A2 := hcb2.mp d7
  rw [d7]
  refine iteF ?_
  walk_at "rdc"
  have f0 := A1.f
  exact q _ _ _ _ F ⟨by omega, by omega, box, by omega, by omega, by omega, A2.f, A1.ok, A1.few⟩ _ ((s07.trans s8).trans s9)
theorem sc_law_of_moon : FnScope ["_law_words_here", "_law_at", "_law_values_here", "_law_days", "_law_many"] ["_law_words_here"] (defScope s_law_of_moon) := ⟨rfl, rfl, rfl, by decide +kernel, rfl, by decide +kernel, by decide +kernel⟩
theorem ok_law_of_moon {f : Addr} {fd : FuncData} (F : Fun K "_law_of_moon" "_law_of_moon" s_law_of_moon f fd) (c__law_value : Cal P w K mg base 1 "_law_value" ["_law_word"] spVal73) (c__law_read_terms : Cal P w K mg base 3 "_law_read_terms" ["_law_words_here"] spRdTs73) (c__law_are_terms : Cal P w K mg base 1 "_law_are_terms" ["_law_base", "_law_terms_here", "_law_most"] spAreT73) : FnOk P w K mg base CX0 4 f fd ["_law_words_here"] spOfMoon73 := by
  refine F.ok (k := 3) sc_law_of_moon (fun vs H Q E h => ?_) (fun cdv A outer s H vs Q E hr h => ?_)
  · obtain ⟨l, w0, us, rfl, _⟩ := h
    rfl
  obtain ⟨l, w0, us, rfl, hl, hw, nw, len2, q, qm, qt⟩ := h
  refine ⟨_, (pss_cons (ps_if (pt_cmpR op_notIn_seq pe_str (pe_slice sl_list (pv 0) (po_some pe_int) (po_some (pe_un un_neg pe_int))) (by rfl))
        (pss_one (ps_ret pe_str))
        pss_nil)
      (pss_cons (ps_set (i := 1) sc_law_of_moon.nd rfl (by first | exact Or.inl rfl | exact Or.inr rfl) (pe_bm PySem.F.plainAttrs_list PySem.F.slot_list_index PySem.F.type_list_index mt_lindex (pv 0) (pa_cons pe_str pa_nil)))
      (pss_cons (ps_setComp (i := 2) sc_law_of_moon.nd rfl (by first | exact Or.inl rfl | exact Or.inr rfl) rfl (compOk_freeM ["_law_words_here", "_law_at", "_law_values_here", "_law_days", "_law_many"] ["_law_words_here", "_law_at", "_law_values_here", "_law_days", "_law_many"] rfl rfl (by with_unfolding_all rfl) (by decide +kernel) rfl (by decide +kernel) rfl (by decide +kernel) (by walk_at "fm") (by with_unfolding_all rfl) (by with_unfolding_all rfl)) (pi_list (pe_lst (pa_cons pe_int (pa_cons pe_int (pa_cons (pe_op op_add (pv 1) pe_int) pa_nil))))) (fun _ _ _ _ => pifs_nil) (fun _ _ _ _ => (pe_cal c__law_value (hr.mono (by decide)) rfl (pa_cons (pe_ix ix_list_c (pv 1) (pv 0) (fun _ _ => rfl)) pa_nil))))
      (pss_cons (ps_cut (ps_set (i := 3) sc_law_of_moon.nd rfl (by first | exact Or.inl rfl | exact Or.inr rfl) (pe_cal c__law_read_terms (hr.mono (by decide)) rfl (pa_cons (pe_slice sl_list (pv 0) (po_some pe_int) (po_some (pv 1))) pa_nil))))
      (pss_cons (ps_cut (ps_set (i := 4) sc_law_of_moon.nd rfl (by first | exact Or.inl rfl | exact Or.inr rfl) (pe_cal c__law_read_terms (hr.mono (by decide)) rfl (pa_cons (pe_slice sl_list (pv 0) (po_some (pe_op op_add (pv 1) pe_int)) po_none) pa_nil))))
      (pss_cons (ps_if (PW.pt (pw_or (pt_cmpR op_in_seq pe_non (pv 2) (by rfl)) (pw_or (pt_cmpR op_isN (pv 3) pe_non (nomark _)) (pw_or1 (pt_cmpR op_isN (pv 4) pe_non (nomark _))))))
        (pss_one (ps_ret pe_str))
        pss_nil)
      (pss_cons (ps_if (PW.pt (pw_or (pt_not (pt_val (pe_cal c__law_are_terms (hr.mono (by decide)) rfl (pa_cons (pe_ix ix_list (pv 2) pe_int (fun _ _ => rfl)) (pa_cons (pv 3) (pa_cons pe_int pa_nil)))))) (pw_or1 (pt_not (pt_val (pe_cal c__law_are_terms (hr.mono (by decide)) rfl (pa_cons (pe_ix ix_list (pv 2) pe_int (fun _ _ => rfl)) (pa_cons (pv 4) (pa_cons pe_int pa_nil)))))))))
        (pss_one (ps_ret pe_str))
        pss_nil)
      (pss_one (ps_ret pe_str))))))))), ?_⟩
  walk_at "rdc"
  refine rd_slL (SqL.of hl) fun u1 hu1 => ?_
  rw [cut_inner w0 len2]
  have s1 := same_new hu1 (.lst (wV ((us.drop 2).dropLast)))
  have t1 : upd H u1 (.lst (wV ((us.drop 2).dropLast))) u1 = some (.lst (wV ((us.drop 2).dropLast))) := upd_same
  generalize upd H u1 (.lst (wV ((us.drop 2).dropLast))) = H1 at s1 t1 ⊢
  have h1 := s1 _ _ hl
  refine ⟨u1, _, rfl, .inl (SqL.of t1), rfl, wV_flat _, ?_⟩
  rw [eSlash]
  have iw := in_wV [47] ((us.drop 2).dropLast)
  walk_at "rdc"
  by_cases c1 : [47] ∈ (us.drop 2).dropLast
  rotate_left
  · rw [(Bool.not_eq_true _).mp fun z => c1 (iw.mp z)]
    refine iteT ?_
    walk_at "rdc"
    exact qt (fun ⟨_, _, _, _, _, F⟩ => c1 F.has.2) _ s1
  rw [iw.mpr c1]
  refine iteF ?_
  have c2 := mem_inner c1
  obtain ⟨A, r, eus, hA⟩ : ∃ A r, us = A ++ [47] :: r ∧ [47] ∉ A := List.eq_append_cons_of_mem (List.dropLast_subset _ c2)
  obtain ⟨c, m, rfl⟩ : ∃ c m, r = c :: m := by
    cases r with
    | nil =>
      rw [eus, List.dropLast_concat] at c2
      exact absurd c2 hA
    | cons c m => exact ⟨c, m, rfl⟩
  obtain ⟨a, b, rest, rfl⟩ : ∃ a b r, us = a :: b :: r := by
    match us, len2 with
    | [], h => exact absurd h (by decide)
    | [a], h => exact absurd h (by show ¬ 2 ≤ 1; decide)
    | a :: b :: r, _ => exact ⟨a, b, r, rfl⟩
  have hA' : [47] ∉ w0 :: A := fun z => by
    rcases List.mem_cons.mp z with y | y
    · exact nw y.symm
    · exact hA y
  have ew : w0 :: a :: b :: rest = (w0 :: A) ++ [47] :: c :: m := by rw [eus]; rfl
  have no : ¬ (IsNum a ∧ IsNum b ∧ IsNum c ∧ AllT (A.drop 2) ∧ AllT m) → saysT H Q "text" := fun n => qt fun ⟨_, _, _, _, _, F⟩ => by
    rw [eus] at F
    obtain ⟨a', b', c', t', m', e1, e2, x1, x2, x3, x4, x5, _⟩ := F.cut hA
    cases e2
    subst e1
    cases eus
    exact n ⟨x1, x2, x3, x4, x5⟩
  have ta := hw.2 a (by simp)
  have tb := hw.2 b (by simp)
  have tc := hw.2 c (by rw [ew]; simp)
  have wd : Wds (A.drop 2) := hw.of (by rw [ew]; simp; omega) fun w h => by
    rw [ew]
    exact List.mem_append_left _ (List.mem_cons_of_mem _ (List.mem_of_mem_drop h))
  have wm : Wds m := hw.of (by rw [ew]; simp; omega) fun w h => by
    rw [ew]
    simp [h]
  have h1' : H1 l = some (.lst (wV ((w0 :: A) ++ [47] :: c :: m))) := by rw [← ew]; exact h1
  walk_at "rdc"
  refine rd_bm ?_
  walk_at "rdc"
  refine ⟨.inl ⟨rfl, _, SqL.of h1'⟩, ?_⟩
  walk_at "rdc"
  refine ⟨l, _, txt [47], (w0 :: A).length, rfl, rfl, SqL.of h1', idx_at (w0 :: A) (c :: m), idx_no (c :: m) hA', ?_⟩
  walk_at "rdc"
  refine rd_comp (rd_iL ?_)
  walk_at "rdc"
  refine ⟨(by show 3 ≤ sizeLine; decide), fun l2 hl2 => ?_⟩
  have el : (((w0 :: A).length : Nat) : Int) + 1 = ((A.length + 2 : Nat) : Int) := by rw [List.length_cons]; omega
  rw [el]
  have s2 := same_new hl2 (.lst [.int 1, .int 2, .int ((A.length + 2 : Nat) : Int)])
  have t2 : upd H1 l2 (.lst [.int 1, .int 2, .int ((A.length + 2 : Nat) : Int)]) l2 = some (.lst [.int 1, .int 2, .int ((A.length + 2 : Nat) : Int)]) := upd_same
  generalize upd H1 l2 (.lst [.int 1, .int 2, .int ((A.length + 2 : Nat) : Int)]) = H2 at s2 t2 ⊢
  have h2 := s2 _ _ h1'
  have ix : ∀ (i : Nat) (x : V), ([V.int 1, .int 2, .int ((A.length + 2 : Nat) : Int)])[i]? = some x → ∃ (j : Int) (y : List Nat), x = .int j ∧ ([a, b, c] : List (List Nat))[i]? = some y ∧ atI (wV ((w0 :: A) ++ [47] :: c :: m)) j = some (.str (txt y)) := fun i x hx => by
    match i, hx with
    | 0, hx =>
      cases hx
      exact ⟨1, a, rfl, rfl, by rw [← ew]; exact at_n1⟩
    | 1, hx =>
      cases hx
      exact ⟨2, b, rfl, rfl, by rw [← ew]; exact at_n2⟩
    | 2, hx =>
      cases hx
      refine ⟨_, c, rfl, rfl, atI_nat ?_⟩
      unfold wV
      rw [List.getElem?_map, List.getElem?_map, List.getElem?_append_right (by rw [List.length_cons]; omega), List.length_cons, show A.length + 2 - (A.length + 1) = 1 by omega]
      rfl
    | i + 3, hx => exact absurd hx (by simp)
  have tk : ∀ y ∈ ([a, b, c] : List (List Nat)), TOk (txt y) := fun y hy => by
    rcases List.mem_cons.mp hy with rfl | hy
    · exact ta
    rcases List.mem_cons.mp hy with rfl | hy
    · exact tb
    · rw [List.mem_singleton.mp hy]
      exact tc
  refine ⟨l2, rfl, ⟨_, SqL.of t2⟩, ?_⟩
  refine comp_inv walk_l (by rw [sizeLine_eq]; show 3 < _; decide) (fun D i ys H3 => H3 D = some (.lst ys) ∧ Same H2 H3 ∧ ys = (([a, b, c] : List (List Nat)).take i).map oNum) (fun D hD => ⟨upd_same, same_new hD _, rfl⟩)
    (fun D i ys H3 _ ⟨g1, g2, g3⟩ => ⟨g1, by rw [g3, List.length_map]; exact List.length_take_le _ _, SqL.of (g2 _ _ t2)⟩) (fun D i x ys H3 hD hx ⟨g1, g2, g3⟩ => ?_) (fun D ys H3 hD ⟨g1, g2, g3⟩ => ?_)
  · obtain ⟨j, y, rfl, hy, hj⟩ := ix i x hx
    refine rd_true (iteT ?_)
    walk_at "rdc"
    refine rd_ixL (SqL.of (g2 _ _ h2)) hj ?_
    refine rd_nil ?_
    refine ⟨_, rfl, tk y (List.mem_of_getElem? hy), fun H4 s4 => ⟨s4 _ _ g1, upd_same, same_app hD (g2.trans s4), ?_⟩⟩
    rw [List.take_add_one, hy, Option.toList_some, List.map_append, g3]
    rfl
  have e3 : ys = ([a, b, c] : List (List Nat)).map oNum := g3
  subst e3
  have h3 := g2 _ _ h2
  have s03 := (s1.trans s2).trans g2
  have ec3 : cutV (wV ((w0 :: A) ++ [47] :: c :: m)) (some 3) (some (((w0 :: A).length : Nat) : Int)) = wV (A.drop 2) := by
    rw [show (some 3 : Option Int) = some ((3 : Nat) : Int) from rfl, cutW, List.take_left]
    rfl
  have ec5 : cutV (wV ((w0 :: A) ++ [47] :: c :: m)) (some ((((w0 :: A).length : Nat) : Int) + 2)) none = wV m := by
    rw [show ((((w0 :: A).length : Nat) : Int) + 2) = (((w0 :: A).length + 2 : Nat) : Int) by omega, cutWf]
    congr 1
    rw [← List.drop_drop, List.drop_left]
    rfl
  walk_at "rdc"
  refine rd_cut (fun σ' H' => Same H3 H' ∧ ∃ vd : V, σ' = [some (.ref l), some (.int (((w0 :: A).length : Nat) : Int)), some (.ref D), some vd, none] ∧ TmsV H' (A.drop 2) vd) ?_ ?_
  · walk_at "rdc"
    refine rd_slL (SqL.of h3) fun u4 hu4 => ?_
    rw [ec3]
    have s4 := same_new hu4 (.lst (wV (A.drop 2)))
    have t4 : upd H3 u4 (.lst (wV (A.drop 2))) u4 = some (.lst (wV (A.drop 2))) := upd_same
    generalize upd H3 u4 (.lst (wV (A.drop 2))) = H4 at s4 t4 ⊢
    refine rd_nil ?_
    refine ⟨u4, _, rfl, t4, wd, fun T l5 us5 H5 s5 t5 hT5 => ?_, fun nT H5 s5 => ?_⟩
    · walk_at "rdc"
      exact ⟨s4.trans s5, _, rfl, .inl ⟨T, l5, us5, rfl, t5, hT5⟩⟩
    · walk_at "rdc"
      exact ⟨s4.trans s5, _, rfl, .inr ⟨nT, rfl⟩⟩
  rintro σ' H4 ⟨s4, vd, rfl, hd⟩
  have h4 := s4 _ _ h3
  walk_at "rdc"
  refine rd_cut (fun σ' H' => Same H4 H' ∧ ∃ vm : V, σ' = [some (.ref l), some (.int (((w0 :: A).length : Nat) : Int)), some (.ref D), some vd, some vm] ∧ TmsV H' m vm) ?_ ?_
  · walk_at "rdc"
    refine rd_slL (SqL.of h4) fun u5 hu5 => ?_
    rw [ec5]
    have s5 := same_new hu5 (.lst (wV m))
    have t5 : upd H4 u5 (.lst (wV m)) u5 = some (.lst (wV m)) := upd_same
    generalize upd H4 u5 (.lst (wV m)) = H5 at s5 t5 ⊢
    refine rd_nil ?_
    refine ⟨u5, _, rfl, t5, wm, fun T l5 us5 H6 s6 t6 hT6 => ?_, fun nT H6 s6 => ?_⟩
    · walk_at "rdc"
      exact ⟨s5.trans s6, _, rfl, .inl ⟨T, l5, us5, rfl, t6, hT6⟩⟩
    · walk_at "rdc"
      exact ⟨s5.trans s6, _, rfl, .inr ⟨nT, rfl⟩⟩
  rintro σ' H5 ⟨s5, vm, rfl, hm⟩
  have hd := hd.same s5
  have s35 := s4.trans s5
  have g5 := s35 _ _ g1
  have s05 := s03.trans s35
  have oi := oNums_in [a, b, c]
  walk_at "rdc"
  refine ⟨D, _, rfl, .inl (SqL.of g5), rfl, oNums_flat _, ?_⟩
  walk_at "rdc"
  by_cases c3 : inV .non (([a, b, c] : List (List Nat)).map oNum) = true
  · rw [c3]
    refine iteT (iteT ?_)
    walk_at "rdc"
    exact no (fun z => oi.mp c3 fun w hw => by
      rcases List.mem_cons.mp hw with rfl | hw
      · exact z.1
      rcases List.mem_cons.mp hw with rfl | hw
      · exact z.2.1
      · rw [List.mem_singleton.mp hw]
        exact z.2.2.1) _ s05
  rw [(Bool.not_eq_true _).mp c3]
  refine iteF ?_
  have all : ∀ w ∈ ([a, b, c] : List (List Nat)), IsNum w := Classical.byContradiction fun n => c3 (oi.mpr n)
  have Na := all a (by simp)
  have Nb := all b (by simp)
  have Nc := all c (by simp)
  walk_at "rdc"
  refine ⟨rfl, ?_⟩
  walk_at "rdc"
  rcases hd with ⟨Td, ld, ud, rfl, ed, hD⟩ | ⟨nT, rfl⟩
  rotate_left
  · refine iteD rfl (iteT ?_)
    walk_at "rdc"
    exact no (fun z => nT z.2.2.2.1) _ s05
  refine iteN (fun z => by cases z) ?_
  walk_at "rdc"
  refine ⟨rfl, ?_⟩
  walk_at "rdc"
  rcases hm with ⟨Tm', lm, um, rfl, em, hM⟩ | ⟨nT, rfl⟩
  rotate_left
  · refine iteD rfl ?_
    walk_at "rdc"
    exact no (fun z => nT z.2.2.2.2) _ s05
  refine iteN (fun z => by cases z) ?_
  have F : MoonF (a :: b :: rest) (numVal a) (numVal b) ((A.drop 2).map tmOf) (numVal c) (m.map tmOf) := by
    have e2 : ∃ t, A = a :: b :: t := by
      match A, eus with
      | [], e => exact absurd (List.cons.inj e).1 (num_slash Na)
      | [x], e => exact absurd (List.cons.inj (List.cons.inj e).2).1 (num_slash Nb)
      | x :: y :: t, e => exact ⟨t, by rw [(List.cons.inj e).1, (List.cons.inj (List.cons.inj e).2).1]⟩
    obtain ⟨t, rfl⟩ := e2
    rw [eus]
    exact .mk Na Nb Nc Td Tm'
  have bad : ¬ GoodMo (numVal b) ((A.drop 2).map tmOf) (numVal c) (m.map tmOf) → saysT H Q "measure" := qm _ _ _ _ _ F
  rw [oNums_y all] at g5
  walk_at "rdc"
  refine rd_ixL (SqL.of g5) at_n1 ?_
  walk_at "rdc"
  refine ⟨ld, _, _, ud, _, rfl, ed, hD, few_map wd, tmOf_sg _, fun cb H6 s6 hcb => ?_⟩
  walk_at "rdc"
  by_cases d6 : cb = true
  rotate_left
  · rw [(Bool.not_eq_true _).mp d6]
    refine iteT (iteT ?_)
    walk_at "rdc"
    exact bad (fun g => d6 (hcb.mpr ⟨g.fwd, g.okd, g.fd, g.gd⟩)) _ (s05.trans s6)
  have A1 := hcb.mp d6
  rw [d6]
  refine iteF ?_
  walk_at "rdc"
  refine rd_ixL (SqL.of (s6 _ _ g5)) at_n2 ?_
  walk_at "rdc"
  refine ⟨lm, _, _, um, _, rfl, s6 _ _ em, hM.same s6, few_map wm, tmOf_sg _, fun cb2 H7 s7 hcb2 => ?_⟩
  walk_at "rdc"
  by_cases d7 : cb2 = true
  rotate_left
  · rw [(Bool.not_eq_true _).mp d7]
    refine iteT ?_
    walk_at "rdc"
    exact bad (fun g => d7 (hcb2.mpr ⟨g.fwm, g.okm, g.fm, g.gm⟩)) _ ((s05.trans s6).trans s7)
  have A2 := hcb2.mp d7
  rw [d7]
  refine iteF ?_
  walk_at "rdc"
  exact q _ _ _ _ _ F ⟨A1.f, A1.g, A2.f, A2.g, A1.ok, A2.ok, A1.few, A2.few⟩ _ ((s05.trans s6).trans s7)
theorem sc_law_due : FnScope ["_law_text", "_law_words_here"] ["_law_text"] (defScope s_law_due) := ⟨rfl, rfl, rfl, by decide +kernel, rfl, by decide +kernel, by decide +kernel⟩
theorem ok_law_due {f : Addr} {fd : FuncData} (F : Fun K "_law_due" "_law_due" s_law_due f fd) (c__law_of_sun : Cal P w K mg base 4 "_law_of_sun" ["_law_words_here"] spOfSun73) (c__law_of_moon : Cal P w K mg base 4 "_law_of_moon" ["_law_words_here"] spOfMoon73) (z_isinstance : mg "isinstance" = none) (z_str : mg "str" = none) (z_len : mg "len" = none) : FnOk P w K mg base CX0 5 f fd ["_law_text"] spDue73 := by
  refine F.ok (k := 4) sc_law_due (fun vs H Q E h => ?_) (fun cdv A outer s H vs Q E hr h => ?_)
  · obtain ⟨v, rfl, _⟩ := h
    rfl
  obtain ⟨v, rfl, hv, q, qm, qt⟩ := h
  refine ⟨_, (pss_cons (ps_if (PW.pt (pw_or (pt_not (pt_val (pe_callB call_isi rfl z_isinstance PyProof.Rows.boot_isinstance (pa_cons (pv 0) (pa_cons (pe_bltn rfl z_str PyProof.Rows.boot_str (rel_ty _)) pa_nil))))) (pw_or1 (pt_cmpR op_gt (pe_callB call_len_str rfl z_len PySem.boot_len (pa_cons (pv 0) pa_nil)) pe_int (nomark _)))))
        (pss_one (ps_ret pe_str))
        pss_nil)
      (pss_cons (ps_set (i := 1) sc_law_due.nd rfl (by first | exact Or.inl rfl | exact Or.inr rfl) (pe_bm PySem.F.plainAttrs_str PySem.F.slot_str_split PySem.F.type_str_split mt_split (pv 0) (pa_cons pe_str pa_nil)))
      (pss_cons (ps_if (PW.pt (pw_and (pt_cmpR op_gt (pe_callB call_len_seq rfl z_len PySem.boot_len (pa_cons (pv 1) pa_nil)) pe_int (nomark _)) (pw_and1 (pt_cmpR op_eq (pe_ix ix_list (pv 1) pe_int (fun _ _ => rfl)) pe_str (nomark _)))))
        (pss_one (ps_ret (pe_cal c__law_of_sun (hr.mono (by decide)) rfl (pa_cons (pv 1) pa_nil))))
        pss_nil)
      (pss_cons (ps_if (PW.pt (pw_and (pt_cmpR op_gt (pe_callB call_len_seq rfl z_len PySem.boot_len (pa_cons (pv 1) pa_nil)) pe_int (nomark _)) (pw_and1 (pt_cmpR op_eq (pe_ix ix_list (pv 1) pe_int (fun _ _ => rfl)) pe_str (nomark _)))))
        (pss_one (ps_ret (pe_cal c__law_of_moon (hr.mono (by decide)) rfl (pa_cons (pv 1) pa_nil))))
        pss_nil)
      (pss_one (ps_ret pe_str)))))), ?_⟩
  walk_at "rdc"
  refine rd_isS hv ?_
  walk_at "rdc"
  have nt : isT v = false → saysT H Q "text" := fun e => qt fun ⟨d, z, ez, _⟩ => by rw [ez] at e; cases e
  cases hv with
  | non =>
    refine iteT (iteT ?_)
    walk_at "rdc"
    exact nt rfl _ (Same.refl _)
  | int i =>
    refine iteT (iteT ?_)
    walk_at "rdc"
    exact nt rfl _ (Same.refl _)
  | tup a xs e0 =>
    refine iteT (iteT ?_)
    walk_at "rdc"
    exact nt rfl _ (Same.refl _)
  | lst a xs e0 =>
    refine iteT (iteT ?_)
    walk_at "rdc"
    exact nt rfl _ (Same.refl _)
  | txt z hz =>
    have zc : (cpl z).length = z.length := len_cpl z
    refine iteF ?_
    walk_at "rdc"
    refine ⟨z, rfl, hz.fit, ?_⟩
    walk_at "rdc"
    by_cases c0 : 4000 < (z.length : Int)
    · refine iteD c0 ?_
      walk_at "rdc"
      exact qt (fun ⟨d, y, e, F⟩ => by cases e; cases F with | sun l _ _ => omega | moon l _ _ => omega) _ (Same.refl _)
    refine iteN c0 ?_
    have l4 : (cpl z).length ≤ 4000 := by omega
    walk_at "rdc"
    refine rd_bm ?_
    walk_at "rdc"
    refine ⟨rfl, ?_⟩
    walk_at "rdc"
    refine ⟨z, 32, rfl, by rw [e32], by decide, hz.len, fun l hl => ?_⟩
    have eV : (splS 32 z).map V.str = wV (spl 32 (cpl z)) := rfl
    rw [eV]
    have W : Wds (spl 32 (cpl z)) := ⟨by have := splS_len 32 z; unfold splS at this; rw [List.length_map] at this; show (spl 32 (cps z)).length ≤ 5000; omega, fun w hw => hz.part hw (spl_mem 32 _ w hw)⟩
    obtain ⟨w0, us, ew⟩ : ∃ w us, spl 32 (cpl z) = w :: us := ⟨_, _, spl_eta 32 _⟩
    rw [ew] at W ⊢
    have s1 := same_new hl (.lst (wV (w0 :: us)))
    have t1 : upd H l (.lst (wV (w0 :: us))) l = some (.lst (wV (w0 :: us))) := upd_same
    generalize upd H l (.lst (wV (w0 :: us))) = H1 at s1 t1 ⊢
    walk_at "rdc"
    refine ⟨l, _, rfl, .inl (SqL.of t1), ?_⟩
    walk_at "rdc"
    rw [wV_len]
    have noF : (∀ us', spl 32 (cpl z) = [115, 117, 110] :: us' → ¬ ∃ s ls lp ts, SunF us' s ls lp ts) → (∀ us', spl 32 (cpl z) = [109, 111, 111, 110] :: us' → ¬ ∃ s bd td bm tm, MoonF us' s bd td bm tm) → saysT H Q "text" := fun n1 n2 => qt fun ⟨d, y, e, F⟩ => by
      cases e
      cases F with
      | sun _ c F => exact n1 _ c ⟨_, _, _, _, F⟩
      | moon _ c F => exact n2 _ c ⟨_, _, _, _, _, F⟩
    have sh : us.length < 2 → saysT H Q "text" := fun h => noF (fun us' e ⟨_, _, _, _, F⟩ => by
      rw [ew] at e
      cases e
      cases F <;> simp only [List.length_cons, List.length_nil] at h <;> omega) (fun us' e ⟨_, _, _, _, _, F⟩ => by
      rw [ew] at e
      cases e
      cases F
      simp only [List.length_cons] at h
      omega)
    by_cases c1 : 2 < (((w0 :: us).length : Nat) : Int)
    rotate_left
    · refine iteN c1 (iteF ?_)
      walk_at "rdc"
      refine ⟨l, _, rfl, .inl (SqL.of t1), ?_⟩
      walk_at "rdc"
      rw [wV_len]
      refine iteN c1 (iteF ?_)
      walk_at "rdc"
      exact sh (by rw [List.length_cons] at c1; omega) _ s1
    have len2 : 2 ≤ us.length := by rw [List.length_cons] at c1; omega
    refine iteD c1 ?_
    walk_at "rdc"
    refine rd_ixL (SqL.of t1) at_n0 ?_
    walk_at "rdc"
    rw [eSun]
    by_cases c2 : w0 = [115, 117, 110]
    · subst c2
      refine iteD rfl ?_
      walk_at "rdc"
      refine ⟨l, _, us, rfl, t1, W, len2, fun s ls lp ts F g H2 s2 => q (.sun s ls lp ts) ⟨z, rfl, .sun l4 ew F⟩ g _ (s1.trans s2), fun s ls lp ts F g H2 s2 => qm (.sun s ls lp ts) ⟨z, rfl, .sun l4 ew F⟩ g _ (s1.trans s2), fun n H2 s2 => noF (fun us' e => ?_) (fun us' e => ?_) _ (s1.trans s2)⟩
      · rw [ew] at e
        cases e
        exact n
      · rw [ew] at e
        cases e
    refine iteN (fun z => c2 (txt_inj (V.str.inj z))) ?_
    walk_at "rdc"
    refine ⟨l, _, rfl, .inl (SqL.of t1), ?_⟩
    walk_at "rdc"
    rw [wV_len]
    refine iteD c1 ?_
    walk_at "rdc"
    refine rd_ixL (SqL.of t1) at_n0 ?_
    walk_at "rdc"
    rw [eMoon]
    by_cases c3 : w0 = [109, 111, 111, 110]
    · subst c3
      refine iteD rfl ?_
      walk_at "rdc"
      refine ⟨l, _, us, rfl, t1, W, (by decide), len2, fun s bd td bm tm F g H2 s2 => q (.moon s bd td bm tm) ⟨z, rfl, .moon l4 ew F⟩ g _ (s1.trans s2), fun s bd td bm tm F g H2 s2 => qm (.moon s bd td bm tm) ⟨z, rfl, .moon l4 ew F⟩ g _ (s1.trans s2), fun n H2 s2 => noF (fun us' e => ?_) (fun us' e => ?_) _ (s1.trans s2)⟩
      · rw [ew] at e
        cases e
      · rw [ew] at e
        cases e
        exact n
    refine iteN (fun z => c3 (txt_inj (V.str.inj z))) ?_
    walk_at "rdc"
    refine noF (fun us' e => ?_) (fun us' e => ?_) _ s1
    · rw [ew] at e
      cases e
      exact absurd rfl c2
    · rw [ew] at e
      cases e
      exact absurd rfl c3
theorem sc_law_found : FnScope ["_law_text", "_law_told", "_law_word", "_law_plain", "e"] ["_law_text"] (defScope s_law_found) := ⟨rfl, rfl, rfl, by decide +kernel, rfl, by decide +kernel, by decide +kernel⟩
theorem ok_law_found {f : Addr} {fd : FuncData} (F : Fun K "_law_found" "_law_found" s_law_found f fd) (er : Errs K mg c_FeastError c_NoNumber c_NoMeasure c_NoText c_Measure c_Calendar c_Sun c_Moon) (c_read_calendar : CalE P w K mg base 10 "read_calendar" ["text"] (spReadCE K c_Sun c_Moon c_Measure c_NoText c_NoMeasure)) (c_Sun_shown : CalM P w K mg base CX0 3 c_Sun "shown" ["self"] (spShowS K c_Sun c_Measure)) (c_Moon_shown : CalM P w K mg base CX0 3 c_Moon "shown" ["self"] (spShowM K c_Moon c_Measure)) (z_isinstance : mg "isinstance" = none) : FnOk P w K mg base CX0 11 f fd ["_law_text"] spDue73 := by
  refine F.ok (k := 10) sc_law_found (fun vs H Q E h => ?_) (fun cdv A outer s H vs Q E hr h => ?_)
  · obtain ⟨v, rfl, _⟩ := h
    rfl
  obtain ⟨v, rfl, hv, q, qm, qt⟩ := h
  refine ⟨_, (pss_cons (ps_set (i := 1) sc_law_found.nd rfl (by first | exact Or.inl rfl | exact Or.inr rfl) pe_non)
      (pss_cons (ps_set (i := 2) sc_law_found.nd rfl (by first | exact Or.inl rfl | exact Or.inr rfl) pe_str)
      (pss_cons (ps_set (i := 3) sc_law_found.nd rfl (by first | exact Or.inl rfl | exact Or.inr rfl) pe_bl)
      (pss_cons (ps_cut (ps_try rfl rfl (fun _ _ _ T => (pss_one (ps_set (i := 1) sc_law_found.nd rfl (by first | exact Or.inl rfl | exact Or.inr rfl) (pe_calE T c_read_calendar (hr.mono (by decide)) rfl (pa_cons (pv 0) pa_nil)))))
        (phs_consA (i := 4) er.h_NoText rfl sc_law_found.nd rfl rfl (fun _ => (pss_cons (ps_set (i := 2) sc_law_found.nd rfl (by first | exact Or.inl rfl | exact Or.inr rfl) pe_str)
      (pss_one (ps_set (i := 3) sc_law_found.nd rfl (by first | exact Or.inl rfl | exact Or.inr rfl) (pe_and (pe_callB call_isiX rfl z_isinstance PyProof.Rows.boot_isinstance (pa_cons (pv 4) (pa_cons (pe_glob rfl er.m_FeastError (rel_ref _)) pa_nil))) (pe_one (pe_not (pe_callB call_isiX rfl z_isinstance PyProof.Rows.boot_isinstance (pa_cons (pv 4) (pa_cons (pe_glob rfl er.m_NoMeasure (rel_ref _)) pa_nil))))))))))
        (phs_consA (i := 4) er.h_NoMeasure rfl sc_law_found.nd rfl rfl (fun _ => (pss_cons (ps_set (i := 2) sc_law_found.nd rfl (by first | exact Or.inl rfl | exact Or.inr rfl) pe_str)
      (pss_one (ps_set (i := 3) sc_law_found.nd rfl (by first | exact Or.inl rfl | exact Or.inr rfl) (pe_and (pe_callB call_isiX rfl z_isinstance PyProof.Rows.boot_isinstance (pa_cons (pv 4) (pa_cons (pe_glob rfl er.m_FeastError (rel_ref _)) pa_nil))) (pe_one (pe_not (pe_callB call_isiX rfl z_isinstance PyProof.Rows.boot_isinstance (pa_cons (pv 4) (pa_cons (pe_glob rfl er.m_NoText (rel_ref _)) pa_nil))))))))))
        phs_nil))))
      (pss_cons (ps_if (PW.pt (pw_or (pt_not (pt_val (pv 3))) (pw_or1 (PW.pt (pw_and (pt_cmpR op_eq (pv 2) pe_str (nomark _)) (pw_and1 (PW.pt (pw_or (pt_cmpR op_isN (pv 1) pe_non (nomark _)) (pw_or1 (pt_cmpR op_ne (pe_mcalL0 (k := 3) (CalL.cons er.cl_Sun c_Sun_shown (by decide) (CalL.cons er.cl_Moon c_Moon_shown (by decide) CalL.nil)) (hr.mono (by decide)) (pv 1)) (pv 0) (nomark _)))))))))))
        (pss_one (ps_ret pe_str))
        pss_nil)
      (pss_one (ps_ret (pv 2)))))))), ?_⟩
  walk_at "rdx"
  by_cases D : ∃ d, CalV v d
  rotate_left
  · refine rd_cut (fun σ' H' => ∃ w' : Option V, Same H H' ∧ σ' = [some v, some .non, some (.str (Str.ofString "text")), some (.bl true), w']) ?_ ?_
    · walk_at "rdx"
      refine ⟨_, rfl, hv, fun d F => absurd ⟨d, F⟩ D, fun d F => absurd ⟨d, F⟩ D, fun _ H3 s3 ea hea => ?_⟩
      refine rd_handA er.r_NoText_NoText ?_
      have s4 := same_new hea (ExcO ea (.ref c_NoText) none)
      have t4 : upd H3 ea (ExcO ea (.ref c_NoText) none) ea = some (ExcO ea (.ref c_NoText) none) := upd_same
      generalize upd H3 ea (ExcO ea (.ref c_NoText) none) = H4 at t4 s4 ⊢
      walk_at "rdx"
      refine rd_isiX t4 trivial er.g_NoText rfl er.i_NoText_FeastError ?_
      walk_at "rdx"
      refine iteT ?_
      walk_at "rdx"
      refine rd_isiX t4 trivial er.g_NoText rfl er.i_NoText_NoMeasure ?_
      walk_at "rdx"
      exact ⟨_, s3.trans s4, rfl⟩
    rintro σ' H4 ⟨w', s4, rfl⟩
    walk_at "rdx"
    refine iteF ?_
    walk_at "rdx"
    refine iteN (fun z => absurd (V.str.inj z) (by decide +kernel)) (iteF ?_)
    walk_at "rdx"
    exact qt D _ s4
  obtain ⟨d, F⟩ := D
  by_cases g : d.good
  rotate_left
  · refine rd_cut (fun σ' H' => ∃ w' : Option V, Same H H' ∧ σ' = [some v, some .non, some (.str (Str.ofString "measure")), some (.bl true), w']) ?_ ?_
    · walk_at "rdx"
      refine ⟨_, rfl, hv, fun e G ge => absurd (by rw [F.uniq G]; exact ge) g, fun e G _ H3 s3 ea hea => ?_, fun n => absurd ⟨d, F⟩ n⟩
      refine rd_handAN er.r_NoMeasure_NoText ?_
      refine rd_handA er.r_NoMeasure_NoMeasure ?_
      have s4 := same_new hea (ExcO ea (.ref c_NoMeasure) none)
      have t4 : upd H3 ea (ExcO ea (.ref c_NoMeasure) none) ea = some (ExcO ea (.ref c_NoMeasure) none) := upd_same
      generalize upd H3 ea (ExcO ea (.ref c_NoMeasure) none) = H4 at t4 s4 ⊢
      walk_at "rdx"
      refine rd_isiX t4 trivial er.g_NoMeasure rfl er.i_NoMeasure_FeastError ?_
      walk_at "rdx"
      refine iteT ?_
      walk_at "rdx"
      refine rd_isiX t4 trivial er.g_NoMeasure rfl er.i_NoMeasure_NoText ?_
      walk_at "rdx"
      exact ⟨_, s3.trans s4, rfl⟩
    rintro σ' H4 ⟨w', s4, rfl⟩
    walk_at "rdx"
    refine iteF ?_
    walk_at "rdx"
    refine iteN (fun z => absurd (V.str.inj z) (by decide +kernel)) (iteF ?_)
    walk_at "rdx"
    exact qm d F g _ s4
  refine rd_cut (fun σ' H' => ∃ (x : Addr) (w' : Option V), Same H H' ∧ CalO K c_Sun c_Moon c_Measure H' x d ∧ σ' = [some v, some (.ref x), some (.str (Str.ofString "told")), some (.bl true), w']) ?_ ?_
  · walk_at "rdx"
    refine ⟨_, rfl, hv, fun e G ge x H3 s3 S3 => ?_, fun e G ge => absurd (by rw [← F.uniq G]; exact g) ge, fun n => absurd ⟨d, F⟩ n⟩
    rw [← F.uniq G] at S3
    walk_at "rdx"
    exact ⟨x, _, s3, S3, rfl⟩
  rintro σ' H4 ⟨x, w', s4, S4, rfl⟩
  walk_at "rdx"
  obtain ⟨z, ez, F0⟩ := F
  subst ez
  obtain ⟨eT, sm⟩ := F0.back
  refine iteF ?_
  walk_at "rdx"
  refine iteD rfl ?_
  walk_at "rdx"
  refine ⟨rfl, ?_⟩
  walk_at "rdx"
  refine iteN (fun z => by cases z) ?_
  walk_at "rdx"
  obtain ⟨C, dx, fs, sp, hm, hx, hlk, use⟩ := CalO.show S4 sm
  refine ⟨x, C, dx, fs, sp, hm, rfl, hx, hlk, ?_⟩
  refine use S4 fun H5 s5 => ?_
  walk_at "rdx"
  rw [eT, txt_cpl]
  refine iteNS rfl ?_
  walk_at "rdx"
  exact q d ⟨z, rfl, F0⟩ g _ (s4.trans s5)
theorem sc_law : FnScope ["_law_script", "_law_text", "_law_cell", "_law_thing"] ["_law_script"] (defScope s_law) := ⟨rfl, rfl, rfl, by decide +kernel, rfl, by decide +kernel, by decide +kernel⟩
theorem ok_law {f : Addr} {fd : FuncData} (F : Fun K "law" "law" s_law f fd) (c__law_words : Cal P w K mg base 2 "_law_words" ["_law_script"] (spWords73 K)) (c__law_changed : Cal P w K mg base 2 "_law_changed" ["_law_text", "_law_cell"] spChg73) (c__law_found : Cal P w K mg base 11 "_law_found" ["_law_text"] spDue73) (c__law_due : Cal P w K mg base 5 "_law_due" ["_law_text"] spDue73) (c__law_cell_at : Cal P w K mg base 1 "_law_cell_at" ["_law_script", "_law_k"] (spCell K)) : FnOk P w K mg base CX0 12 f fd ["_law_script"] (spLaw K) := by
  refine F.ok (k := 11) sc_law (fun vs H Q E h => ?_) (fun cdv A outer s H vs Q E hr h => ?_)
  · obtain ⟨a, ns, rfl, _⟩ := h
    rfl
  obtain ⟨a, ns, rfl, hS, h63, hB, q⟩ := h
  refine ⟨_, (pss_cons (ps_set (i := 1) sc_law.nd rfl (by first | exact Or.inl rfl | exact Or.inr rfl) (pe_bm PySem.F.plainAttrs_str PySem.F.slot_str_join PySem.F.type_str_join mt_join pe_str (pa_cons (pe_cal c__law_words (hr.mono (by decide)) rfl (pa_cons (pv 0) pa_nil)) pa_nil)))
      (pss_cons (ps_for PassesOwn.never rfl (pi_list (pe_slice sl_list (pv 0) (po_some pe_int) (po_some pe_int))) (pg_name (i := 2) sc_law.nd rfl (by first | exact Or.inl rfl | exact Or.inr rfl))
        (pss_one (ps_set (i := 1) sc_law.nd rfl (by first | exact Or.inl rfl | exact Or.inr rfl) (pe_cal c__law_changed (hr.mono (by decide)) rfl (pa_cons (pv 1) (pa_cons (pv 2) pa_nil))))))
      (pss_cons (ps_if (pt_cmpR op_ne (pe_cal c__law_found (hr.mono (by decide)) rfl (pa_cons (pv 1) pa_nil)) (pe_cal c__law_due (hr.mono (by decide)) rfl (pa_cons (pv 1) pa_nil)) (nomark _))
        (pss_one (ps_ret pe_bl))
        pss_nil)
      (pss_cons (ps_set (i := 3) sc_law.nd rfl (by first | exact Or.inl rfl | exact Or.inr rfl) (pe_ix ix_list (pe_lst (pa_cons pe_non (pa_cons pe_int (pa_cons (pe_lst (pa_cons pe_str (pa_cons pe_str (pa_cons pe_str pa_nil)))) pa_nil)))) (pe_op op_mod (pe_cal c__law_cell_at (hr.mono (by decide)) rfl (pa_cons (pv 0) (pa_cons pe_int pa_nil))) pe_int) (fun _ _ => rfl)))
      (pss_one (ps_ret (pe_cmpR op_eq (pe_cal c__law_found (hr.mono (by decide)) rfl (pa_cons (pv 3) pa_nil)) pe_str (nomark _)))))))), ?_⟩
  walk_at "rdc"
  refine rd_bm ?_
  walk_at "rdc"
  refine ⟨rfl, ?_⟩
  walk_at "rdc"
  refine ⟨a, ns, rfl, hS, h63, fun l zs H1 s1 t1 W => ?_⟩
  walk_at "rdc"
  refine ⟨_, l, zs, rfl, rfl, SqL.of t1, (by rw [e32]; exact W.sum (by decide)), ?_⟩
  rw [e32]
  have tz := W.join (c := 32) (by decide)
  generalize Txt.join ⟨#[32]⟩ zs = z at tz ⊢
  have hS1 := s1.seq hS
  walk_at "rdc"
  refine rd_for (rd_iL ?_)
  walk_at "rdc"
  refine rd_slL hS1 fun u hu => ?_
  have ec : cutV (ns.map V.int) (some 4) (some 6) = ((ns.take 6).drop 4).map V.int := by
    rw [show (some 4 : Option Int) = some ((4 : Nat) : Int) from rfl, show (some 6 : Option Int) = some ((6 : Nat) : Int) from rfl, cutN, ← List.map_take, ← List.map_drop]
  rw [ec]
  have ml : ((ns.take 6).drop 4).length ≤ 2 := by rw [List.length_drop, List.length_take]; omega
  generalize (ns.take 6).drop 4 = ms at ml ⊢
  have s2 := same_new hu (.lst (ms.map V.int))
  have t2 : upd H1 u (.lst (ms.map V.int)) u = some (.lst (ms.map V.int)) := upd_same
  generalize upd H1 u (.lst (ms.map V.int)) = H2 at s2 t2 ⊢
  refine ⟨u, rfl, ⟨_, SqL.of t2⟩, for_list (fun i σ' H' => Same H2 H' ∧ ∃ (y : Str) (v : Option V), TL (bd73 i) y ∧ σ' = [some (.ref a), some (.str y), v, none]) ⟨Same.refl _, z, _, tz, rfl⟩ (fun i σ' H' _ ⟨s, _⟩ => SqL.of (s _ _ t2)) ?_ ?_⟩
  · rintro i x σ' H3 hx ⟨s3, y, v, ty, rfl⟩
    rw [List.getElem?_map] at hx
    obtain ⟨n, hn, rfl⟩ := Option.map_eq_some_iff.mp hx
    have il : i < ms.length := (List.getElem?_eq_some_iff.mp hn).1
    walk_at "rdc"
    refine ⟨bd73 i, y, n, rfl, ty, ?_, fun y2 H4 s4 ty2 => ?_⟩
    · rcases (by omega : i = 0 ∨ i = 1) with e | e <;> subst e <;> decide
    · walk_at "rdc"
      refine ⟨s3.trans s4, y2, _, ty2.mono ?_, rfl⟩
      rcases (by omega : i = 0 ∨ i = 1) with e | e <;> subst e <;> decide
  rintro σ' H3 ⟨s3, y, v, ty, rfl⟩
  have tok : TOk y := ty.ok (by unfold bd73; split <;> (try split) <;> decide)
  have hS3 := (s2.trans s3).seq hS1
  obtain ⟨z0, _, hz0⟩ := word_of (.str y)
  walk_at "rdc"
  refine ⟨_, rfl, .txt y tok, hz0 _ _ fun H4 s4 => ?_⟩
  walk_at "rdc"
  refine ⟨_, rfl, .txt y tok, hz0 _ _ fun H5 s5 => ?_⟩
  walk_at "rdc"
  refine iteNS rfl ?_
  walk_at "rdc"
  have s35 := s4.trans s5
  refine ⟨(by show 3 ≤ sizeLine; decide), fun p1 hp1 => ?_⟩
  have s6 := same_new hp1 (.lst [.str (Str.ofString "sun"), .str (Str.ofString "0"), .str (Str.ofString "30")])
  have t6 : upd H5 p1 (.lst [.str (Str.ofString "sun"), .str (Str.ofString "0"), .str (Str.ofString "30")]) p1 = some (.lst [.str (Str.ofString "sun"), .str (Str.ofString "0"), .str (Str.ofString "30")]) := upd_same
  generalize upd H5 p1 (.lst [.str (Str.ofString "sun"), .str (Str.ofString "0"), .str (Str.ofString "30")]) = H6 at s6 t6 ⊢
  walk_at "rdc"
  refine ⟨(by show 3 ≤ sizeLine; decide), fun p2 hp2 => ?_⟩
  have s7 := same_new hp2 (.lst [.non, .int 7, .ref p1])
  have t7 : upd H6 p2 (.lst [.non, .int 7, .ref p1]) p2 = some (.lst [.non, .int 7, .ref p1]) := upd_same
  generalize upd H6 p2 (.lst [.non, .int 7, .ref p1]) = H7 at s7 t7 ⊢
  have hS7 := (s35.trans (s6.trans s7)).seq hS3
  walk_at "rdc"
  generalize ns.getD (Int.toNat 0) 0 = c0
  obtain ⟨v3, hv3, h3, n3⟩ : ∃ v3, atI [V.non, .int 7, .ref p1] (c0 % 3) = some v3 ∧ Hnd H7 v3 ∧ isT v3 = false := by
    rcases (by omega : c0 % 3 = 0 ∨ c0 % 3 = 1 ∨ c0 % 3 = 2) with e | e | e <;> rw [e]
    · exact ⟨.non, rfl, .non, rfl⟩
    · exact ⟨.int 7, rfl, .int 7, rfl⟩
    · exact ⟨.ref p1, rfl, .lst p1 _ (s7 _ _ t6), rfl⟩
  refine rd_ixL (SqL.of t7) hv3 ?_
  obtain ⟨z3, e3, hz3⟩ := word_of v3
  walk_at "rdc"
  refine ⟨_, rfl, h3, hz3 _ _ fun H8 s8 => ?_⟩
  rw [e3 (not_cal n3)]
  walk_at "rdc"
  exact q _
end
theorem all_mk {l : PySem.W.OpenLaw} {w : World} {K : PySem.W.Frag} {h : Heap} {mg : Str → Option Value} {fa f0 f1 f2 f3 f4 f5 f6 f7 f8 f9 f10 f11 f12 f13 f14 f15 f16 f17 f18 f19 f20 f21 f22 f23 f24 f25 f26 f27 f28 f29 f30 f31 f32 f33 f34 f35 f36 f37 f38 f39 f40 f41 f42 f43 : Addr} {c_FeastError c_NoNumber c_NoMeasure c_NoText c_Measure c_Calendar c_Sun c_Moon : Addr} (X : K.In h) (G : h.Ns mainGlobals mg) (hfa : mg "law" = some (.ref fa))
    {od0 an0 od1 an1 od2 an2 od3 an3 od4 an4 od5 an5 od6 an6 od7 an7 od8 an8 od9 an9 od10 an10 od11 an11 od12 an12 od13 an13 od14 an14 od15 an15 od16 an16 od17 an17 od18 an18 od19 an19 od20 an20 od21 an21 od22 an22 od23 an23 od24 an24 od25 an25 od26 an26 od27 an27 od28 an28 od29 an29 od30 an30 od31 an31 od32 an32 od33 an33 od34 an34 od35 an35 od36 an36 od37 an37 od38 an38 od39 an39 od40 an40 od41 an41 od42 an42 od43 an43 : Option Addr} {sl0 sl1 sl2 sl3 sl4 sl5 sl6 sl7 sl8 sl9 sl10 sl11 sl12 sl13 sl14 sl15 sl16 sl17 sl18 sl19 sl20 sl21 sl22 sl23 sl24 sl25 sl26 sl27 sl28 sl29 sl30 sl31 sl32 sl33 sl34 sl35 sl36 sl37 sl38 sl39 sl40 sl41 sl42 sl43 : Array (Option Value)} {oc0 kV0 dc0 pm0 cd0 ct0 oc1 kV1 dc1 pm1 cd1 ct1 oc2 kV2 dc2 pm2 cd2 ct2 oc3 kV3 dc3 pm3 cd3 ct3 oc4 kV4 dc4 pm4 cd4 ct4 oc5 kV5 dc5 pm5 cd5 ct5 oc6 kV6 dc6 pm6 cd6 ct6 oc7 kV7 dc7 pm7 cd7 ct7 oc8 kV8 dc8 pm8 cd8 ct8 oc9 kV9 dc9 pm9 cd9 ct9 oc10 kV10 dc10 pm10 cd10 ct10 oc11 kV11 dc11 pm11 cd11 ct11 oc12 kV12 dc12 pm12 cd12 ct12 oc13 kV13 dc13 pm13 cd13 ct13 oc14 kV14 dc14 pm14 cd14 ct14 oc15 kV15 dc15 pm15 cd15 ct15 oc16 kV16 dc16 pm16 cd16 ct16 oc17 kV17 dc17 pm17 cd17 ct17 oc18 kV18 dc18 pm18 cd18 ct18 oc19 kV19 dc19 pm19 cd19 ct19 oc20 kV20 dc20 pm20 cd20 ct20 oc21 kV21 dc21 pm21 cd21 ct21 oc22 kV22 dc22 pm22 cd22 ct22 oc23 kV23 dc23 pm23 cd23 ct23 oc24 kV24 dc24 pm24 cd24 ct24 oc25 kV25 dc25 pm25 cd25 ct25 oc26 kV26 dc26 pm26 cd26 ct26 oc27 kV27 dc27 pm27 cd27 ct27 oc28 kV28 dc28 pm28 cd28 ct28 oc29 kV29 dc29 pm29 cd29 ct29 oc30 kV30 dc30 pm30 cd30 ct30 oc31 kV31 dc31 pm31 cd31 ct31 oc32 kV32 dc32 pm32 cd32 ct32 oc33 kV33 dc33 pm33 cd33 ct33 oc34 kV34 dc34 pm34 cd34 ct34 oc35 kV35 dc35 pm35 cd35 ct35 oc36 kV36 dc36 pm36 cd36 ct36 oc37 kV37 dc37 pm37 cd37 ct37 oc38 kV38 dc38 pm38 cd38 ct38 oc39 kV39 dc39 pm39 cd39 ct39 oc40 kV40 dc40 pm40 cd40 ct40 oc41 kV41 dc41 pm41 cd41 ct41 oc42 kV42 dc42 pm42 cd42 ct42 oc43 kV43 dc43 pm43 cd43 ct43 : Value} {tk_GREATEST_N : Tok} {tk_GREATEST_BASE : Tok} {tk_MOST_TERMS : Tok} {tk_MOST_MONTHS : Tok} {tk_LONGEST_MONTH : Tok} {tk_MOST_FIGURES : Tok} {tk_FIGURES : Tok} {tk_MOST_SIGNS : Tok}
    {T10 : Addr} {to10 : Value} {td10 : Option Addr} {tn10 : Nat} {ts10 : Array (Option Value)}
    {T12 : Addr} {to12 : Value} {td12 : Option Addr} {tn12 : Nat} {ts12 : Array (Option Value)} {tkd_Sun___init___0 : Tok}
    (n_FeastError : PySem.W.nsIn K mainGlobals "FeastError" = some (some (.ref c_FeastError)))
    (n_NoNumber : PySem.W.nsIn K mainGlobals "NoNumber" = some (some (.ref c_NoNumber)))
    (n_NoMeasure : PySem.W.nsIn K mainGlobals "NoMeasure" = some (some (.ref c_NoMeasure)))
    (t_NoMeasure : PySem.W.typeIn K (.ref c_NoMeasure) = some (.type "type"))
    (k_NoMeasure : PySem.W.hasDictIn K c_NoMeasure = true)
    (b_NoMeasure : PySem.W.mroIn K c_NoMeasure (.type "BaseException") = some true)
    (n_NoText : PySem.W.nsIn K mainGlobals "NoText" = some (some (.ref c_NoText)))
    (t_NoText : PySem.W.typeIn K (.ref c_NoText) = some (.type "type"))
    (k_NoText : PySem.W.hasDictIn K c_NoText = true)
    (b_NoText : PySem.W.mroIn K c_NoText (.type "BaseException") = some true)
    (e_NoText : PySem.W.excIn K c_NoText bmV "ValueError.__new__" = true)
    (ga_NoText : PySem.W.findIn K (.ref c_NoText) "__getattribute__" = some (some (.builtin "BaseException.__getattribute__")))
    (gk_NoText : PySem.W.findIn K (.ref c_NoText) "__getattr__" = some none)
    (ob_NoText : PySem.W.mroIn K c_NoText (.type "object") = some true)
    (ca_NoText : PySem.W.findIn K (.ref c_NoText) "__class__" = some (some (.builtin "object.__class__")))
    (i_NoText_FeastError : PySem.W.kitOne K (.ref c_NoText) (.ref c_FeastError) = some true)
    (i_NoText_NoMeasure : PySem.W.kitOne K (.ref c_NoText) (.ref c_NoMeasure) = some false)
    (r_NoText_NoText : PySem.W.mroIn K c_NoText (.ref c_NoText) = some true)
    (e_NoMeasure : PySem.W.excIn K c_NoMeasure bmV "ValueError.__new__" = true)
    (ga_NoMeasure : PySem.W.findIn K (.ref c_NoMeasure) "__getattribute__" = some (some (.builtin "BaseException.__getattribute__")))
    (gk_NoMeasure : PySem.W.findIn K (.ref c_NoMeasure) "__getattr__" = some none)
    (ob_NoMeasure : PySem.W.mroIn K c_NoMeasure (.type "object") = some true)
    (ca_NoMeasure : PySem.W.findIn K (.ref c_NoMeasure) "__class__" = some (some (.builtin "object.__class__")))
    (i_NoMeasure_FeastError : PySem.W.kitOne K (.ref c_NoMeasure) (.ref c_FeastError) = some true)
    (r_NoMeasure_NoMeasure : PySem.W.mroIn K c_NoMeasure (.ref c_NoMeasure) = some true)
    (r_NoMeasure_NoText : PySem.W.mroIn K c_NoMeasure (.ref c_NoText) = some false)
    (i_NoMeasure_NoText : PySem.W.kitOne K (.ref c_NoMeasure) (.ref c_NoText) = some false)
    (n_Measure : PySem.W.nsIn K mainGlobals "Measure" = some (some (.ref c_Measure)))
    (pg_Measure : PySem.W.plainGet K c_Measure Str.empty = true)
    (k_Measure : PySem.W.hasDictIn K c_Measure = true)
    (po_Measure : PySem.W.plainOver K c_Measure = true)
    (sa_Measure : PySem.W.findIn K (.ref c_Measure) "__setattr__" = some (some (.builtin "object.__setattr__")))
    (mk_Measure : PySem.W.makesIn K c_Measure = true)
    (kp_Measure : PySem.W.keepIn K (.ref c_Measure) = true)
    (na_Measure_base : PySem.W.findIn K (.ref c_Measure) "base" = some none)
    (na_Measure_terms : PySem.W.findIn K (.ref c_Measure) "terms" = some none)
    (na_Measure_full_count : PySem.W.findIn K (.ref c_Measure) "full_count" = some none)
    (na_Measure_full_sum : PySem.W.findIn K (.ref c_Measure) "full_sum" = some none)
    (n_Sun : PySem.W.nsIn K mainGlobals "Sun" = some (some (.ref c_Sun)))
    (pg_Sun : PySem.W.plainGet K c_Sun Str.empty = true)
    (k_Sun : PySem.W.hasDictIn K c_Sun = true)
    (po_Sun : PySem.W.plainOver K c_Sun = true)
    (sa_Sun : PySem.W.findIn K (.ref c_Sun) "__setattr__" = some (some (.builtin "object.__setattr__")))
    (mk_Sun : PySem.W.makesIn K c_Sun = true)
    (kp_Sun : PySem.W.keepIn K (.ref c_Sun) = true)
    (na_Sun_start : PySem.W.findIn K (.ref c_Sun) "start" = some none)
    (na_Sun_months : PySem.W.findIn K (.ref c_Sun) "months" = some none)
    (na_Sun_leap : PySem.W.findIn K (.ref c_Sun) "leap" = some none)
    (na_Sun_years : PySem.W.findIn K (.ref c_Sun) "years" = some none)
    (n_Moon : PySem.W.nsIn K mainGlobals "Moon" = some (some (.ref c_Moon)))
    (pg_Moon : PySem.W.plainGet K c_Moon Str.empty = true)
    (k_Moon : PySem.W.hasDictIn K c_Moon = true)
    (po_Moon : PySem.W.plainOver K c_Moon = true)
    (sa_Moon : PySem.W.findIn K (.ref c_Moon) "__setattr__" = some (some (.builtin "object.__setattr__")))
    (mk_Moon : PySem.W.makesIn K c_Moon = true)
    (kp_Moon : PySem.W.keepIn K (.ref c_Moon) = true)
    (na_Moon_start : PySem.W.findIn K (.ref c_Moon) "start" = some none)
    (na_Moon_days : PySem.W.findIn K (.ref c_Moon) "days" = some none)
    (na_Moon_many : PySem.W.findIn K (.ref c_Moon) "many" = some none)
    (xsp : PySem.W.specialIn K (.builtin "object.__class__") "__get__" = some (some (.builtin "getset_descriptor.__get__")))
    (xtk : PySem.W.takesIn K (.builtin "object.__class__") = some true)
    (n_Calendar : PySem.W.nsIn K mainGlobals "Calendar" = some (some (.ref c_Calendar)))
    (a0 : PySem.W.nsIn K mainGlobals "refuse_below_one" = some (some (.ref f0))) (l0 : K.lookup f0 = some ⟨oc0, od0, .func (PySem.W.fnOf "refuse_below_one" "refuse_below_one" (defArgs s_refuse_below_one) (defBody s_refuse_below_one) (defScope s_refuse_below_one) .none kV0 dc0 pm0 an0 cd0 ct0), sl0⟩) (c0 : PySem.W.codeIn K cd0 "refuse_below_one" = true) (k0 : PySem.W.keepIn K (.ref f0) = true)
    (a1 : PySem.W.nsIn K mainGlobals "equation" = some (some (.ref f1))) (l1 : K.lookup f1 = some ⟨oc1, od1, .func (PySem.W.fnOf "equation" "equation" (defArgs s_equation) (defBody s_equation) (defScope s_equation) .none kV1 dc1 pm1 an1 cd1 ct1), sl1⟩) (c1 : PySem.W.codeIn K cd1 "equation" = true) (k1 : PySem.W.keepIn K (.ref f1) = true)
    (a2 : PySem.W.nsIn K mainGlobals "divisor" = some (some (.ref f2))) (l2 : K.lookup f2 = some ⟨oc2, od2, .func (PySem.W.fnOf "divisor" "divisor" (defArgs s_divisor) (defBody s_divisor) (defScope s_divisor) .none kV2 dc2 pm2 an2 cd2 ct2), sl2⟩) (c2 : PySem.W.codeIn K cd2 "divisor" = true) (k2 : PySem.W.keepIn K (.ref f2) = true)
    (a3 : PySem.W.nsIn K mainGlobals "common" = some (some (.ref f3))) (l3 : K.lookup f3 = some ⟨oc3, od3, .func (PySem.W.fnOf "common" "common" (defArgs s_common) (defBody s_common) (defScope s_common) .none kV3 dc3 pm3 an3 cd3 ct3), sl3⟩) (c3 : PySem.W.codeIn K cd3 "common" = true) (k3 : PySem.W.keepIn K (.ref f3) = true)
    (a4 : PySem.W.nsIn K mainGlobals "signs_upto" = some (some (.ref f4))) (l4 : K.lookup f4 = some ⟨oc4, od4, .func (PySem.W.fnOf "signs_upto" "signs_upto" (defArgs s_signs_upto) (defBody s_signs_upto) (defScope s_signs_upto) .none kV4 dc4 pm4 an4 cd4 ct4), sl4⟩) (c4 : PySem.W.codeIn K cd4 "signs_upto" = true) (k4 : PySem.W.keepIn K (.ref f4) = true)
    (a5 : PySem.W.nsIn K mainGlobals "is_term" = some (some (.ref f5))) (l5 : K.lookup f5 = some ⟨oc5, od5, .func (PySem.W.fnOf "is_term" "is_term" (defArgs s_is_term) (defBody s_is_term) (defScope s_is_term) .none kV5 dc5 pm5 an5 cd5 ct5), sl5⟩) (c5 : PySem.W.codeIn K cd5 "is_term" = true) (k5 : PySem.W.keepIn K (.ref f5) = true)
    (a6 : PySem.W.nsIn K mainGlobals "least_length" = some (some (.ref f6))) (l6 : K.lookup f6 = some ⟨oc6, od6, .func (PySem.W.fnOf "least_length" "least_length" (defArgs s_least_length) (defBody s_least_length) (defScope s_least_length) .none kV6 dc6 pm6 an6 cd6 ct6), sl6⟩) (c6 : PySem.W.codeIn K cd6 "least_length" = true) (k6 : PySem.W.keepIn K (.ref f6) = true)
    (a7 : PySem.W.nsIn K mainGlobals "refuse_measure" = some (some (.ref f7))) (l7 : K.lookup f7 = some ⟨oc7, od7, .func (PySem.W.fnOf "refuse_measure" "refuse_measure" (defArgs s_refuse_measure) (defBody s_refuse_measure) (defScope s_refuse_measure) .none kV7 dc7 pm7 an7 cd7 ct7), sl7⟩) (c7 : PySem.W.codeIn K cd7 "refuse_measure" = true) (k7 : PySem.W.keepIn K (.ref f7) = true)
    (a8 : PySem.W.nsIn K mainGlobals "period_of" = some (some (.ref f8))) (l8 : K.lookup f8 = some ⟨oc8, od8, .func (PySem.W.fnOf "period_of" "period_of" (defArgs s_period_of) (defBody s_period_of) (defScope s_period_of) .none kV8 dc8 pm8 an8 cd8 ct8), sl8⟩) (c8 : PySem.W.codeIn K cd8 "period_of" = true) (k8 : PySem.W.keepIn K (.ref f8) = true)
    (a9 : PySem.W.findIn K (.ref c_Measure) "upto" = some (some (.ref f9))) (l9 : K.lookup f9 = some ⟨oc9, od9, .func (PySem.W.fnOf "upto" "Measure.upto" (defArgs s_Measure_upto) (defBody s_Measure_upto) (defScope s_Measure_upto) .none kV9 dc9 pm9 an9 cd9 ct9), sl9⟩) (c9 : PySem.W.codeIn K cd9 "Measure.upto" = true) (k9 : PySem.W.keepIn K (.ref f9) = true)
    (u9 : PySem.W.typeIn K (.ref f9) = some (.type "function"))
    (a10 : PySem.W.findIn K (.ref c_Measure) "__init__" = some (some (.ref f10))) (l10 : K.lookup f10 = some ⟨oc10, od10, .func (PySem.W.fnOf "__init__" "Measure.__init__" (defArgs s_Measure___init__) (defBody s_Measure___init__) (defScope s_Measure___init__) (.ref T10) kV10 dc10 pm10 an10 cd10 ct10), sl10⟩) (c10 : PySem.W.codeIn K cd10 "Measure.__init__" = true) (k10 : PySem.W.keepIn K (.ref f10) = true)
    (t10 : K.lookup T10 = some ⟨to10, td10, .seq #[.none] tn10, ts10⟩)
    (u10 : PySem.W.typeIn K (.ref f10) = some (.type "function"))
    (a11 : PySem.W.nsIn K mainGlobals "refuse_months" = some (some (.ref f11))) (l11 : K.lookup f11 = some ⟨oc11, od11, .func (PySem.W.fnOf "refuse_months" "refuse_months" (defArgs s_refuse_months) (defBody s_refuse_months) (defScope s_refuse_months) .none kV11 dc11 pm11 an11 cd11 ct11), sl11⟩) (c11 : PySem.W.codeIn K cd11 "refuse_months" = true) (k11 : PySem.W.keepIn K (.ref f11) = true)
    (a12 : PySem.W.findIn K (.ref c_Sun) "__init__" = some (some (.ref f12))) (l12 : K.lookup f12 = some ⟨oc12, od12, .func (PySem.W.fnOf "__init__" "Sun.__init__" (defArgs s_Sun___init__) (defBody s_Sun___init__) (defScope s_Sun___init__) (.ref T12) kV12 dc12 pm12 an12 cd12 ct12), sl12⟩) (c12 : PySem.W.codeIn K cd12 "Sun.__init__" = true) (k12 : PySem.W.keepIn K (.ref f12) = true)
    (t12 : K.lookup T12 = some ⟨to12, td12, .seq #[(.int 1 tkd_Sun___init___0), .none] tn12, ts12⟩)
    (u12 : PySem.W.typeIn K (.ref f12) = some (.type "function"))
    (a13 : PySem.W.nsIn K mainGlobals "refuse_part" = some (some (.ref f13))) (l13 : K.lookup f13 = some ⟨oc13, od13, .func (PySem.W.fnOf "refuse_part" "refuse_part" (defArgs s_refuse_part) (defBody s_refuse_part) (defScope s_refuse_part) .none kV13 dc13 pm13 an13 cd13 ct13), sl13⟩) (c13 : PySem.W.codeIn K cd13 "refuse_part" = true) (k13 : PySem.W.keepIn K (.ref f13) = true)
    (a14 : PySem.W.findIn K (.ref c_Moon) "__init__" = some (some (.ref f14))) (l14 : K.lookup f14 = some ⟨oc14, od14, .func (PySem.W.fnOf "__init__" "Moon.__init__" (defArgs s_Moon___init__) (defBody s_Moon___init__) (defScope s_Moon___init__) .none kV14 dc14 pm14 an14 cd14 ct14), sl14⟩) (c14 : PySem.W.codeIn K cd14 "Moon.__init__" = true) (k14 : PySem.W.keepIn K (.ref f14) = true)
    (u14 : PySem.W.typeIn K (.ref f14) = some (.type "function"))
    (a15 : PySem.W.nsIn K mainGlobals "is_number" = some (some (.ref f15))) (l15 : K.lookup f15 = some ⟨oc15, od15, .func (PySem.W.fnOf "is_number" "is_number" (defArgs s_is_number) (defBody s_is_number) (defScope s_is_number) .none kV15 dc15 pm15 an15 cd15 ct15), sl15⟩) (c15 : PySem.W.codeIn K cd15 "is_number" = true) (k15 : PySem.W.keepIn K (.ref f15) = true)
    (a16 : PySem.W.nsIn K mainGlobals "read_number" = some (some (.ref f16))) (l16 : K.lookup f16 = some ⟨oc16, od16, .func (PySem.W.fnOf "read_number" "read_number" (defArgs s_read_number) (defBody s_read_number) (defScope s_read_number) .none kV16 dc16 pm16 an16 cd16 ct16), sl16⟩) (c16 : PySem.W.codeIn K cd16 "read_number" = true) (k16 : PySem.W.keepIn K (.ref f16) = true)
    (a17 : PySem.W.nsIn K mainGlobals "read_numbers" = some (some (.ref f17))) (l17 : K.lookup f17 = some ⟨oc17, od17, .func (PySem.W.fnOf "read_numbers" "read_numbers" (defArgs s_read_numbers) (defBody s_read_numbers) (defScope s_read_numbers) .none kV17 dc17 pm17 an17 cd17 ct17), sl17⟩) (c17 : PySem.W.codeIn K cd17 "read_numbers" = true) (k17 : PySem.W.keepIn K (.ref f17) = true)
    (a18 : PySem.W.nsIn K mainGlobals "read_term" = some (some (.ref f18))) (l18 : K.lookup f18 = some ⟨oc18, od18, .func (PySem.W.fnOf "read_term" "read_term" (defArgs s_read_term) (defBody s_read_term) (defScope s_read_term) .none kV18 dc18 pm18 an18 cd18 ct18), sl18⟩) (c18 : PySem.W.codeIn K cd18 "read_term" = true) (k18 : PySem.W.keepIn K (.ref f18) = true)
    (a19 : PySem.W.nsIn K mainGlobals "term_text" = some (some (.ref f19))) (l19 : K.lookup f19 = some ⟨oc19, od19, .func (PySem.W.fnOf "term_text" "term_text" (defArgs s_term_text) (defBody s_term_text) (defScope s_term_text) .none kV19 dc19 pm19 an19 cd19 ct19), sl19⟩) (c19 : PySem.W.codeIn K cd19 "term_text" = true) (k19 : PySem.W.keepIn K (.ref f19) = true)
    (a20 : PySem.W.nsIn K mainGlobals "term_words" = some (some (.ref f20))) (l20 : K.lookup f20 = some ⟨oc20, od20, .func (PySem.W.fnOf "term_words" "term_words" (defArgs s_term_words) (defBody s_term_words) (defScope s_term_words) .none kV20 dc20 pm20 an20 cd20 ct20), sl20⟩) (c20 : PySem.W.codeIn K cd20 "term_words" = true) (k20 : PySem.W.keepIn K (.ref f20) = true)
    (a21 : PySem.W.findIn K (.ref c_Sun) "shown" = some (some (.ref f21))) (l21 : K.lookup f21 = some ⟨oc21, od21, .func (PySem.W.fnOf "shown" "Sun.shown" (defArgs s_Sun_shown) (defBody s_Sun_shown) (defScope s_Sun_shown) .none kV21 dc21 pm21 an21 cd21 ct21), sl21⟩) (c21 : PySem.W.codeIn K cd21 "Sun.shown" = true) (k21 : PySem.W.keepIn K (.ref f21) = true)
    (u21 : PySem.W.typeIn K (.ref f21) = some (.type "function"))
    (a22 : PySem.W.findIn K (.ref c_Moon) "shown" = some (some (.ref f22))) (l22 : K.lookup f22 = some ⟨oc22, od22, .func (PySem.W.fnOf "shown" "Moon.shown" (defArgs s_Moon_shown) (defBody s_Moon_shown) (defScope s_Moon_shown) .none kV22 dc22 pm22 an22 cd22 ct22), sl22⟩) (c22 : PySem.W.codeIn K cd22 "Moon.shown" = true) (k22 : PySem.W.keepIn K (.ref f22) = true)
    (u22 : PySem.W.typeIn K (.ref f22) = some (.type "function"))
    (a23 : PySem.W.nsIn K mainGlobals "is_readable" = some (some (.ref f23))) (l23 : K.lookup f23 = some ⟨oc23, od23, .func (PySem.W.fnOf "is_readable" "is_readable" (defArgs s_is_readable) (defBody s_is_readable) (defScope s_is_readable) .none kV23 dc23 pm23 an23 cd23 ct23), sl23⟩) (c23 : PySem.W.codeIn K cd23 "is_readable" = true) (k23 : PySem.W.keepIn K (.ref f23) = true)
    (a24 : PySem.W.nsIn K mainGlobals "read_terms" = some (some (.ref f24))) (l24 : K.lookup f24 = some ⟨oc24, od24, .func (PySem.W.fnOf "read_terms" "read_terms" (defArgs s_read_terms) (defBody s_read_terms) (defScope s_read_terms) .none kV24 dc24 pm24 an24 cd24 ct24), sl24⟩) (c24 : PySem.W.codeIn K cd24 "read_terms" = true) (k24 : PySem.W.keepIn K (.ref f24) = true)
    (a25 : PySem.W.nsIn K mainGlobals "read_sun" = some (some (.ref f25))) (l25 : K.lookup f25 = some ⟨oc25, od25, .func (PySem.W.fnOf "read_sun" "read_sun" (defArgs s_read_sun) (defBody s_read_sun) (defScope s_read_sun) .none kV25 dc25 pm25 an25 cd25 ct25), sl25⟩) (c25 : PySem.W.codeIn K cd25 "read_sun" = true) (k25 : PySem.W.keepIn K (.ref f25) = true)
    (a26 : PySem.W.nsIn K mainGlobals "read_moon" = some (some (.ref f26))) (l26 : K.lookup f26 = some ⟨oc26, od26, .func (PySem.W.fnOf "read_moon" "read_moon" (defArgs s_read_moon) (defBody s_read_moon) (defScope s_read_moon) .none kV26 dc26 pm26 an26 cd26 ct26), sl26⟩) (c26 : PySem.W.codeIn K cd26 "read_moon" = true) (k26 : PySem.W.keepIn K (.ref f26) = true)
    (a27 : PySem.W.nsIn K mainGlobals "read_calendar" = some (some (.ref f27))) (l27 : K.lookup f27 = some ⟨oc27, od27, .func (PySem.W.fnOf "read_calendar" "read_calendar" (defArgs s_read_calendar) (defBody s_read_calendar) (defScope s_read_calendar) .none kV27 dc27 pm27 an27 cd27 ct27), sl27⟩) (c27 : PySem.W.codeIn K cd27 "read_calendar" = true) (k27 : PySem.W.keepIn K (.ref f27) = true)
    (a28 : PySem.W.nsIn K mainGlobals "_law_cell_at" = some (some (.ref f28))) (l28 : K.lookup f28 = some ⟨oc28, od28, .func (PySem.W.fnOf "_law_cell_at" "_law_cell_at" (defArgs s_law_cell_at) (defBody s_law_cell_at) (defScope s_law_cell_at) .none kV28 dc28 pm28 an28 cd28 ct28), sl28⟩) (c28 : PySem.W.codeIn K cd28 "_law_cell_at" = true) (k28 : PySem.W.keepIn K (.ref f28) = true)
    (a29 : PySem.W.nsIn K mainGlobals "_law_word_of" = some (some (.ref f29))) (l29 : K.lookup f29 = some ⟨oc29, od29, .func (PySem.W.fnOf "_law_word_of" "_law_word_of" (defArgs s_law_word_of) (defBody s_law_word_of) (defScope s_law_word_of) .none kV29 dc29 pm29 an29 cd29 ct29), sl29⟩) (c29 : PySem.W.codeIn K cd29 "_law_word_of" = true) (k29 : PySem.W.keepIn K (.ref f29) = true)
    (a30 : PySem.W.nsIn K mainGlobals "_law_terms" = some (some (.ref f30))) (l30 : K.lookup f30 = some ⟨oc30, od30, .func (PySem.W.fnOf "_law_terms" "_law_terms" (defArgs s_law_terms) (defBody s_law_terms) (defScope s_law_terms) .none kV30 dc30 pm30 an30 cd30 ct30), sl30⟩) (c30 : PySem.W.codeIn K cd30 "_law_terms" = true) (k30 : PySem.W.keepIn K (.ref f30) = true)
    (a31 : PySem.W.nsIn K mainGlobals "_law_words" = some (some (.ref f31))) (l31 : K.lookup f31 = some ⟨oc31, od31, .func (PySem.W.fnOf "_law_words" "_law_words" (defArgs s_law_words) (defBody s_law_words) (defScope s_law_words) .none kV31 dc31 pm31 an31 cd31 ct31), sl31⟩) (c31 : PySem.W.codeIn K cd31 "_law_words" = true) (k31 : PySem.W.keepIn K (.ref f31) = true)
    (a32 : PySem.W.nsIn K mainGlobals "_law_cut" = some (some (.ref f32))) (l32 : K.lookup f32 = some ⟨oc32, od32, .func (PySem.W.fnOf "_law_cut" "_law_cut" (defArgs s_law_cut) (defBody s_law_cut) (defScope s_law_cut) .none kV32 dc32 pm32 an32 cd32 ct32), sl32⟩) (c32 : PySem.W.codeIn K cd32 "_law_cut" = true) (k32 : PySem.W.keepIn K (.ref f32) = true)
    (a33 : PySem.W.nsIn K mainGlobals "_law_free" = some (some (.ref f33))) (l33 : K.lookup f33 = some ⟨oc33, od33, .func (PySem.W.fnOf "_law_free" "_law_free" (defArgs s_law_free) (defBody s_law_free) (defScope s_law_free) .none kV33 dc33 pm33 an33 cd33 ct33), sl33⟩) (c33 : PySem.W.codeIn K cd33 "_law_free" = true) (k33 : PySem.W.keepIn K (.ref f33) = true)
    (a34 : PySem.W.nsIn K mainGlobals "_law_changed" = some (some (.ref f34))) (l34 : K.lookup f34 = some ⟨oc34, od34, .func (PySem.W.fnOf "_law_changed" "_law_changed" (defArgs s_law_changed) (defBody s_law_changed) (defScope s_law_changed) .none kV34 dc34 pm34 an34 cd34 ct34), sl34⟩) (c34 : PySem.W.codeIn K cd34 "_law_changed" = true) (k34 : PySem.W.keepIn K (.ref f34) = true)
    (a35 : PySem.W.nsIn K mainGlobals "_law_value" = some (some (.ref f35))) (l35 : K.lookup f35 = some ⟨oc35, od35, .func (PySem.W.fnOf "_law_value" "_law_value" (defArgs s_law_value) (defBody s_law_value) (defScope s_law_value) .none kV35 dc35 pm35 an35 cd35 ct35), sl35⟩) (c35 : PySem.W.codeIn K cd35 "_law_value" = true) (k35 : PySem.W.keepIn K (.ref f35) = true)
    (a36 : PySem.W.nsIn K mainGlobals "_law_values" = some (some (.ref f36))) (l36 : K.lookup f36 = some ⟨oc36, od36, .func (PySem.W.fnOf "_law_values" "_law_values" (defArgs s_law_values) (defBody s_law_values) (defScope s_law_values) .none kV36 dc36 pm36 an36 cd36 ct36), sl36⟩) (c36 : PySem.W.codeIn K cd36 "_law_values" = true) (k36 : PySem.W.keepIn K (.ref f36) = true)
    (a37 : PySem.W.nsIn K mainGlobals "_law_read_terms" = some (some (.ref f37))) (l37 : K.lookup f37 = some ⟨oc37, od37, .func (PySem.W.fnOf "_law_read_terms" "_law_read_terms" (defArgs s_law_read_terms) (defBody s_law_read_terms) (defScope s_law_read_terms) .none kV37 dc37 pm37 an37 cd37 ct37), sl37⟩) (c37 : PySem.W.codeIn K cd37 "_law_read_terms" = true) (k37 : PySem.W.keepIn K (.ref f37) = true)
    (a38 : PySem.W.nsIn K mainGlobals "_law_are_terms" = some (some (.ref f38))) (l38 : K.lookup f38 = some ⟨oc38, od38, .func (PySem.W.fnOf "_law_are_terms" "_law_are_terms" (defArgs s_law_are_terms) (defBody s_law_are_terms) (defScope s_law_are_terms) .none kV38 dc38 pm38 an38 cd38 ct38), sl38⟩) (c38 : PySem.W.codeIn K cd38 "_law_are_terms" = true) (k38 : PySem.W.keepIn K (.ref f38) = true)
    (a39 : PySem.W.nsIn K mainGlobals "_law_of_sun" = some (some (.ref f39))) (l39 : K.lookup f39 = some ⟨oc39, od39, .func (PySem.W.fnOf "_law_of_sun" "_law_of_sun" (defArgs s_law_of_sun) (defBody s_law_of_sun) (defScope s_law_of_sun) .none kV39 dc39 pm39 an39 cd39 ct39), sl39⟩) (c39 : PySem.W.codeIn K cd39 "_law_of_sun" = true) (k39 : PySem.W.keepIn K (.ref f39) = true)
    (a40 : PySem.W.nsIn K mainGlobals "_law_of_moon" = some (some (.ref f40))) (l40 : K.lookup f40 = some ⟨oc40, od40, .func (PySem.W.fnOf "_law_of_moon" "_law_of_moon" (defArgs s_law_of_moon) (defBody s_law_of_moon) (defScope s_law_of_moon) .none kV40 dc40 pm40 an40 cd40 ct40), sl40⟩) (c40 : PySem.W.codeIn K cd40 "_law_of_moon" = true) (k40 : PySem.W.keepIn K (.ref f40) = true)
    (a41 : PySem.W.nsIn K mainGlobals "_law_due" = some (some (.ref f41))) (l41 : K.lookup f41 = some ⟨oc41, od41, .func (PySem.W.fnOf "_law_due" "_law_due" (defArgs s_law_due) (defBody s_law_due) (defScope s_law_due) .none kV41 dc41 pm41 an41 cd41 ct41), sl41⟩) (c41 : PySem.W.codeIn K cd41 "_law_due" = true) (k41 : PySem.W.keepIn K (.ref f41) = true)
    (a42 : PySem.W.nsIn K mainGlobals "_law_found" = some (some (.ref f42))) (l42 : K.lookup f42 = some ⟨oc42, od42, .func (PySem.W.fnOf "_law_found" "_law_found" (defArgs s_law_found) (defBody s_law_found) (defScope s_law_found) .none kV42 dc42 pm42 an42 cd42 ct42), sl42⟩) (c42 : PySem.W.codeIn K cd42 "_law_found" = true) (k42 : PySem.W.keepIn K (.ref f42) = true)
    (a43 : PySem.W.nsIn K mainGlobals "law" = some (some (.ref f43))) (l43 : K.lookup f43 = some ⟨oc43, od43, .func (PySem.W.fnOf "law" "law" (defArgs s_law) (defBody s_law) (defScope s_law) .none kV43 dc43 pm43 an43 cd43 ct43), sl43⟩) (c43 : PySem.W.codeIn K cd43 "law" = true) (k43 : PySem.W.keepIn K (.ref f43) = true)
    (z_sum : PySem.W.nsIn K mainGlobals "sum" = some none)
    (z_len : PySem.W.nsIn K mainGlobals "len" = some none)
    (z_all : PySem.W.nsIn K mainGlobals "all" = some none)
    (z_tuple : PySem.W.nsIn K mainGlobals "tuple" = some none)
    (z_min : PySem.W.nsIn K mainGlobals "min" = some none)
    (z_max : PySem.W.nsIn K mainGlobals "max" = some none)
    (z_isinstance : PySem.W.nsIn K mainGlobals "isinstance" = some none)
    (z_str : PySem.W.nsIn K mainGlobals "str" = some none)
    (z_int : PySem.W.nsIn K mainGlobals "int" = some none)
    (z_range : PySem.W.nsIn K mainGlobals "range" = some none)
    (m_GREATEST_N : PySem.W.nsIn K mainGlobals "GREATEST_N" = some (some (.int 1000 tk_GREATEST_N)))
    (m_GREATEST_BASE : PySem.W.nsIn K mainGlobals "GREATEST_BASE" = some (some (.int 20000 tk_GREATEST_BASE)))
    (m_MOST_TERMS : PySem.W.nsIn K mainGlobals "MOST_TERMS" = some (some (.int 6 tk_MOST_TERMS)))
    (m_MOST_MONTHS : PySem.W.nsIn K mainGlobals "MOST_MONTHS" = some (some (.int 20 tk_MOST_MONTHS)))
    (m_LONGEST_MONTH : PySem.W.nsIn K mainGlobals "LONGEST_MONTH" = some (some (.int 1000 tk_LONGEST_MONTH)))
    (m_MOST_FIGURES : PySem.W.nsIn K mainGlobals "MOST_FIGURES" = some (some (.int 60 tk_MOST_FIGURES)))
    (m_FIGURES : PySem.W.nsIn K mainGlobals "FIGURES" = some (some (.str "0123456789" tk_FIGURES)))
    (m_MOST_SIGNS : PySem.W.nsIn K mainGlobals "MOST_SIGNS" = some (some (.int 4000 tk_MOST_SIGNS)))
    : ∃ fd : FuncData, (∀ (s : Shared) (v : Value), BindsTo s fd ⟨[v], []⟩ [("_law_script", v)]) ∧ ∀ base : Heap, K.In base → base.Ns mainGlobals mg → FnOk l.prog w K mg base CX0 12 fa fd ["_law_script"] (spLaw K) := by
  have e := hfa.symm.trans (PySem.W.mg_of X G a43)
  cases e
  have F0 := fun_mk (st := s_refuse_below_one) l0 c0 k0
  have b0 := F0.binds (ps := ["number"]) fun _ _ _ _ _ _ us hl => by obtain ⟨_, rfl⟩ := len1 hl; rfl
  have F1 := fun_mk (st := s_equation) l1 c1 k1
  have b1 := F1.binds (ps := ["one", "other"]) fun _ _ _ _ _ _ us hl => by obtain ⟨_, _, rfl⟩ := len2 hl; rfl
  have F2 := fun_mk (st := s_divisor) l2 c2 k2
  have b2 := F2.binds (ps := ["one", "other"]) fun _ _ _ _ _ _ us hl => by obtain ⟨_, _, rfl⟩ := len2 hl; rfl
  have F3 := fun_mk (st := s_common) l3 c3 k3
  have b3 := F3.binds (ps := ["one", "other"]) fun _ _ _ _ _ _ us hl => by obtain ⟨_, _, rfl⟩ := len2 hl; rfl
  have F4 := fun_mk (st := s_signs_upto) l4 c4 k4
  have b4 := F4.binds (ps := ["terms", "k"]) fun _ _ _ _ _ _ us hl => by obtain ⟨_, _, rfl⟩ := len2 hl; rfl
  have F5 := fun_mk (st := s_is_term) l5 c5 k5
  have b5 := F5.binds (ps := ["term"]) fun _ _ _ _ _ _ us hl => by obtain ⟨_, rfl⟩ := len1 hl; rfl
  have F6 := fun_mk (st := s_least_length) l6 c6 k6
  have b6 := F6.binds (ps := ["base", "terms"]) fun _ _ _ _ _ _ us hl => by obtain ⟨_, _, rfl⟩ := len2 hl; rfl
  have F7 := fun_mk (st := s_refuse_measure) l7 c7 k7
  have b7 := F7.binds (ps := ["base", "terms"]) fun _ _ _ _ _ _ us hl => by obtain ⟨_, _, rfl⟩ := len2 hl; rfl
  have F8 := fun_mk (st := s_period_of) l8 c8 k8
  have b8 := F8.binds (ps := ["terms"]) fun _ _ _ _ _ _ us hl => by obtain ⟨_, rfl⟩ := len1 hl; rfl
  have F9 := fun_mk (st := s_Measure_upto) l9 c9 k9
  have b9 := F9.binds (ps := ["self", "k"]) fun _ _ _ _ _ _ us hl => by obtain ⟨_, _, rfl⟩ := len2 hl; rfl
  have F10 := fun_mkD (st := s_Measure___init__) l10 c10 k10 t10 rfl
  have b10 := FunD.bindsD (ps := ["self", "base", "terms"]) (dv := []) 3 rfl F10 fun _ _ _ _ _ _ _ us hl => by obtain ⟨_, _, _, rfl⟩ := len3 hl; exact ⟨_, rfl, rfl⟩
  have F11 := fun_mk (st := s_refuse_months) l11 c11 k11
  have b11 := F11.binds (ps := ["lengths", "leap"]) fun _ _ _ _ _ _ us hl => by obtain ⟨_, _, rfl⟩ := len2 hl; rfl
  have F12 := fun_mkD (st := s_Sun___init__) l12 c12 k12 t12 rfl
  have b12 := FunD.bindsD (ps := ["self", "start", "lengths", "leap", "terms"]) (dv := []) 5 rfl F12 fun _ _ _ _ _ _ _ us hl => by obtain ⟨_, _, _, _, _, rfl⟩ := len5 hl; exact ⟨_, rfl, rfl⟩
  have b12_2 := FunD.bindsD (ps := ["self", "start", "lengths", "leap", "terms"]) (dv := [(.int 1 tkd_Sun___init___0), .none]) 3 rfl F12 fun _ _ _ _ _ _ _ us hl => by obtain ⟨_, _, _, rfl⟩ := len3 hl; exact ⟨_, rfl, rfl⟩
  have F13 := fun_mk (st := s_refuse_part) l13 c13 k13
  have b13 := F13.binds (ps := ["measure", "greatest"]) fun _ _ _ _ _ _ us hl => by obtain ⟨_, _, rfl⟩ := len2 hl; rfl
  have F14 := fun_mk (st := s_Moon___init__) l14 c14 k14
  have b14 := F14.binds (ps := ["self", "start", "days", "many"]) fun _ _ _ _ _ _ us hl => by obtain ⟨_, _, _, _, rfl⟩ := len4 hl; rfl
  have F15 := fun_mk (st := s_is_number) l15 c15 k15
  have b15 := F15.binds (ps := ["text"]) fun _ _ _ _ _ _ us hl => by obtain ⟨_, rfl⟩ := len1 hl; rfl
  have F16 := fun_mk (st := s_read_number) l16 c16 k16
  have b16 := F16.binds (ps := ["text"]) fun _ _ _ _ _ _ us hl => by obtain ⟨_, rfl⟩ := len1 hl; rfl
  have F17 := fun_mk (st := s_read_numbers) l17 c17 k17
  have b17 := F17.binds (ps := ["word"]) fun _ _ _ _ _ _ us hl => by obtain ⟨_, rfl⟩ := len1 hl; rfl
  have F18 := fun_mk (st := s_read_term) l18 c18 k18
  have b18 := F18.binds (ps := ["word"]) fun _ _ _ _ _ _ us hl => by obtain ⟨_, rfl⟩ := len1 hl; rfl
  have F19 := fun_mk (st := s_term_text) l19 c19 k19
  have b19 := F19.binds (ps := ["term"]) fun _ _ _ _ _ _ us hl => by obtain ⟨_, rfl⟩ := len1 hl; rfl
  have F20 := fun_mk (st := s_term_words) l20 c20 k20
  have b20 := F20.binds (ps := ["terms"]) fun _ _ _ _ _ _ us hl => by obtain ⟨_, rfl⟩ := len1 hl; rfl
  have F21 := fun_mk (st := s_Sun_shown) l21 c21 k21
  have b21 := F21.binds (ps := ["self"]) fun _ _ _ _ _ _ us hl => by obtain ⟨_, rfl⟩ := len1 hl; rfl
  have F22 := fun_mk (st := s_Moon_shown) l22 c22 k22
  have b22 := F22.binds (ps := ["self"]) fun _ _ _ _ _ _ us hl => by obtain ⟨_, rfl⟩ := len1 hl; rfl
  have F23 := fun_mk (st := s_is_readable) l23 c23 k23
  have b23 := F23.binds (ps := ["text"]) fun _ _ _ _ _ _ us hl => by obtain ⟨_, rfl⟩ := len1 hl; rfl
  have F24 := fun_mk (st := s_read_terms) l24 c24 k24
  have b24 := F24.binds (ps := ["words"]) fun _ _ _ _ _ _ us hl => by obtain ⟨_, rfl⟩ := len1 hl; rfl
  have F25 := fun_mk (st := s_read_sun) l25 c25 k25
  have b25 := F25.binds (ps := ["words"]) fun _ _ _ _ _ _ us hl => by obtain ⟨_, rfl⟩ := len1 hl; rfl
  have F26 := fun_mk (st := s_read_moon) l26 c26 k26
  have b26 := F26.binds (ps := ["words"]) fun _ _ _ _ _ _ us hl => by obtain ⟨_, rfl⟩ := len1 hl; rfl
  have F27 := fun_mk (st := s_read_calendar) l27 c27 k27
  have b27 := F27.binds (ps := ["text"]) fun _ _ _ _ _ _ us hl => by obtain ⟨_, rfl⟩ := len1 hl; rfl
  have F28 := fun_mk (st := s_law_cell_at) l28 c28 k28
  have b28 := F28.binds (ps := ["_law_script", "_law_k"]) fun _ _ _ _ _ _ us hl => by obtain ⟨_, _, rfl⟩ := len2 hl; rfl
  have F29 := fun_mk (st := s_law_word_of) l29 c29 k29
  have b29 := F29.binds (ps := ["_law_cell"]) fun _ _ _ _ _ _ us hl => by obtain ⟨_, rfl⟩ := len1 hl; rfl
  have F30 := fun_mk (st := s_law_terms) l30 c30 k30
  have b30 := F30.binds (ps := ["_law_cell"]) fun _ _ _ _ _ _ us hl => by obtain ⟨_, rfl⟩ := len1 hl; rfl
  have F31 := fun_mk (st := s_law_words) l31 c31 k31
  have b31 := F31.binds (ps := ["_law_script"]) fun _ _ _ _ _ _ us hl => by obtain ⟨_, rfl⟩ := len1 hl; rfl
  have F32 := fun_mk (st := s_law_cut) l32 c32 k32
  have b32 := F32.binds (ps := ["_law_text", "_law_cell"]) fun _ _ _ _ _ _ us hl => by obtain ⟨_, _, rfl⟩ := len2 hl; rfl
  have F33 := fun_mk (st := s_law_free) l33 c33 k33
  have b33 := F33.binds (ps := ["_law_cell", "_law_signs"]) fun _ _ _ _ _ _ us hl => by obtain ⟨_, _, rfl⟩ := len2 hl; rfl
  have F34 := fun_mk (st := s_law_changed) l34 c34 k34
  have b34 := F34.binds (ps := ["_law_text", "_law_cell"]) fun _ _ _ _ _ _ us hl => by obtain ⟨_, _, rfl⟩ := len2 hl; rfl
  have F35 := fun_mk (st := s_law_value) l35 c35 k35
  have b35 := F35.binds (ps := ["_law_word"]) fun _ _ _ _ _ _ us hl => by obtain ⟨_, rfl⟩ := len1 hl; rfl
  have F36 := fun_mk (st := s_law_values) l36 c36 k36
  have b36 := F36.binds (ps := ["_law_text"]) fun _ _ _ _ _ _ us hl => by obtain ⟨_, rfl⟩ := len1 hl; rfl
  have F37 := fun_mk (st := s_law_read_terms) l37 c37 k37
  have b37 := F37.binds (ps := ["_law_words_here"]) fun _ _ _ _ _ _ us hl => by obtain ⟨_, rfl⟩ := len1 hl; rfl
  have F38 := fun_mk (st := s_law_are_terms) l38 c38 k38
  have b38 := F38.binds (ps := ["_law_base", "_law_terms_here", "_law_most"]) fun _ _ _ _ _ _ us hl => by obtain ⟨_, _, _, rfl⟩ := len3 hl; rfl
  have F39 := fun_mk (st := s_law_of_sun) l39 c39 k39
  have b39 := F39.binds (ps := ["_law_words_here"]) fun _ _ _ _ _ _ us hl => by obtain ⟨_, rfl⟩ := len1 hl; rfl
  have F40 := fun_mk (st := s_law_of_moon) l40 c40 k40
  have b40 := F40.binds (ps := ["_law_words_here"]) fun _ _ _ _ _ _ us hl => by obtain ⟨_, rfl⟩ := len1 hl; rfl
  have F41 := fun_mk (st := s_law_due) l41 c41 k41
  have b41 := F41.binds (ps := ["_law_text"]) fun _ _ _ _ _ _ us hl => by obtain ⟨_, rfl⟩ := len1 hl; rfl
  have F42 := fun_mk (st := s_law_found) l42 c42 k42
  have b42 := F42.binds (ps := ["_law_text"]) fun _ _ _ _ _ _ us hl => by obtain ⟨_, rfl⟩ := len1 hl; rfl
  have F43 := fun_mk (st := s_law) l43 c43 k43
  have y_sum := PySem.W.mg_none_of X G z_sum
  have y_len := PySem.W.mg_none_of X G z_len
  have y_all := PySem.W.mg_none_of X G z_all
  have y_tuple := PySem.W.mg_none_of X G z_tuple
  have y_min := PySem.W.mg_none_of X G z_min
  have y_max := PySem.W.mg_none_of X G z_max
  have y_isinstance := PySem.W.mg_none_of X G z_isinstance
  have y_str := PySem.W.mg_none_of X G z_str
  have y_int := PySem.W.mg_none_of X G z_int
  have y_range := PySem.W.mg_none_of X G z_range
  have y_GREATEST_N := PySem.W.mg_of X G m_GREATEST_N
  have y_GREATEST_BASE := PySem.W.mg_of X G m_GREATEST_BASE
  have y_MOST_TERMS := PySem.W.mg_of X G m_MOST_TERMS
  have y_MOST_MONTHS := PySem.W.mg_of X G m_MOST_MONTHS
  have y_LONGEST_MONTH := PySem.W.mg_of X G m_LONGEST_MONTH
  have y_MOST_FIGURES := PySem.W.mg_of X G m_MOST_FIGURES
  have y_FIGURES := PySem.W.mg_of X G m_FIGURES
  have y_MOST_SIGNS := PySem.W.mg_of X G m_MOST_SIGNS
  refine ⟨PySem.W.fnOf "law" "law" (defArgs s_law) (defBody s_law) (defScope s_law) .none kV43 dc43 pm43 an43 cd43 ct43, fun s v => .of_eq rfl, fun base _ _ => ?_⟩
  have er : Errs K mg c_FeastError c_NoNumber c_NoMeasure c_NoText c_Measure c_Calendar c_Sun c_Moon := ⟨PySem.W.mg_of X G n_FeastError, PySem.W.mg_of X G n_NoMeasure, ⟨PySem.W.mg_of X G n_NoMeasure, t_NoMeasure, has_cls k_NoMeasure, b_NoMeasure⟩, PySem.W.mg_of X G n_NoText, ⟨PySem.W.mg_of X G n_NoText, t_NoText, has_cls k_NoText, b_NoText⟩, ⟨PySem.W.mg_of X G n_NoText, e_NoText⟩, ⟨ga_NoText, gk_NoText, b_NoText, ob_NoText, ca_NoText, has_cls k_NoText, xsp, xtk⟩, i_NoText_FeastError, i_NoText_NoMeasure, r_NoText_NoText, ⟨PySem.W.mg_of X G n_NoMeasure, e_NoMeasure⟩, ⟨ga_NoMeasure, gk_NoMeasure, b_NoMeasure, ob_NoMeasure, ca_NoMeasure, has_cls k_NoMeasure, xsp, xtk⟩, i_NoMeasure_FeastError, r_NoMeasure_NoMeasure, r_NoMeasure_NoText, i_NoMeasure_NoText, ⟨pg_Measure, k_Measure, po_Measure, sa_Measure⟩, na_Measure_base, na_Measure_terms, na_Measure_full_count, na_Measure_full_sum, ⟨pg_Sun, k_Sun, po_Sun, sa_Sun⟩, na_Sun_start, na_Sun_months, na_Sun_leap, na_Sun_years, ⟨pg_Moon, k_Moon, po_Moon, sa_Moon⟩, na_Moon_start, na_Moon_days, na_Moon_many⟩
  have C_refuse_below_one : Cal l.prog w K mg base 1 "refuse_below_one" ["number"] spRefuse := ⟨⟨f0, _, ok_refuse_below_one F0, b0, k0, PySem.W.mg_of X G a0⟩⟩
  have C_equation : Cal l.prog w K mg base 1 "equation" ["one", "other"] spEq := ⟨⟨f1, _, ok_equation F1, b1, k1, PySem.W.mg_of X G a1⟩⟩
  have C_divisor : Cal l.prog w K mg base 2 "divisor" ["one", "other"] spDivisor := ⟨⟨f2, _, ok_divisor F2 C_equation, b2, k2, PySem.W.mg_of X G a2⟩⟩
  have C_common : Cal l.prog w K mg base 3 "common" ["one", "other"] spCommon := ⟨⟨f3, _, ok_common F3 C_refuse_below_one C_divisor, b3, k3, PySem.W.mg_of X G a3⟩⟩
  have C_signs_upto : Cal l.prog w K mg base 1 "signs_upto" ["terms", "k"] (spSigns K) := ⟨⟨f4, _, ok_signs_upto F4 y_sum, b4, k4, PySem.W.mg_of X G a4⟩⟩
  have C_is_term : Cal l.prog w K mg base 1 "is_term" ["term"] spIsTermU := ⟨⟨f5, _, ok_is_term F5 y_GREATEST_N, b5, k5, PySem.W.mg_of X G a5⟩⟩
  have C_least_length : Cal l.prog w K mg base 1 "least_length" ["base", "terms"] (spLeastU K) := ⟨⟨f6, _, ok_least_length F6 y_len, b6, k6, PySem.W.mg_of X G a6⟩⟩
  have C_refuse_measure : CalE l.prog w K mg base 2 "refuse_measure" ["base", "terms"] (spRefuseME K c_NoMeasure) := ⟨⟨f7, _, ok_refuse_measure F7 er C_is_term C_least_length y_len y_all y_GREATEST_BASE y_MOST_TERMS, b7, k7, PySem.W.mg_of X G a7⟩⟩
  have C_period_of : Cal l.prog w K mg base 4 "period_of" ["terms"] (spPeriod K) := ⟨⟨f8, _, ok_period_of F8 C_common, b8, k8, PySem.W.mg_of X G a8⟩⟩
  have C_Measure_upto : CalM l.prog w K mg base CX0 2 c_Measure "upto" ["self", "k"] (spUpto K c_Measure) := ⟨⟨f9, _, ok_Measure_upto F9 er C_signs_upto, b9, ⟨a9, beq_iff_eq.mpr u9, k9⟩⟩⟩
  have C_Measure___init__ : CalI l.prog w K mg base (CX1 l.prog w) 5 "Measure" c_Measure ["self", "base", "terms"] (spInitME K c_Measure c_NoMeasure) := ⟨⟨f10, _, ok_Measure___init__ F10 er C_refuse_measure C_period_of C_Measure_upto y_tuple, b10, ⟨mk_Measure, a10, beq_iff_eq.mpr u10, kp_Measure⟩, PySem.W.mg_of X G n_Measure⟩⟩
  have C_refuse_months : CalE l.prog w K mg base 1 "refuse_months" ["lengths", "leap"] (spRefMoE K c_NoMeasure) := ⟨⟨f11, _, ok_refuse_months F11 er y_len y_min y_max y_MOST_MONTHS y_LONGEST_MONTH, b11, k11, PySem.W.mg_of X G a11⟩⟩
  have C_Sun___init__ : CalI l.prog w K mg base (CX1 l.prog w) 7 "Sun" c_Sun ["self", "start", "lengths", "leap", "terms"] (spInitSE K c_Sun c_Measure c_NoMeasure) := ⟨⟨f12, _, ok_Sun___init__ F12 er C_refuse_months C_Measure___init__ C_least_length y_tuple y_sum, b12, ⟨mk_Sun, a12, beq_iff_eq.mpr u12, kp_Sun⟩, PySem.W.mg_of X G n_Sun⟩⟩
  have C_Sun___init___d2 : CalID l.prog w K mg base (CX1 l.prog w) 7 "Sun" c_Sun ["self", "start", "lengths", "leap", "terms"] [(.int 1), .non] (spInitSE K c_Sun c_Measure c_NoMeasure) := ⟨⟨f12, _, _, ok_Sun___init__ F12 er C_refuse_months C_Measure___init__ C_least_length y_tuple y_sum, b12_2, (.cons (by first | exact rfl | exact rel_int _ _ | trivial) (.cons (by first | exact rfl | exact rel_int _ _ | trivial) .nil)), ⟨mk_Sun, a12, beq_iff_eq.mpr u12, kp_Sun⟩, PySem.W.mg_of X G n_Sun⟩⟩
  have C_refuse_part : CalE l.prog w K mg base 2 "refuse_part" ["measure", "greatest"] (spRefPtE K c_Measure c_NoMeasure) := ⟨⟨f13, _, ok_refuse_part F13 er C_least_length, b13, k13, PySem.W.mg_of X G a13⟩⟩
  have C_Moon___init__ : CalI l.prog w K mg base (CX1 l.prog w) 3 "Moon" c_Moon ["self", "start", "days", "many"] (spInitMoE K c_Moon c_Measure c_NoMeasure) := ⟨⟨f14, _, ok_Moon___init__ F14 er C_refuse_part y_LONGEST_MONTH y_MOST_MONTHS, b14, ⟨mk_Moon, a14, beq_iff_eq.mpr u14, kp_Moon⟩, PySem.W.mg_of X G n_Moon⟩⟩
  have C_is_number : Cal l.prog w K mg base 1 "is_number" ["text"] spIsNum := ⟨⟨f15, _, ok_is_number F15 y_len y_all y_MOST_FIGURES y_FIGURES, b15, k15, PySem.W.mg_of X G a15⟩⟩
  have C_read_number : CalE l.prog w K mg base 2 "read_number" ["text"] (spReadN c_NoText) := ⟨⟨f16, _, ok_read_number F16 er C_is_number y_isinstance y_str y_int, b16, k16, PySem.W.mg_of X G a16⟩⟩
  have C_read_numbers : CalE l.prog w K mg base 3 "read_numbers" ["word"] (spReadNsE K c_NoText) := ⟨⟨f17, _, ok_read_numbers F17 C_read_number, b17, k17, PySem.W.mg_of X G a17⟩⟩
  have C_read_term : CalE l.prog w K mg base 4 "read_term" ["word"] (spReadTE K c_NoText) := ⟨⟨f18, _, ok_read_term F18 er C_read_numbers y_len, b18, k18, PySem.W.mg_of X G a18⟩⟩
  have C_term_text : Cal l.prog w K mg base 1 "term_text" ["term"] (spTermText K) := ⟨⟨f19, _, ok_term_text F19 y_str, b19, k19, PySem.W.mg_of X G a19⟩⟩
  have C_term_words : Cal l.prog w K mg base 2 "term_words" ["terms"] (spTermWords K) := ⟨⟨f20, _, ok_term_words F20 C_term_text, b20, k20, PySem.W.mg_of X G a20⟩⟩
  have C_Sun_shown : CalM l.prog w K mg base CX0 3 c_Sun "shown" ["self"] (spShowS K c_Sun c_Measure) := ⟨⟨f21, _, ok_Sun_shown F21 er C_term_words y_str y_len, b21, ⟨a21, beq_iff_eq.mpr u21, k21⟩⟩⟩
  have C_Moon_shown : CalM l.prog w K mg base CX0 3 c_Moon "shown" ["self"] (spShowM K c_Moon c_Measure) := ⟨⟨f22, _, ok_Moon_shown F22 er C_term_words y_str, b22, ⟨a22, beq_iff_eq.mpr u22, k22⟩⟩⟩
  have C_is_readable : Cal l.prog w K mg base 1 "is_readable" ["text"] spReadable73 := ⟨⟨f23, _, ok_is_readable F23 y_isinstance y_str y_len y_MOST_SIGNS, b23, k23, PySem.W.mg_of X G a23⟩⟩
  have C_read_terms : CalE l.prog w K mg base 5 "read_terms" ["words"] (spReadTsE K c_NoText) := ⟨⟨f24, _, ok_read_terms F24 C_read_term, b24, k24, PySem.W.mg_of X G a24⟩⟩
  have C_read_sun : CalE l.prog w K mg base 9 "read_sun" ["words"] (spReadSE K c_Sun c_Measure c_NoText c_NoMeasure) := ⟨⟨f25, _, ok_read_sun F25 er C_read_number C_read_numbers C_Sun___init___d2 C_Sun___init__ C_read_terms y_len, b25, k25, PySem.W.mg_of X G a25⟩⟩
  have C_read_moon : CalE l.prog w K mg base 7 "read_moon" ["words"] (spReadME K c_Moon c_Measure c_NoText c_NoMeasure) := ⟨⟨f26, _, ok_read_moon F26 er C_read_number C_read_terms C_Moon___init__ C_Measure___init__ y_len, b26, k26, PySem.W.mg_of X G a26⟩⟩
  have C_read_calendar : CalE l.prog w K mg base 10 "read_calendar" ["text"] (spReadCE K c_Sun c_Moon c_Measure c_NoText c_NoMeasure) := ⟨⟨f27, _, ok_read_calendar F27 er C_is_readable C_read_sun C_read_moon, b27, k27, PySem.W.mg_of X G a27⟩⟩
  have C_law_cell_at : Cal l.prog w K mg base 1 "_law_cell_at" ["_law_script", "_law_k"] (spCell K) := ⟨⟨f28, _, ok_law_cell_at F28 y_len, b28, k28, PySem.W.mg_of X G a28⟩⟩
  have C_law_word_of : Cal l.prog w K mg base 1 "_law_word_of" ["_law_cell"] spOddT := ⟨⟨f29, _, ok_law_word_of F29, b29, k29, PySem.W.mg_of X G a29⟩⟩
  have C_law_terms : Cal l.prog w K mg base 1 "_law_terms" ["_law_cell"] spTerms73 := ⟨⟨f30, _, ok_law_terms F30 y_range y_str, b30, k30, PySem.W.mg_of X G a30⟩⟩
  have C_law_words : Cal l.prog w K mg base 2 "_law_words" ["_law_script"] (spWords73 K) := ⟨⟨f31, _, ok_law_words F31 C_law_cell_at C_law_terms y_str y_range, b31, k31, PySem.W.mg_of X G a31⟩⟩
  have C_law_cut : Cal l.prog w K mg base 1 "_law_cut" ["_law_text", "_law_cell"] spCut73 := ⟨⟨f32, _, ok_law_cut F32 y_len, b32, k32, PySem.W.mg_of X G a32⟩⟩
  have C_law_free : Cal l.prog w K mg base 1 "_law_free" ["_law_cell", "_law_signs"] spFreeT := ⟨⟨f33, _, ok_law_free F33 y_range y_len, b33, k33, PySem.W.mg_of X G a33⟩⟩
  have C_law_changed : Cal l.prog w K mg base 2 "_law_changed" ["_law_text", "_law_cell"] spChg73 := ⟨⟨f34, _, ok_law_changed F34 C_law_cut C_law_word_of C_law_free y_len y_str, b34, k34, PySem.W.mg_of X G a34⟩⟩
  have C_law_value : Cal l.prog w K mg base 1 "_law_value" ["_law_word"] spVal73 := ⟨⟨f35, _, ok_law_value F35 y_len y_all y_int, b35, k35, PySem.W.mg_of X G a35⟩⟩
  have C_law_values : Cal l.prog w K mg base 2 "_law_values" ["_law_text"] spVals73 := ⟨⟨f36, _, ok_law_values F36 C_law_value, b36, k36, PySem.W.mg_of X G a36⟩⟩
  have C_law_read_terms : Cal l.prog w K mg base 3 "_law_read_terms" ["_law_words_here"] spRdTs73 := ⟨⟨f37, _, ok_law_read_terms F37 C_law_values y_len, b37, k37, PySem.W.mg_of X G a37⟩⟩
  have C_law_are_terms : Cal l.prog w K mg base 1 "_law_are_terms" ["_law_base", "_law_terms_here", "_law_most"] spAreT73 := ⟨⟨f38, _, ok_law_are_terms F38 y_len, b38, k38, PySem.W.mg_of X G a38⟩⟩
  have C_law_of_sun : Cal l.prog w K mg base 4 "_law_of_sun" ["_law_words_here"] spOfSun73 := ⟨⟨f39, _, ok_law_of_sun F39 C_law_value C_law_values C_law_read_terms C_law_are_terms y_len y_min y_max y_sum, b39, k39, PySem.W.mg_of X G a39⟩⟩
  have C_law_of_moon : Cal l.prog w K mg base 4 "_law_of_moon" ["_law_words_here"] spOfMoon73 := ⟨⟨f40, _, ok_law_of_moon F40 C_law_value C_law_read_terms C_law_are_terms, b40, k40, PySem.W.mg_of X G a40⟩⟩
  have C_law_due : Cal l.prog w K mg base 5 "_law_due" ["_law_text"] spDue73 := ⟨⟨f41, _, ok_law_due F41 C_law_of_sun C_law_of_moon y_isinstance y_str y_len, b41, k41, PySem.W.mg_of X G a41⟩⟩
  have C_law_found : Cal l.prog w K mg base 11 "_law_found" ["_law_text"] spDue73 := ⟨⟨f42, _, ok_law_found F42 er C_read_calendar C_Sun_shown C_Moon_shown y_isinstance, b42, k42, PySem.W.mg_of X G a42⟩⟩
  exact ok_law F43 C_law_words C_law_changed C_law_found C_law_due C_law_cell_at
end Fw
def PySem.W.Fast.tw1343156848500928954 : Unit := ()
def PySem.W.Fast.tw5487599880641331405 : Unit := ()
def PySem.W.Fast.tw7901270372631642763 : Unit := ()
def PySem.W.Fast.tw18415124630318952053 : Unit := ()
def PySem.W.Fast.tw128143137438930397 : Unit := ()
def PySem.W.Fast.tw16293896970489506602 : Unit := ()
def PySem.W.Fast.tw9605085491543462831 : Unit := ()
def PySem.W.Fast.tw12547960168062542172 : Unit := ()
def PySem.W.Fast.tw2465989227005939352 : Unit := ()
def PySem.W.Fast.tw5718621614483908032 : Unit := ()
def PySem.W.Fast.tw2351286688005716506 : Unit := ()
def PySem.W.Fast.tw11679618511087652053 : Unit := ()
def PySem.W.Fast.tw16290361499154351045 : Unit := ()
def PySem.W.Fast.tw14727919806176046988 : Unit := ()
open PySem PySem.W PyProof.Rows
set_option maxRecDepth 100000 in
set_option maxHeartbeats 0 in
theorem PySem.Challenge.cw_feastwheel_k73_calendar_texts_refused_holds : PySem.Challenge.rw_feastwheel_k73_calendar_texts_refused.Holds := by
  w_on; o_law; k_head; (case hw => w_witness2)
  k_fill
  refine L2.walk_ofB (l := PySem.Challenge.rw_feastwheel_k73_calendar_texts_refused) (k := 12) rfl rfl ⟨rfl, by decide, by decide, rfl⟩ (fun w h Y => PySem.W.kIn_of Y) ?F
  case F =>
    intro w mg fa h KX G hmg
    refine' Fw.all_mk KX G hmg ?n_FeastError ?n_NoNumber ?n_NoMeasure ?t_NoMeasure ?k_NoMeasure ?b_NoMeasure ?n_NoText ?t_NoText ?k_NoText ?b_NoText ?e_NoText ?ga_NoText ?gk_NoText ?ob_NoText ?ca_NoText ?i_NoText_FeastError ?i_NoText_NoMeasure ?r_NoText_NoText ?e_NoMeasure ?ga_NoMeasure ?gk_NoMeasure ?ob_NoMeasure ?ca_NoMeasure ?i_NoMeasure_FeastError ?r_NoMeasure_NoMeasure ?r_NoMeasure_NoText ?i_NoMeasure_NoText ?n_Measure ?pg_Measure ?k_Measure ?po_Measure ?sa_Measure ?mk_Measure ?kp_Measure ?na_Measure_base ?na_Measure_terms ?na_Measure_full_count ?na_Measure_full_sum ?n_Sun ?pg_Sun ?k_Sun ?po_Sun ?sa_Sun ?mk_Sun ?kp_Sun ?na_Sun_start ?na_Sun_months ?na_Sun_leap ?na_Sun_years ?n_Moon ?pg_Moon ?k_Moon ?po_Moon ?sa_Moon ?mk_Moon ?kp_Moon ?na_Moon_start ?na_Moon_days ?na_Moon_many ?xsp ?xtk ?n_Calendar ?a0 ?l0 ?c0 ?k0 ?a1 ?l1 ?c1 ?k1 ?a2 ?l2 ?c2 ?k2 ?a3 ?l3 ?c3 ?k3 ?a4 ?l4 ?c4 ?k4 ?a5 ?l5 ?c5 ?k5 ?a6 ?l6 ?c6 ?k6 ?a7 ?l7 ?c7 ?k7 ?a8 ?l8 ?c8 ?k8 ?a9 ?l9 ?c9 ?k9 ?u9 ?a10 ?l10 ?c10 ?k10 ?t10 ?u10 ?a11 ?l11 ?c11 ?k11 ?a12 ?l12 ?c12 ?k12 ?t12 ?u12 ?a13 ?l13 ?c13 ?k13 ?a14 ?l14 ?c14 ?k14 ?u14 ?a15 ?l15 ?c15 ?k15 ?a16 ?l16 ?c16 ?k16 ?a17 ?l17 ?c17 ?k17 ?a18 ?l18 ?c18 ?k18 ?a19 ?l19 ?c19 ?k19 ?a20 ?l20 ?c20 ?k20 ?a21 ?l21 ?c21 ?k21 ?u21 ?a22 ?l22 ?c22 ?k22 ?u22 ?a23 ?l23 ?c23 ?k23 ?a24 ?l24 ?c24 ?k24 ?a25 ?l25 ?c25 ?k25 ?a26 ?l26 ?c26 ?k26 ?a27 ?l27 ?c27 ?k27 ?a28 ?l28 ?c28 ?k28 ?a29 ?l29 ?c29 ?k29 ?a30 ?l30 ?c30 ?k30 ?a31 ?l31 ?c31 ?k31 ?a32 ?l32 ?c32 ?k32 ?a33 ?l33 ?c33 ?k33 ?a34 ?l34 ?c34 ?k34 ?a35 ?l35 ?c35 ?k35 ?a36 ?l36 ?c36 ?k36 ?a37 ?l37 ?c37 ?k37 ?a38 ?l38 ?c38 ?k38 ?a39 ?l39 ?c39 ?k39 ?a40 ?l40 ?c40 ?k40 ?a41 ?l41 ?c41 ?k41 ?a42 ?l42 ?c42 ?k42 ?a43 ?l43 ?c43 ?k43 ?z_sum ?z_len ?z_all ?z_tuple ?z_min ?z_max ?z_isinstance ?z_str ?z_int ?z_range ?m_GREATEST_N ?m_GREATEST_BASE ?m_MOST_TERMS ?m_MOST_MONTHS ?m_LONGEST_MONTH ?m_MOST_FIGURES ?m_FIGURES ?m_MOST_SIGNS
    (case n_FeastError => k_is)
    (case n_NoNumber => k_is)
    (case n_NoMeasure => k_is)
    (case t_NoMeasure => k_is)
    (case k_NoMeasure => k_is)
    (case b_NoMeasure => k_is)
    (case n_NoText => k_is)
    (case t_NoText => k_is)
    (case k_NoText => k_is)
    (case b_NoText => k_is)
    (case e_NoText => k_exc)
    (case ga_NoText => k_is)
    (case gk_NoText => k_is)
    (case ob_NoText => k_is)
    (case ca_NoText => k_is)
    (case i_NoText_FeastError => kit_is)
    (case i_NoText_NoMeasure => kit_is)
    (case r_NoText_NoText => k_is)
    (case e_NoMeasure => k_exc)
    (case ga_NoMeasure => k_is)
    (case gk_NoMeasure => k_is)
    (case ob_NoMeasure => k_is)
    (case ca_NoMeasure => k_is)
    (case i_NoMeasure_FeastError => kit_is)
    (case r_NoMeasure_NoMeasure => k_is)
    (case r_NoMeasure_NoText => k_is)
    (case i_NoMeasure_NoText => kit_is)
    (case n_Measure => k_is)
    (case pg_Measure => k_is)
    (case k_Measure => k_is)
    (case po_Measure => k_is)
    (case sa_Measure => k_is)
    (case mk_Measure => k_is)
    (case kp_Measure => k_is)
    (case na_Measure_base => k_is)
    (case na_Measure_terms => k_is)
    (case na_Measure_full_count => k_is)
    (case na_Measure_full_sum => k_is)
    (case n_Sun => k_is)
    (case pg_Sun => k_is)
    (case k_Sun => k_is)
    (case po_Sun => k_is)
    (case sa_Sun => k_is)
    (case mk_Sun => k_is)
    (case kp_Sun => k_is)
    (case na_Sun_start => k_is)
    (case na_Sun_months => k_is)
    (case na_Sun_leap => k_is)
    (case na_Sun_years => k_is)
    (case n_Moon => k_is)
    (case pg_Moon => k_is)
    (case k_Moon => k_is)
    (case po_Moon => k_is)
    (case sa_Moon => k_is)
    (case mk_Moon => k_is)
    (case kp_Moon => k_is)
    (case na_Moon_start => k_is)
    (case na_Moon_days => k_is)
    (case na_Moon_many => k_is)
    (case xsp => k_is)
    (case xtk => k_is)
    (case n_Calendar => k_is)
    (case a0 => k_is)
    (case l0 => k_is)
    (case c0 => k_is)
    (case k0 => k_is)
    (case a1 => k_is)
    (case l1 => k_is)
    (case c1 => k_is)
    (case k1 => k_is)
    (case a2 => k_is)
    (case l2 => k_is)
    (case c2 => k_is)
    (case k2 => k_is)
    (case a3 => k_is)
    (case l3 => k_is)
    (case c3 => k_is)
    (case k3 => k_is)
    (case a4 => k_is)
    (case l4 => k_is)
    (case c4 => k_is)
    (case k4 => k_is)
    (case a5 => k_is)
    (case l5 => k_is)
    (case c5 => k_is)
    (case k5 => k_is)
    (case a6 => k_is)
    (case l6 => k_is)
    (case c6 => k_is)
    (case k6 => k_is)
    (case a7 => k_is)
    (case l7 => k_is)
    (case c7 => k_is)
    (case k7 => k_is)
    (case a8 => k_is)
    (case l8 => k_is)
    (case c8 => k_is)
    (case k8 => k_is)
    (case a9 => k_is)
    (case l9 => k_is)
    (case c9 => k_is)
    (case k9 => k_is)
    (case u9 => k_is)
    (case a10 => k_is)
    (case l10 => k_is)
    (case c10 => k_is)
    (case k10 => k_is)
    (case t10 => k_is)
    (case u10 => k_is)
    (case a11 => k_is)
    (case l11 => k_is)
    (case c11 => k_is)
    (case k11 => k_is)
    (case a12 => k_is)
    (case l12 => k_is)
    (case c12 => k_is)
    (case k12 => k_is)
    (case t12 => k_is)
    (case u12 => k_is)
    (case a13 => k_is)
    (case l13 => k_is)
    (case c13 => k_is)
    (case k13 => k_is)
    (case a14 => k_is)
    (case l14 => k_is)
    (case c14 => k_is)
    (case k14 => k_is)
    (case u14 => k_is)
    (case a15 => k_is)
    (case l15 => k_is)
    (case c15 => k_is)
    (case k15 => k_is)
    (case a16 => k_is)
    (case l16 => k_is)
    (case c16 => k_is)
    (case k16 => k_is)
    (case a17 => k_is)
    (case l17 => k_is)
    (case c17 => k_is)
    (case k17 => k_is)
    (case a18 => k_is)
    (case l18 => k_is)
    (case c18 => k_is)
    (case k18 => k_is)
    (case a19 => k_is)
    (case l19 => k_is)
    (case c19 => k_is)
    (case k19 => k_is)
    (case a20 => k_is)
    (case l20 => k_is)
    (case c20 => k_is)
    (case k20 => k_is)
    (case a21 => k_is)
    (case l21 => k_is)
    (case c21 => k_is)
    (case k21 => k_is)
    (case u21 => k_is)
    (case a22 => k_is)
    (case l22 => k_is)
    (case c22 => k_is)
    (case k22 => k_is)
    (case u22 => k_is)
    (case a23 => k_is)
    (case l23 => k_is)
    (case c23 => k_is)
    (case k23 => k_is)
    (case a24 => k_is)
    (case l24 => k_is)
    (case c24 => k_is)
    (case k24 => k_is)
    (case a25 => k_is)
    (case l25 => k_is)
    (case c25 => k_is)
    (case k25 => k_is)
    (case a26 => k_is)
    (case l26 => k_is)
    (case c26 => k_is)
    (case k26 => k_is)
    (case a27 => k_is)
    (case l27 => k_is)
    (case c27 => k_is)
    (case k27 => k_is)
    (case a28 => k_is)
    (case l28 => k_is)
    (case c28 => k_is)
    (case k28 => k_is)
    (case a29 => k_is)
    (case l29 => k_is)
    (case c29 => k_is)
    (case k29 => k_is)
    (case a30 => k_is)
    (case l30 => k_is)
    (case c30 => k_is)
    (case k30 => k_is)
    (case a31 => k_is)
    (case l31 => k_is)
    (case c31 => k_is)
    (case k31 => k_is)
    (case a32 => k_is)
    (case l32 => k_is)
    (case c32 => k_is)
    (case k32 => k_is)
    (case a33 => k_is)
    (case l33 => k_is)
    (case c33 => k_is)
    (case k33 => k_is)
    (case a34 => k_is)
    (case l34 => k_is)
    (case c34 => k_is)
    (case k34 => k_is)
    (case a35 => k_is)
    (case l35 => k_is)
    (case c35 => k_is)
    (case k35 => k_is)
    (case a36 => k_is)
    (case l36 => k_is)
    (case c36 => k_is)
    (case k36 => k_is)
    (case a37 => k_is)
    (case l37 => k_is)
    (case c37 => k_is)
    (case k37 => k_is)
    (case a38 => k_is)
    (case l38 => k_is)
    (case c38 => k_is)
    (case k38 => k_is)
    (case a39 => k_is)
    (case l39 => k_is)
    (case c39 => k_is)
    (case k39 => k_is)
    (case a40 => k_is)
    (case l40 => k_is)
    (case c40 => k_is)
    (case k40 => k_is)
    (case a41 => k_is)
    (case l41 => k_is)
    (case c41 => k_is)
    (case k41 => k_is)
    (case a42 => k_is)
    (case l42 => k_is)
    (case c42 => k_is)
    (case k42 => k_is)
    (case a43 => k_is)
    (case l43 => k_is)
    (case c43 => k_is)
    (case k43 => k_is)
    (case z_sum => k_is)
    (case z_len => k_is)
    (case z_all => k_is)
    (case z_tuple => k_is)
    (case z_min => k_is)
    (case z_max => k_is)
    (case z_isinstance => k_is)
    (case z_str => k_is)
    (case z_int => k_is)
    (case z_range => k_is)
    (case m_GREATEST_N => k_is)
    (case m_GREATEST_BASE => k_is)
    (case m_MOST_TERMS => k_is)
    (case m_MOST_MONTHS => k_is)
    (case m_LONGEST_MONTH => k_is)
    (case m_MOST_FIGURES => k_is)
    (case m_FIGURES => k_is)
    (case m_MOST_SIGNS => k_is)
#print axioms PySem.Challenge.cw_feastwheel_k73_calendar_texts_refused_holds


